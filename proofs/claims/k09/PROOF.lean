import PyProof.Rows.All
import Wide.All
import OpenK.AllK
import Wide.FinOn
import HandS.ForMost
import HandS.IsInst
import HandS.Wide
import HandS.Codes
import HandS.Style
import HandS.TupLe
import HandS.TupAny
import HandS.EndBits
import HandS.Walk
import HandS.Zip
import KE.LtData
import HandS.ForExc
import HandS.ExcIs
import HandS.RaiseMore
import HandS.FStr
import HandS.Defaults
import HandS.SortKw
import KE.KRevSl
import HandS.DictComp
import HandS.DictEq
import PyProof.EqKinds
import HandS.SetKeys
import HandS.WordsDict
import HandS.DictComp
import HandS.DictTup
import HandS.Conv
import HandS.Flt
import PySem.Challenge.RW_hornbook_k09_unify_too_large
set_option Elab.async false
set_option linter.all false
set_option maxRecDepth 100000
set_option maxHeartbeats 4000000
set_option exponentiation.threshold 10000
namespace My
open PySem PySem.Spec PyProof.Rows L2
/-- a def of the text that keeps a promise, as its callers want it -/
def Has (P : Program) (w : World) (K : PySem.W.Frag) (mg : Str → Option Value) (base : Heap) (k : Nat) (x : Str) (ps : List Str) (sp : Sp) : Prop :=
  ∃ (f : Addr) (fd : FuncData), FnOk P w K mg base CX0 k f fd ps sp ∧ mg x = some (.ref f) ∧ PySem.W.keepIn K (.ref f) = true ∧ Binds K fd ps []
theorem same_upd {H : Hp} {p : Addr} {o : HO} (h : H p = none) : Same H (upd H p o) := fun b x e => by
  rw [upd_ne (ne_of_none e h)]
  exact e
/-- all but the object at s is as it was -/
def But (s : Addr) (H H' : Hp) : Prop := ∀ b o, b ≠ s → H b = some o → H' b = some o
theorem But.refl (s : Addr) (H : Hp) : But s H H := fun _ _ _ e => e
theorem But.trans {s : Addr} {H H1 H2 : Hp} (a : But s H H1) (b : But s H1 H2) : But s H H2 := fun c o hc e => b c o hc (a c o hc e)
theorem But.of {s : Addr} {H H' : Hp} (a : Same H H') : But s H H' := fun b o _ e => a b o e
theorem But.put {s : Addr} {H : Hp} {o : HO} : But s H (upd H s o) := fun b u hb e => by rw [upd_ne hb]; exact e
/-! ### what a value is -/
mutual
inductive Im (K : PySem.W.Frag) (G : Addr → Prop) (H : Hp) : V → PyData → Prop
  | non : Im K G H .non .none
  | bl (b : Bool) : Im K G H (.bl b) (.bool b)
  | int (i : Int) : Im K G H (.int i) (.int i)
  | str (x : Str) : Im K G H (.str x) (.str x)
  | lst {a : Addr} {xs : List V} {ds : List PyData} : G a → H a = some (.lst xs) → ImAll K G H xs ds → Im K G H (.ref a) (.list ds)
  | tup {a : Addr} {xs : List V} {ds : List PyData} : G a → H a = some (.tup xs) → ImAll K G H xs ds → Im K G H (.ref a) (.tuple ds)
inductive ImAll (K : PySem.W.Frag) (G : Addr → Prop) (H : Hp) : List V → List PyData → Prop
  | nil : ImAll K G H [] []
  | cons {v : V} {vs : List V} {d : PyData} {ds : List PyData} : Im K G H v d → ImAll K G H vs ds → ImAll K G H (v :: vs) (d :: ds)
end
section
variable {K : PySem.W.Frag} {G G' : Addr → Prop} {H H' : Hp}
mutual
theorem Im.mono (hH : ∀ b o, G b → H b = some o → H' b = some o) (hG : ∀ b, G b → G' b) : ∀ (d : PyData) (v : V), Im K G H v d → Im K G' H' v d
  | .none, _, h => by cases h; exact .non
  | .bool b, _, h => by cases h; exact .bl b
  | .int i, _, h => by cases h; exact .int i
  | .str x, _, h => by cases h; exact .str x
  | .list ds, _, h => by
    cases h with
    | lst g e ha => exact .lst (hG _ g) (hH _ _ g e) (Im.monoAll hH hG ds _ ha)
  | .tuple ds, _, h => by
    cases h with
    | tup g e ha => exact .tup (hG _ g) (hH _ _ g e) (Im.monoAll hH hG ds _ ha)
  | .dict _, _, h => by cases h
theorem Im.monoAll (hH : ∀ b o, G b → H b = some o → H' b = some o) (hG : ∀ b, G b → G' b) : ∀ (ds : List PyData) (vs : List V), ImAll K G H vs ds → ImAll K G' H' vs ds
  | [], _, h => by cases h; exact .nil
  | d :: ds, _, h => by
    cases h with
    | cons h1 h2 => exact .cons (Im.mono hH hG d _ h1) (Im.monoAll hH hG ds _ h2)
end
mutual
theorem Im.dp : ∀ (d : PyData) (v : V), Im K G H v d → Dp K H v d
  | .none, _, h => by cases h; exact .non
  | .bool b, _, h => by cases h; exact .bl b
  | .int i, _, h => by cases h; exact .int i
  | .str x, _, h => by cases h; exact .str x
  | .list ds, _, h => by
    cases h with
    | lst g e ha => exact .lst (SqL.of e) (Im.dpAll ds _ ha)
  | .tuple ds, _, h => by
    cases h with
    | tup g e ha => exact .tup (SqT.of e) (Im.dpAll ds _ ha)
  | .dict _, _, h => by cases h
theorem Im.dpAll : ∀ (ds : List PyData) (vs : List V), ImAll K G H vs ds → DpAll K H vs ds
  | [], _, h => by cases h; exact .nil
  | d :: ds, _, h => by
    cases h with
    | cons h1 h2 => exact .cons (Im.dp d _ h1) (Im.dpAll ds _ h2)
end
theorem ImAll.len : ∀ {vs : List V} {ds : List PyData}, ImAll K G H vs ds → vs.length = ds.length
  | _, _, .nil => rfl
  | _, _, .cons _ t => congrArg (· + 1) (ImAll.len t)
theorem ImAll.get : ∀ {vs : List V} {ds : List PyData} {i : Nat} {d : PyData}, ImAll K G H vs ds → ds[i]? = some d → ∃ v, vs[i]? = some v ∧ Im K G H v d
  | _, _, _, _, .nil, e => by simp at e
  | _, _, 0, _, .cons r _, e => by simp at e; subst e; exact ⟨_, rfl, r⟩
  | _, _, i + 1, _, .cons _ t, e => by
    obtain ⟨u, h1, h2⟩ := ImAll.get (i := i) t (by simpa using e)
    exact ⟨u, by simpa using h1, h2⟩
theorem ImAll.getV : ∀ {vs : List V} {ds : List PyData} {i : Nat} {v : V}, ImAll K G H vs ds → vs[i]? = some v → ∃ d, ds[i]? = some d ∧ Im K G H v d
  | _, _, _, _, .nil, e => by simp at e
  | _, _, 0, _, .cons r _, e => by simp at e; subst e; exact ⟨_, rfl, r⟩
  | _, _, i + 1, _, .cons _ t, e => by
    obtain ⟨u, h1, h2⟩ := ImAll.getV (i := i) t (by simpa using e)
    exact ⟨u, by simpa using h1, h2⟩
theorem ImAll.snoc : ∀ {vs : List V} {ds : List PyData} {v : V} {d : PyData}, ImAll K G H vs ds → Im K G H v d → ImAll K G H (vs ++ [v]) (ds ++ [d])
  | _, _, _, _, .nil, r => .cons r .nil
  | _, _, _, _, .cons q t, r => .cons q (ImAll.snoc t r)
theorem ImAll.app : ∀ {vs : List V} {ds : List PyData} {us : List V} {es : List PyData}, ImAll K G H vs ds → ImAll K G H us es → ImAll K G H (vs ++ us) (ds ++ es)
  | _, _, _, _, .nil, r => r
  | _, _, _, _, .cons q t, r => .cons q (ImAll.app t r)
end
section
variable {K : PySem.W.Frag} {H : Hp}
theorem DpAll.len : ∀ {vs : List V} {ds : List PyData}, DpAll K H vs ds → vs.length = ds.length
  | _, _, .nil => rfl
  | _, _, .cons _ t => congrArg (· + 1) (DpAll.len t)
theorem DpAll.get : ∀ {vs : List V} {ds : List PyData} {i : Nat} {d : PyData}, DpAll K H vs ds → ds[i]? = some d → ∃ v, vs[i]? = some v ∧ Dp K H v d
  | _, _, _, _, .nil, e => by simp at e
  | _, _, 0, _, .cons r _, e => by simp at e; subst e; exact ⟨_, rfl, r⟩
  | _, _, i + 1, _, .cons _ t, e => by
    obtain ⟨u, h1, h2⟩ := DpAll.get (i := i) t (by simpa using e)
    exact ⟨u, by simpa using h1, h2⟩
/-- the name of a value's class -/
def tyN : PyData → String
  | .none => "NoneType" | .bool _ => "bool" | .int _ => "int" | .str _ => "str" | .list _ => "list" | .tuple _ => "tuple" | .dict _ => "dict"
theorem tyx_of : ∀ {x : V} {d : PyData}, Dp K H x d → TyX K H x (.type (tyN d))
  | _, _, .non => .base .non
  | _, _, .bl b => .base (.bl b)
  | _, _, .int i => .base (.int i)
  | _, _, .str x => .base (.str x)
  | _, _, .lst h _ => by
    rcases h with (h | ⟨o, h⟩) | ⟨o, its, n, hk, hc, _⟩
    · exact .base (.lst h)
    · exact .base (.frz h)
    · exact .kList hk hc
  | _, _, .tup h _ => by
    rcases h with (h | ⟨o, h⟩) | ⟨o, its, n, hk, hc, _⟩
    · exact .base (.tup h)
    · exact .fTuple h
    · exact .kTuple hk hc
def isI : PyData → Bool
  | .int _ => true | .bool _ => true | _ => false
def isB : PyData → Bool
  | .bool _ => true | _ => false
def isS : PyData → Bool
  | .str _ => true | _ => false
def isT : PyData → Bool
  | .tuple _ => true | _ => false
def isL : PyData → Bool
  | .list _ => true | _ => false
theorem kitI (d : PyData) : kitB (tyN d) "int" = some (isI d) := by cases d <;> (show kitB _ "int" = _; simp only [tyN, isI]; decide +kernel)
theorem kitBo (d : PyData) : kitB (tyN d) "bool" = some (isB d) := by cases d <;> (show kitB _ "bool" = _; simp only [tyN, isB]; decide +kernel)
theorem kitS (d : PyData) : kitB (tyN d) "str" = some (isS d) := by cases d <;> (show kitB _ "str" = _; simp only [tyN, isS]; decide +kernel)
theorem kitT (d : PyData) : kitB (tyN d) "tuple" = some (isT d) := by cases d <;> (show kitB _ "tuple" = _; simp only [tyN, isT]; decide +kernel)
theorem kitL (d : PyData) : kitB (tyN d) "list" = some (isL d) := by cases d <;> (show kitB _ "list" = _; simp only [tyN, isL]; decide +kernel)
theorem isi_int {x : V} {d : PyData} {Q : VK} (h : Dp K H x d) (q : Q (.bl (isI d)) H) : rIsi K [x, .ty "int"] H Q := ⟨x, .ty "int", _, _, _, rfl, .ty _, tyx_of h, kit_ty (kitI d), q⟩
theorem isi_bool {x : V} {d : PyData} {Q : VK} (h : Dp K H x d) (q : Q (.bl (isB d)) H) : rIsi K [x, .ty "bool"] H Q := ⟨x, .ty "bool", _, _, _, rfl, .ty _, tyx_of h, kit_ty (kitBo d), q⟩
theorem isi_str {x : V} {d : PyData} {Q : VK} (h : Dp K H x d) (q : Q (.bl (isS d)) H) : rIsi K [x, .ty "str"] H Q := ⟨x, .ty "str", _, _, _, rfl, .ty _, tyx_of h, kit_ty (kitS d), q⟩
theorem isi_tup {x : V} {d : PyData} {Q : VK} (h : Dp K H x d) (q : Q (.bl (isT d)) H) : rIsi K [x, .ty "tuple"] H Q := ⟨x, .ty "tuple", _, _, _, rfl, .ty _, tyx_of h, kit_ty (kitT d), q⟩
theorem isi_list {x : V} {d : PyData} {Q : VK} (h : Dp K H x d) (q : Q (.bl (isL d)) H) : rIsi K [x, .ty "list"] H Q := ⟨x, .ty "list", _, _, _, rfl, .ty _, tyx_of h, kit_ty (kitL d), q⟩
end
/-! ### the stream of draws -/
structure Stm (H : Hp) (s l : Addr) : Prop where
  ex : ∃ (a b m : Int) (ns : List Int), H s = some (.lst [.ref l, .int a, .int b, .int m]) ∧ H l = some (.lst (ns.map V.int)) ∧ ns.length ≤ 63 ∧ 0 ≤ a ∧ 0 ≤ b ∧ 0 ≤ m ∧ m < 2147483647
theorem Stm.keep {H H' : Hp} {s l : Addr} (h : Stm H s l) (e : Same H H') : Stm H' s l := by
  obtain ⟨a, b, m, ns, h1, h2, r⟩ := h.ex
  exact ⟨a, b, m, ns, e _ _ h1, e _ _ h2, r⟩
/-- another object is changed -/
theorem Stm.put {H : Hp} {s l r : Addr} {o : HO} (h : Stm H s l) (h1 : s ≠ r) (h2 : l ≠ r) : Stm (upd H r o) s l := by
  obtain ⟨a, b, m, ns, e1, e2, q⟩ := h.ex
  exact ⟨a, b, m, ns, by rw [upd_ne h1]; exact e1, by rw [upd_ne h2]; exact e2, q⟩
theorem Stm.at_s {H : Hp} {s l : Addr} (h : Stm H s l) : ∃ o, H s = some o := by
  obtain ⟨a, b, m, ns, e1, e2, q⟩ := h.ex
  exact ⟨_, e1⟩
theorem Stm.at_l {H : Hp} {s l : Addr} (h : Stm H s l) : ∃ o, H l = some o := by
  obtain ⟨a, b, m, ns, e1, e2, q⟩ := h.ex
  exact ⟨_, e2⟩
/-- a constant of the module -/
def GV (mg : Str → Option Value) (x : Str) (v : V) : Prop := ∃ u, mg x = some u ∧ RelV v u
theorem pe_gC {X : Cx} {x : Str} {v : V} {pos : Pos} (hg : Gl X x) (h : GV X.mg x v) (hd : (x == ("__debug__" : Str)) = false := by decide) : PE X (.Name x pos) (tC v) := by
  obtain ⟨u, e, r⟩ := h
  exact pe_glob hg e r hd

/-! ### 'a' * 40 -/
section
variable {X : Cx}
theorem op_mulS : OpR X (binaryOp .Mult) (fun x y H Q => ∃ z i, x = .str z ∧ y = .int i ∧ MulOk z i ∧ Q (.str (Txt.mul z i)) H) := by
  intro pins s σ H x y v u Q I rx ry h
  obtain ⟨z, i, rfl, rfl, hk, q⟩ := h
  obtain ⟨t, rfl⟩ := rx
  obtain ⟨t', rfl⟩ := ry
  exact SB.mul hk fun t2 k => ⟨.str _, H, I.tok k, ⟨_, rfl⟩, q⟩
end
/-! ### data written out: each part of it is new -/
section
variable {K : PySem.W.Frag}
/-- an expression that makes data and changes nothing else -/
def Lit (K : PySem.W.Frag) (σ : L2.St) (t : TE) (d : PyData) : Prop := ∀ (H : Hp) (Q : VK), (∀ v H', Same H H' → Im K (fun b => H b = Option.none) H' v d → Q v H') → t σ H Q
def LitA (K : PySem.W.Frag) (σ : L2.St) (t : TA) (ds : List PyData) : Prop := ∀ (H : Hp) (Q : List V → Hp → Prop), (∀ vs H', Same H H' → ImAll K (fun b => H b = Option.none) H' vs ds → Q vs H') → t σ H Q
variable {σ : L2.St}
theorem lit_int {i : Int} : Lit K σ (tC (.int i)) (.int i) := fun H Q h => h _ H (Same.refl H) (.int i)
theorem lit_str {x : Str} : Lit K σ (tC (.str x)) (.str x) := fun H Q h => h _ H (Same.refl H) (.str x)
theorem lit_bl {b : Bool} : Lit K σ (tC (.bl b)) (.bool b) := fun H Q h => h _ H (Same.refl H) (.bl b)
theorem lit_non : Lit K σ (tC .non) .none := fun H Q h => h _ H (Same.refl H) .non
theorem litA_nil : LitA K σ tNil [] := fun H Q h => h _ H (Same.refl H) .nil
theorem litA_cons {t : TE} {ta : TA} {d : PyData} {ds : List PyData} (h1 : Lit K σ t d) (h2 : LitA K σ ta ds) : LitA K σ (tCons t ta) (d :: ds) := fun H Q h =>
  h1 H _ fun v H1 s1 i1 => h2 H1 _ fun vs H2 s2 i2 => h _ H2 (s1.trans s2) (.cons (Im.mono (fun b o _ e => s2 b o e) (fun _ e => e) _ _ i1) (Im.monoAll (fun _ _ _ e => e) (fun b e => s1.free e) _ _ i2))
theorem lit_tup {ta : TA} {ds : List PyData} (h1 : LitA K σ ta ds) (hz : ds.length ≤ sizeLine) : Lit K σ (tTup ta) (.tuple ds) := fun H Q h =>
  h1 H _ fun vs H1 s1 i1 => ⟨by rw [i1.len]; exact hz, fun p np => h _ _ (s1.trans (same_upd np)) (.tup (s1.free np) upd_same (Im.monoAll (fun b o _ e => same_upd np b o e) (fun _ e => e) _ _ i1))⟩
theorem lit_lst {ta : TA} {ds : List PyData} (h1 : LitA K σ ta ds) (hz : ds.length ≤ sizeLine) : Lit K σ (tLst ta) (.list ds) := fun H Q h =>
  h1 H _ fun vs H1 s1 i1 => ⟨by rw [i1.len]; exact hz, fun p np => h _ _ (s1.trans (same_upd np)) (.lst (s1.free np) upd_same (Im.monoAll (fun b o _ e => same_upd np b o e) (fun _ e => e) _ _ i1))⟩
/-- what is an int -/
theorem lit_neg {t : TE} {i : Int} (h1 : Lit K σ t (.int i)) : Lit K σ (tUn (rU fun i => .int (-i)) t) (.int (-i)) := fun H Q h =>
  h1 H _ fun v H1 s1 i1 => by
    cases i1
    exact ⟨_, rfl, h _ H1 s1 (.int _)⟩
theorem lit_sub {t u : TE} {i j : Int} (h1 : Lit K σ t (.int i)) (h2 : Lit K σ u (.int j)) : Lit K σ (tOp (rI0 fun i j => .int (i - j)) t u) (.int (i - j)) := fun H Q h =>
  h1 H _ fun v H1 s1 i1 => h2 H1 _ fun v2 H2 s2 i2 => by
    cases i1
    cases i2
    exact ⟨_, _, rfl, rfl, h _ H2 (s1.trans s2) (.int _)⟩
theorem lit_pow {t u : TE} {i j : Int} (h1 : Lit K σ t (.int i)) (h2 : Lit K σ u (.int j)) (hc : CPow i j) : Lit K σ (tOp (rI CPow fun i j => .int (i ^ j.toNat)) t u) (.int (i ^ j.toNat)) := fun H Q h =>
  h1 H _ fun v H1 s1 i1 => h2 H1 _ fun v2 H2 s2 i2 => by
    cases i1
    cases i2
    exact ⟨_, _, rfl, rfl, hc, h _ H2 (s1.trans s2) (.int _)⟩
theorem lit_mulS {t u : TE} {z : Str} {j : Int} (h1 : Lit K σ t (.str z)) (h2 : Lit K σ u (.int j)) (hc : MulOk z j) : Lit K σ (tOp (fun x y H Q => ∃ z i, x = .str z ∧ y = .int i ∧ MulOk z i ∧ Q (.str (Txt.mul z i)) H) t u) (.str (Txt.mul z j)) := fun H Q h =>
  h1 H _ fun v H1 s1 i1 => h2 H1 _ fun v2 H2 s2 i2 => by
    cases i1
    cases i2
    exact ⟨_, _, rfl, rfl, hc, h _ H2 (s1.trans s2) (.str _)⟩
end
section
variable {X : Cx} {pos : Pos}
/-- a built-in class as a value -/
theorem pe_ty {x : Str} (n : String) (hg : Gl X x) (hm : X.mg x = Option.none) (hv : bootBuiltins x = some (.type n)) (hn : x ≠ "__name__" := by decide) (hd : (x == ("__debug__" : Str)) = false := by decide) : PE X (.Name x pos) (tC (.ty n)) :=
  pe_bltn hg hm hv rfl hn hd
end
section
variable {K : PySem.W.Frag} {H H' : Hp}
theorem same_sqT {a : Addr} {xs : List V} (e : Same H H') (h : SqT K H a xs) : SqT K H' a xs := by
  rcases h with (h | ⟨o, h⟩) | h
  · exact .inl (.inl (e _ _ h))
  · exact .inl (.inr ⟨o, e _ _ h⟩)
  · exact .inr h
mutual
theorem dp_same (e : Same H H') : ∀ (d : PyData) (v : V), Dp K H v d → Dp K H' v d
  | .none, _, h => by cases h; exact .non
  | .bool b, _, h => by cases h; exact .bl b
  | .int i, _, h => by cases h; exact .int i
  | .str x, _, h => by cases h; exact .str x
  | .list ds, _, h => by
    cases h with
    | lst g ha => exact .lst (e.seq g) (dp_sameAll e ds _ ha)
  | .tuple ds, _, h => by
    cases h with
    | tup g ha => exact .tup (same_sqT e g) (dp_sameAll e ds _ ha)
  | .dict _, _, h => by cases h
theorem dp_sameAll (e : Same H H') : ∀ (ds : List PyData) (vs : List V), DpAll K H vs ds → DpAll K H' vs ds
  | [], _, h => by cases h; exact .nil
  | d :: ds, _, h => by
    cases h with
    | cons h1 h2 => exact .cons (dp_same e d _ h1) (dp_sameAll e ds _ h2)
end
end
theorem small_of {n : Nat} (h : n ≤ 1000) : n ≤ sizeLine := Nat.le_of_lt (small1000 h)
theorem seq_asg {te : TE} {g : TG} {u : TS} {D : Ends} {σ : L2.St} {H : Hp} (h : te σ H fun x H1 => g x σ H1 (u D)) : tSeq (tAsg te g) u D σ H := h
theorem gname {i : Nat} {v : V} {σ : L2.St} {H : Hp} {Q : L2.St → Hp → Prop} (h : Q (σ.set i (some v)) H) : gName i v σ H Q := h
theorem nxp {N : L2.St → Hp → Prop} {R : VK} {B C : L2.St → Hp → Prop} {σ : L2.St} {H : Hp} (h : N σ H) : ({ nx := N, rt := R, bk := B, ct := C } : Ends).nx σ H := h
theorem seq_if {c : TT} {t t2 : TS} {u : TS} {D : Ends} {σ : L2.St} {H : Hp} (h : c σ H fun b H1 => if b = true then t { D with nx := u D } σ H1 else t2 { D with nx := u D } σ H1) : tSeq (tIfS c t t2) u D σ H := h
theorem seq_ifN {c : TT} {t : TS} {u : TS} {D : Ends} {σ : L2.St} {H : Hp} (h : c σ H fun b H1 => if b = true then t { D with nx := u D } σ H1 else u D σ H1) : tSeq (tIfS c t tNext) u D σ H := h
theorem seq_any {t : TS} {u : TS} {D : Ends} {σ : L2.St} {H : Hp} (h : t { D with nx := u D } σ H) : tSeq t u D σ H := h
theorem asg1 {te : TE} {g : TG} {D : Ends} {σ : L2.St} {H : Hp} (h : te σ H fun x H1 => g x σ H1 D.nx) : tAsg te g D σ H := h
section
variable {K : PySem.W.Frag} {G G' : Addr → Prop} {H H' : Hp}
mutual
theorem Im.mono2 (hH : ∀ b o, G b → H b = some o → H' b = some o) (hG : ∀ b o, H b = some o → G b → G' b) : ∀ (d : PyData) (v : V), Im K G H v d → Im K G' H' v d
  | .none, _, h => by cases h; exact .non
  | .bool b, _, h => by cases h; exact .bl b
  | .int i, _, h => by cases h; exact .int i
  | .str x, _, h => by cases h; exact .str x
  | .list ds, _, h => by
    cases h with
    | lst g e ha => exact .lst (hG _ _ e g) (hH _ _ g e) (Im.mono2All hH hG ds _ ha)
  | .tuple ds, _, h => by
    cases h with
    | tup g e ha => exact .tup (hG _ _ e g) (hH _ _ g e) (Im.mono2All hH hG ds _ ha)
  | .dict _, _, h => by cases h
theorem Im.mono2All (hH : ∀ b o, G b → H b = some o → H' b = some o) (hG : ∀ b o, H b = some o → G b → G' b) : ∀ (ds : List PyData) (vs : List V), ImAll K G H vs ds → ImAll K G' H' vs ds
  | [], _, h => by cases h; exact .nil
  | d :: ds, _, h => by
    cases h with
    | cons h1 h2 => exact .cons (Im.mono2 hH hG d _ h1) (Im.mono2All hH hG ds _ h2)
end
end
theorem join_set {c : Prop} [Decidable c] {v : V} {i : Nat} {u : TS} {D : Ends} {σ : L2.St} {H : Hp} (P : L2.St → Prop) (h : ∀ σ2, P σ2 → u D σ2 H) (h1 : c → P (σ.set i (some v))) (h2 : ¬ c → P σ) :
    if c then tAsg (tC v) (gName i) { D with nx := u D } σ H else u D σ H := by
  by_cases hc : c
  · rw [if_pos hc]
    exact h _ (h1 hc)
  · rw [if_neg hc]
    exact h _ (h2 hc)
/-- a constant tuple of the module, by its data -/
def GC (K : PySem.W.Frag) (mg : Str → Option Value) (x : Str) (d : PyData) : Prop := ∃ (u : Value) (v : V), mg x = some u ∧ RelV v u ∧ Dp K (fun _ => Option.none) v d
theorem none_same (H : Hp) : Same (fun _ => Option.none) H := fun _ _ e => nomatch e
theorem kt_of {K : PySem.W.Frag} {a : Addr} {its : Array Value} {n : Nat} {dd : Option Addr} {sl : Array (Option Value)} {xs : List V} {ds : List PyData} (h : K.lookup a = some ⟨.type "tuple", dd, .seq its n, sl⟩) (hz : its.size ≤ 1000) (hv : Vals xs its.toList) (ha : DpAll K (fun _ => Option.none) xs ds) :
    Dp K (fun _ => Option.none) (.ref a) (.tuple ds) := .tup (.inr ⟨_, its, n, h, rfl, rfl, Nat.le_trans hz (by decide), hv⟩) ha
/-! ### list.extend(tuple) -/
section
open Builtin
theorem extT (l b : Addr) (xs ys : Array Value) (n k : Nat) (dd : Option Addr) (sl : Array (Option Value)) (hlong : ¬(!xs.isEmpty && Builtin.List.listTooLong (xs.size + ys.size)) = true) (h1 : xs.size ≤ sizeLine) (h2 : xs.size + ys.size ≤ sizeLine + 1) :
    Meets (Builtin.«list.extend» ⟨[.ref l, .ref b], []⟩) (fun _ R s => s.heap.get? l = some { cls := .type "list", dict := none, data := .seq xs n, slots := #[] } ∧ s.heap.get? b = some { cls := .type "tuple", dict := dd, data := .seq ys k, slots := sl } ∧ R (.ok (.ret Value.none)) { s with heap := s.heap.update l (Obj.mapSeq fun x => x ++ ys), toks := s.toks }) := by
  refine .of_wp fun prog w A R s h => ?_
  obtain ⟨hp, g, d, tk, os⟩ := s
  obtain ⟨ea, eb, q⟩ := h
  have i1 := AutoSeq1.idx_int
  have i2 := AutoSeq1.sub_tuple_tuple
  have i3 := AutoSeq1.sub_list_list
  have i4 := AutoSeq1.sub_tuple_list
  have i5 := AutoSeq1.sub_list_tuple
  have hz : (xs ++ ys).size ≤ sizeLine + 1 := by rw [Array.size_append]; exact h2
  wp_walk using (wpAny_updateSeq ea rfl (hz := h1) (_hz' := hz)), AutoSeq1.wpAny_loadPart' ea, AutoSeq1.wpAny_loadPart' eb
  exact ⟨_, rfl, q⟩
end
section
variable {X : Cx}
def rExtT (K : PySem.W.Frag) : V → List V → Hp → VK → Prop := fun x vs H Q => ∃ l b xs zs, x = .ref l ∧ vs = [.ref b] ∧ H l = some (.lst xs) ∧ SqT K H b zs ∧ xs.length + zs.length ≤ sizeLine ∧ Q .non (upd H l (.lst (xs ++ zs)))
theorem mt_extT : MtR X "list.extend" (rExtT X.K) := by
  intro pins s σ H x vs v us Q I rx rv h
  obtain ⟨l, b, xs, zs, rfl, rfl, hH, hB, hz, q⟩ := h
  cases rx
  obtain ⟨u, rfl, ru⟩ := rv.one
  cases ru
  obtain ⟨z, its, n, r, hl, e⟩ := I.lstM hH
  obtain ⟨its2, r2, ⟨⟨oc, od, dt, sl⟩, e2, ec, k2, ed⟩, _⟩ := I.tuple hB
  simp only at ec ed
  subst ec ed
  have z1 := r.length
  have z2 := r2.length
  have hsz : its.toArray.size + its2.toArray.size ≤ sizeLine := by rw [List.size_toArray, List.size_toArray]; omega
  have nl : ¬ (!its.toArray.isEmpty && Builtin.List.listTooLong (its.toArray.size + its2.toArray.size)) = true := by
    rw [notLongL hsz, Bool.and_false]
    exact Bool.false_ne_true
  refine call_meets F.slot_list_extend ⟨_, e, rfl⟩ F.entry_list_extend (F.args_list_extend_2 _ _) (extT l b its.toArray its2.toArray n k2 od sl nl (by rw [List.size_toArray]; omega) (by omega)) ⟨e, e2, ?_⟩
  refine ⟨.non, _, I.lset (its' := its ++ its2) hH e (by simp) (r.append r2) ?_, rfl, q⟩
  rw [List.length_append]
  omega
/-! ### x in (a, b, ..), data of any depth -/
def rInT (K : PySem.W.Frag) : R2 := fun x y H Q => ∃ d ds, Dp K H x d ∧ Dp K H y (.tuple ds) ∧ SeqAt.shaped d = true ∧ SeqAt.shaped (.tuple ds) = true ∧ Q (.bl (ds.any fun z => PyData.eqv z d)) H
def rNotInT (K : PySem.W.Frag) : R2 := fun x y H Q => ∃ d ds, Dp K H x d ∧ Dp K H y (.tuple ds) ∧ SeqAt.shaped d = true ∧ SeqAt.shaped (.tuple ds) = true ∧ Q (.bl (!ds.any fun z => PyData.eqv z d)) H
theorem op_inT (hu : X.A.units + 65 < cLine) : OpR X (compareOp .In) (rInT X.K) := by
  intro pins s σ H x y v u Q I rx ry h
  obtain ⟨d, ds, hd, he, sd, se, q⟩ := h
  obtain ⟨as, r1⟩ := Dp.reads I d x v hd rx
  obtain ⟨bs, r2⟩ := Dp.reads I (.tuple ds) y u he ry
  exact SeqAt.in_tuple_reads r2 r1 (SeqAt.canLay_of_shaped se) (SeqAt.canLay_of_shaped sd) (room_in_shaped sd hu) ⟨.bl _, H, I, rfl, q⟩
theorem op_notInT (hu : X.A.units + 65 < cLine) : OpR X (compareOp .NotIn) (rNotInT X.K) := by
  intro pins s σ H x y v u Q I rx ry h
  obtain ⟨d, ds, hd, he, sd, se, q⟩ := h
  obtain ⟨as, r1⟩ := Dp.reads I d x v hd rx
  obtain ⟨bs, r2⟩ := Dp.reads I (.tuple ds) y u he ry
  exact SeqAt.notIn_tuple_reads r2 r1 (SeqAt.canLay_of_shaped se) (SeqAt.canLay_of_shaped sd) (room_in_shaped sd hu) ⟨.bl _, H, I, rfl, q⟩
theorem units65 {k : Nat} {A : Around} (r : Room k A) : A.units + 65 < cLine := by
  have := r.un
  omega
end
section
variable {K : PySem.W.Frag} {H : Hp}
theorem DpAll.dropt : ∀ {xs : List V} {ds : List PyData} (n : Nat), DpAll K H xs ds → DpAll K H (xs.drop n) (ds.drop n)
  | _, _, 0, r => r
  | _, _, _ + 1, .nil => .nil
  | _, _, n + 1, .cons _ t => DpAll.dropt n t
theorem DpAll.taket : ∀ {xs : List V} {ds : List PyData} (n : Nat), DpAll K H xs ds → DpAll K H (xs.take n) (ds.take n)
  | _, _, 0, _ => .nil
  | _, _, _ + 1, .nil => .nil
  | _, _, n + 1, .cons r t => .cons r (DpAll.taket n t)
theorem DpAll.app : ∀ {xs ys : List V} {ds es : List PyData}, DpAll K H xs ds → DpAll K H ys es → DpAll K H (xs ++ ys) (ds ++ es)
  | _, _, _, _, .nil, r => r
  | _, _, _, _, .cons q t, r => .cons q (DpAll.app t r)
theorem DpAll.getV : ∀ {vs : List V} {ds : List PyData} {i : Nat} {v : V}, DpAll K H vs ds → vs[i]? = some v → ∃ d, ds[i]? = some d ∧ Dp K H v d
  | _, _, _, _, .nil, e => by simp at e
  | _, _, 0, _, .cons r _, e => by simp at e; subst e; exact ⟨_, rfl, r⟩
  | _, _, i + 1, _, .cons _ t, e => by
    obtain ⟨u, h1, h2⟩ := DpAll.getV (i := i) t (by simpa using e)
    exact ⟨u, by simpa using h1, h2⟩
end
/-- a part of a tuple, also the whole -/
theorem cut_nat (xs : List V) (i j : Nat) (h1 : i ≤ xs.length) (h2 : j ≤ xs.length) : cutV xs (some (i : Int)) (some (j : Int)) = (xs.drop i).take (j - i) := by
  unfold cutV
  rw [HT.sIx_nat, HT.sIx_nat, Nat.min_eq_left h1, Nat.min_eq_left h2]
theorem slA_nat {K : PySem.W.Frag} {H : Hp} {a : Addr} {xs : List V} {i j : Nat} {Q : VK} (hs : SqT K H a xs) (h1 : i ≤ xs.length) (h2 : j ≤ xs.length) (h : ∀ b H', Same H H' → SqT K H' b ((xs.drop i).take (j - i)) → (∀ c, H c = Option.none → c ≠ b → H' c = Option.none) → Q (.ref b) H') :
    rSlA K (.ref a) (some (i : Int)) (some (j : Int)) H Q := by
  refine ⟨a, xs, rfl, hs, fun z => ?_, fun z p np => ?_⟩
  · rw [HT.sIx_nat, HT.sIx_nat, Nat.min_eq_left h1, Nat.min_eq_left h2] at z
    refine h a H (Same.refl H) ?_ fun _ e _ => e
    rw [z.1, z.2, List.drop_zero, Nat.sub_zero, List.take_length]
    exact hs
  · rw [cut_nat xs i j h1 h2]
    exact h p _ (same_upd np) (SqT.of upd_same) fun c e hc => by rw [upd_ne hc]; exact e
theorem cat_dp {K : PySem.W.Frag} {H : Hp} {x y : V} {ds es : List PyData} {Q : VK} (hx : Dp K H x (.tuple ds)) (hy : Dp K H y (.tuple es)) (hne : ds ≠ []) (hz : ds.length + es.length ≤ 1000) (h : ∀ v H', Same H H' → Dp K H' v (.tuple (ds ++ es)) → Q v H') : rCatT K x y H Q := by
  cases hx with
  | @tup a xs _ sx ax =>
  cases hy with
  | @tup b ys _ sy ay =>
  have lx := DpAll.len ax
  have ly := DpAll.len ay
  refine ⟨a, b, xs, ys, rfl, rfl, sx, sy, fun z => ?_, small_of (by omega), fun z => ?_, fun z p np => ?_⟩
  · rw [z] at lx
    exact hne (List.eq_nil_of_length_eq_zero lx.symm)
  · subst z
    cases ay
    rw [List.append_nil] at h
    exact h _ H (Same.refl H) (.tup sx ax)
  · exact h _ _ (same_upd np) (.tup (SqT.of upd_same) (dp_sameAll (same_upd np) _ _ (DpAll.app ax ay)))
theorem cut_from1 (v : V) (xs : List V) : cutV (v :: xs) (some 1) Option.none = xs := by
  unfold cutV
  rw [show (some (1 : Int)) = some ((1 : Nat) : Int) from rfl, HT.sIx_nat, HT.sIx_none, List.length_cons, Nat.min_eq_left (by omega), List.drop_succ_cons, List.drop_zero, Nat.add_sub_cancel]
  exact List.take_length
section
variable {σ : L2.St} {H : Hp}
theorem args1 {t : TE} {ta : TA} {Q : List V → Hp → Prop} (h : t σ H fun x H1 => ta σ H1 fun xs H2 => Q (x :: xs) H2) : tCons t ta σ H Q := h
theorem tup_of {ta : TA} {Q : VK} (h : ta σ H fun xs H1 => xs.length ≤ sizeLine ∧ ∀ p, H1 p = Option.none → Q (.ref p) (upd H1 p (.tup xs))) : tTup ta σ H Q := h
theorem const_of {v : V} {Q : VK} (h : Q v H) : tC v σ H Q := h
theorem op_of {r : R2} {ta tb : TE} {Q : VK} (h : ta σ H fun x H1 => tb σ H1 fun y H2 => r x y H2 Q) : tOp r ta tb σ H Q := h
theorem nil_of {Q : List V → Hp → Prop} (h : Q [] H) : tNil σ H Q := h
end
section
variable {σ : L2.St} {H : Hp}
theorem call_of {sp : Sp} {dvs : List V} {E : XK} {t : TA} {Q : VK} (h : t σ H fun vs H1 => sp (vs ++ dvs) H1 Q E) : tCall sp dvs E t σ H Q := h
theorem args_and {r : R2} {sp : Sp} {dvs : List V} {E : XK} {t : TA} {tb tc : TE} {D : Ends} (h : t σ H fun vs H1 => sp (vs ++ dvs) H1 (fun x H1 => tb σ H1 fun y H2 => r x y H2 fun x H1 => ∃ c, x = .bl c ∧ if c = true then tc σ H1 D.rt else D.rt (.bl false) H1) E) : tRet (tAndV (tOp r (tCall sp dvs E t) tb) tc) D σ H := h
end
theorem relStr (x : Str) (t : Tok) : RelV (.str x) (.str x t) := ⟨_, rfl⟩
theorem relInt (i : Int) (t : Tok) : RelV (.int i) (.int i t) := ⟨_, rfl⟩
theorem relRef (a : Addr) : RelV (.ref a) (.ref a) := rfl
/-! ### a < b of data whose places are alike -/
section
variable {X : Cx}
def rLtD (K : PySem.W.Frag) : R2 := fun x y H Q => ∃ d e, Dp K H x d ∧ Dp K H y e ∧ PySem.W.alike d e = true ∧ d ≠ .none ∧ d.depth ≤ 8 ∧ Q (.bl (PySem.W.dataLt d e)) H
theorem op_ltD (hu : X.A.units + 64 < cLine) : OpR X (compareOp .Lt) (rLtD X.K) := by
  intro pins s σ H x y v u Q I rx ry h
  obtain ⟨d, e, hd, he, ha, hn, hz, q⟩ := h
  obtain ⟨as, r1⟩ := Dp.reads I d x v hd rx
  obtain ⟨bs, r2⟩ := Dp.reads I e y u he ry
  have R := PySem.W.rcLt_alike d e X.A s v u as bs r1 r2 ha hn (Nat.lt_of_le_of_lt (Nat.add_le_add_left (Nat.le_trans (Nat.min_le_left _ _) (Nat.le_trans hz (by decide : 8 ≤ 64))) _) hu)
  have z : wpAny (model X.prog X.w) X.A (compareOp .Lt v u) (EP X pins σ Q) X.xe s := R X.prog X.w X.xe (EP X pins σ Q) ⟨.bl _, H, I, rfl, q⟩
  exact z
end
/-! ### zip of two tuples -/
theorem walk_zipT {K : PySem.W.Frag} {a b : Addr} {xs ys : List V} {n : Nat} (hn : n = min xs.length ys.length) : Walk (RZ.ItzT K a b) n (fun H => SqT K H a xs ∧ SqT K H b ys) (YPair (fun i => xs[i]?) (fun i => ys[i]?)) := by
  subst hn
  refine ⟨fun i H hi q => ?_, fun H q => ⟨xs, ys, q.1, q.2, by omega⟩, fun i H v H' hi q y => ?_⟩
  · have h1 : i < xs.length := by omega
    have h2 : i < ys.length := by omega
    exact ⟨xs, ys, _, _, q.1, q.2, List.getElem?_eq_getElem h1, List.getElem?_eq_getElem h2⟩
  · obtain ⟨T, x, y, e1, e2, e3, e4, e5⟩ := y
    exact ⟨T, x, y, e1, e2, e3, e4 xs q.1, e5 ys q.2⟩
/-! ### () + t -/
section
open Builtin
theorem addE (l b : Addr) (xs ys : Array Value) (n k : Nat) (dd dd2 : Option Addr) (sl sl2 : Array (Option Value)) (he : xs.isEmpty = true) :
    Meets (Builtin.«tuple.__add__» ⟨[.ref l, .ref b], []⟩) (fun _ R s => s.heap.get? l = some { cls := .type "tuple", dict := dd, data := .seq xs n, slots := sl } ∧ s.heap.get? b = some { cls := .type "tuple", dict := dd2, data := .seq ys k, slots := sl2 } ∧ R (.ok (.ret (Value.ref b))) s) := by
  refine .of_wp fun prog w A R s h => ?_
  obtain ⟨hp, g, d, tk, os⟩ := s
  obtain ⟨ea, eb, q⟩ := h
  have i1 := AutoSeq1.idx_int
  have i2 := AutoSeq1.sub_tuple_tuple
  have i3 := AutoSeq1.sub_list_list
  have i4 := AutoSeq1.sub_tuple_list
  have i5 := AutoSeq1.sub_list_tuple
  wp_walk using AutoSeq1.wpAny_loadPart' ea, AutoSeq1.wpAny_loadPart' eb
  exact ⟨_, rfl, q⟩
end
section
variable {X : Cx}
def rCatA (K : PySem.W.Frag) : R2 := fun x y H Q => ∃ a b xs ys, x = .ref a ∧ y = .ref b ∧ SqT K H a xs ∧ SqT K H b ys ∧ xs.length + ys.length ≤ sizeLine ∧ (xs = [] → Q (.ref b) H) ∧ (ys = [] → Q (.ref a) H) ∧ ∀ p, H p = Option.none → Q (.ref p) (upd H p (.tup (xs ++ ys)))
theorem op_catA : OpR X (binaryOp .Add) (rCatA X.K) := by
  intro pins s σ H x y v u Q I rx ry h
  obtain ⟨a, b, xs, ys, rfl, rfl, ha, hb, hz, q1, q2, q3⟩ := h
  by_cases hx : xs = []
  · subst hx
    cases rx
    cases ry
    obtain ⟨its, r1, p1, _⟩ := I.tuple ha
    obtain ⟨its2, r2, p2, _⟩ := I.tuple hb
    cases r1
    obtain ⟨⟨oc, od, dt, sl⟩, e1, c1, n, d1⟩ := p1
    obtain ⟨⟨oc2, od2, dt2, sl2⟩, e2, c2, n2, d2⟩ := p2
    simp only at c1 d1 c2 d2
    subst c1 d1 c2 d2
    exact concat_meets ⟨_, e1, rfl⟩ ⟨_, e2, rfl⟩ noFill_tuple_add seq_tuple_add PySem.F.slot_tuple_add PySem.F.entry_tuple_add (PySem.F.args_tuple_add_2 _ _)
      (addE a b #[] its2.toArray n n2 od od2 sl sl2 rfl) ⟨e1, e2, ⟨.ref b, H, I, rfl, q1 rfl⟩⟩
  · exact op_catT pins s σ H (.ref a) (.ref b) v u Q I rx ry ⟨a, b, xs, ys, rfl, rfl, ha, hb, hx, hz, q2, fun _ p np => q3 p np⟩
end
section
variable {K : PySem.W.Frag} {G : Addr → Prop} {H : Hp}
theorem ImAll.dropt : ∀ {xs : List V} {ds : List PyData} (n : Nat), ImAll K G H xs ds → ImAll K G H (xs.drop n) (ds.drop n)
  | _, _, 0, r => r
  | _, _, _ + 1, .nil => .nil
  | _, _, n + 1, .cons _ t => ImAll.dropt n t
theorem ImAll.taket : ∀ {xs : List V} {ds : List PyData} (n : Nat), ImAll K G H xs ds → ImAll K G H (xs.take n) (ds.take n)
  | _, _, 0, _ => .nil
  | _, _, _ + 1, .nil => .nil
  | _, _, n + 1, .cons r t => .cons r (ImAll.taket n t)
theorem im_new {xs : List V} {ds : List PyData} {p : Addr} (np : H p = Option.none) (ia : ImAll K G H xs ds) : Im K (fun b => G b ∨ H b = Option.none) (upd H p (.tup xs)) (.ref p) (.tuple ds) :=
  .tup (.inr np) upd_same (Im.monoAll (fun b o _ e => same_upd np b o e) (fun _ g => .inl g) _ _ ia)
theorem im_cut {x : V} {ds es : List PyData} {lo hi : Option Int} {Q : VK} (iv : Im K G H x (.tuple ds)) (hc : ∀ xs : List V, ImAll K G H xs ds → ImAll K G H (cutV xs lo hi) es) (h : ∀ v H', Same H H' → (∀ b, G b ∨ H b = Option.none → G b ∨ H b = Option.none) → Im K (fun b => G b ∨ H b = Option.none) H' v (.tuple es) → Q v H') : rSlA K x lo hi H Q := by
  cases iv with
  | @tup a xs _ g e ia =>
  refine ⟨a, xs, rfl, SqT.of e, fun z => ?_, fun z p np => ?_⟩
  · have hw : cutV xs lo hi = xs := by
      unfold cutV
      rw [z.1, z.2, List.drop_zero, Nat.sub_zero, List.take_length]
    have := hc xs ia
    rw [hw] at this
    exact h _ H (Same.refl H) (fun _ q => q) (.tup (.inl g) e (Im.monoAll (fun _ _ _ e => e) (fun _ g => .inl g) _ _ this))
  · exact h _ _ (same_upd np) (fun _ q => q) (im_new np (hc xs ia))
theorem im_take {x : V} {ds : List PyData} {k : Nat} {Q : VK} (iv : Im K G H x (.tuple ds)) (hk : k ≤ ds.length) (h : ∀ v H', Same H H' → Im K (fun b => G b ∨ H b = Option.none) H' v (.tuple (ds.take k)) → Q v H') : rSlA K x Option.none (some (k : Int)) H Q :=
  im_cut iv (fun xs ia => by
    unfold cutV
    rw [HT.sIx_none, HT.sIx_nat, Nat.min_eq_left (by rw [ia.len]; exact hk), List.drop_zero, Nat.sub_zero]
    exact ImAll.taket _ ia) fun v H' s _ i => h v H' s i
theorem im_drop {x : V} {ds : List PyData} {k : Nat} {Q : VK} (iv : Im K G H x (.tuple ds)) (hk : k ≤ ds.length) (h : ∀ v H', Same H H' → Im K (fun b => G b ∨ H b = Option.none) H' v (.tuple (ds.drop k)) → Q v H') : rSlA K x (some (k : Int)) Option.none H Q :=
  im_cut iv (fun xs ia => by
    unfold cutV
    rw [HT.sIx_none, HT.sIx_nat, Nat.min_eq_left (by rw [ia.len]; exact hk), List.take_of_length_le (by rw [List.length_drop]; exact Nat.le_refl _)]
    exact ImAll.dropt _ ia) fun v H' s _ i => h v H' s i
theorem im_cat {x y : V} {ds es : List PyData} {Q : VK} (iv : Im K G H x (.tuple ds)) (iw : Im K G H y (.tuple es)) (hz : ds.length + es.length ≤ 1000) (h : ∀ v H', Same H H' → Im K (fun b => G b ∨ H b = Option.none) H' v (.tuple (ds ++ es)) → Q v H') : rCatA K x y H Q := by
  have w1 := Im.mono (G' := fun b => G b ∨ H b = Option.none) (fun _ _ _ e => e) (fun _ g => .inl g) _ _ iv
  have w2 := Im.mono (G' := fun b => G b ∨ H b = Option.none) (fun _ _ _ e => e) (fun _ g => .inl g) _ _ iw
  cases iv with
  | @tup a xs _ g e ia =>
  cases iw with
  | @tup b ys _ g2 e2 ib =>
  have l1 := ia.len
  have l2 := ib.len
  refine ⟨a, b, xs, ys, rfl, rfl, SqT.of e, SqT.of e2, small_of (by omega), fun z => ?_, fun z => ?_, fun p np => ?_⟩
  · subst z
    cases ia
    exact h _ H (Same.refl H) w2
  · subst z
    cases ib
    rw [List.append_nil] at h
    exact h _ H (Same.refl H) w1
  · exact h _ _ (same_upd np) (im_new np (ImAll.app ia ib))
end
end My
namespace My
open PySem PySem.Spec PyProof.Rows L2 SkE
/-! ### defs that may raise, and the program's own error classes -/
def HasX (P : Program) (w : World) (K : PySem.W.Frag) (mg : Str → Option Value) (base : Heap) (k : Nat) (x : Str) (ps : List Str) (sp : Sp) : Prop :=
  ∃ (f : Addr) (fd : FuncData), FnOk P w K mg base (L2.CX P w) k f fd ps sp ∧ mg x = some (.ref f) ∧ PySem.W.keepIn K (.ref f) = true ∧ Binds K fd ps []
/-- where the class of this name stands -/
def clsA (K : PySem.W.Frag) (x : Str) : Addr := match PySem.W.nsIn K mainGlobals x with
  | some (some (.ref C)) => C | _ => 0
theorem clsA_of {K : PySem.W.Frag} {x : Str} {C : Addr} (h : PySem.W.nsIn K mainGlobals x = some (some (.ref C))) : clsA K x = C := by
  unfold clsA
  rw [h]
structure Xc (K : PySem.W.Frag) (mg : Str → Option Value) (x : Str) (C : Addr) : Prop where
  gC : mg x = some (.ref C)
  xC : PySem.W.excIn K C [.type "ValueError", .type "Exception", .type "BaseException", .type "object"] "ValueError.__new__" = true
  kC : PySem.W.keepIn K (.ref C) = true
  bC : PySem.W.subIn K (.ref C) (.type "BaseException") = some true
  tC : PySem.W.typeIn K (.ref C) = some (.type "type")
  iC : PySem.W.isClsIn K C = true
theorem exm_pair {K : PySem.W.Frag} {T S : Addr} {b : Bool} (h1 : PySem.W.subIn K (.ref S) (.type "BaseException") = some true) (h2 : PySem.W.isClsIn K S = true) (h3 : PySem.W.typeIn K (.ref S) = some (.type "type")) (h4 : PySem.W.subIn K (.ref T) (.ref S) = some b) :
    PySem.W.exmOne K (.ref T) (.ref S) = some b := by
  have e1 : (PySem.W.subIn K (.ref S) (.type "BaseException") == some true) = true := by rw [h1] <;> rfl
  have e2 : ((PySem.W.clsIn K S).isSome && PySem.W.typeIn K (.ref S) == some (.type "type")) = true := by
    have h2' : (PySem.W.clsIn K S).isSome = true := h2
    rw [h2', h3] <;> rfl
  show (if (PySem.W.subIn K (.ref S) (.type "BaseException") == some true) = true then (if ((PySem.W.clsIn K S).isSome && PySem.W.typeIn K (.ref S) == some (.type "type")) = true then PySem.W.subIn K (.ref T) (.ref S) else none) else none) = some b
  rw [if_pos e1, if_pos e2]
  exact h4
theorem pss_under {X : Cx} {b : List Stmt} {t : TS} {P : Prop} (h : P → PSs X b t) : PSs X b (fun D σ H => P ∧ t D σ H) := ⟨fun pins s σ H D I ⟨p, q⟩ => (h p).run pins s σ H D I q⟩
end My
namespace My
open PySem PySem.Spec PyProof.Rows L2
/-! ### one step of a reading each -/
section
variable {σ : L2.St} {H : Hp} {Q : VK} {QA : List V → Hp → Prop} {QT : Bool → Hp → Prop} {te ta tb : TE} {tr tk : TA} {t u : TS} {c d : TT} {D : Ends} {v x y : V} {i j : Int} {g : TG} {K : PySem.W.Frag}
theorem st_of {N : List Str} {vs : List V} (e : L2.start N vs = σ) (h : t D σ H) : t D (L2.start N vs) H := e ▸ h
theorem g_var {n : Nat} (e : σ[n]? = some (some v)) (h : Q v H) : tVar n σ H Q := ⟨v, e, h⟩
theorem g_c (h : Q v H) : tC v σ H Q := h
theorem g_nil (h : QA [] H) : tNil σ H QA := h
theorem g_cons (h : ta σ H fun x H1 => tr σ H1 fun xs H2 => QA (x :: xs) H2) : tCons ta tr σ H QA := h
theorem g_op {r : R2} (h : ta σ H fun x H1 => tb σ H1 fun y H2 => r x y H2 Q) : tOp r ta tb σ H Q := h
theorem g_un {r : V → Hp → VK → Prop} (h : ta σ H fun x H1 => r x H1 Q) : tUn r ta σ H Q := h
theorem g_i0 {f : Int → Int → V} (h : Q (f i j) H) : rI0 f (.int i) (.int j) H Q := ⟨i, j, rfl, rfl, h⟩
theorem g_i1 {C : Int → Int → Prop} {f : Int → Int → V} (hc : C i j) (h : Q (f i j) H) : rI C f (.int i) (.int j) H Q := ⟨i, j, rfl, rfl, hc, h⟩
theorem g_iu {f : Int → V} (h : Q (f i) H) : rU f (.int i) H Q := ⟨i, rfl, h⟩
theorem dec_i : decide (V.int i = V.int j) = decide (i = j) := by
  by_cases e : i = j
  · rw [e]; simp
  · rw [decide_eq_false e, decide_eq_false fun z => e (V.int.inj z)]
theorem dec_s {a b : Str} : decide (V.str a = V.str b) = decide (a = b) := by
  by_cases e : a = b
  · rw [e]; simp
  · rw [decide_eq_false e, decide_eq_false fun z => e (V.str.inj z)]
theorem g_eqi (h : Q (.bl (decide (i = j))) H) : rEq (.int i) (.int j) H Q := ⟨rfl, by rw [dec_i]; exact h⟩
theorem g_nei (h : Q (.bl (!decide (i = j))) H) : rNe (.int i) (.int j) H Q := ⟨rfl, by rw [dec_i]; exact h⟩
theorem g_eqs {a b : Str} (h : Q (.bl (decide (a = b))) H) : rEq (.str a) (.str b) H Q := ⟨rfl, by rw [dec_s]; exact h⟩
theorem g_nes {a b : Str} (h : Q (.bl (!decide (a = b))) H) : rNe (.str a) (.str b) H Q := ⟨rfl, by rw [dec_s]; exact h⟩
theorem g_bl {b : Bool} {P : Bool → Prop} (h : P b) : ∃ k, V.bl b = V.bl k ∧ P k := ⟨b, rfl, h⟩
theorem g_in {P : Int → Prop} (h : P i) : ∃ k, V.int i = V.int k ∧ P k := ⟨i, rfl, h⟩
theorem g_test (h : te σ H fun x H' => ∃ k, x = .bl k ∧ QT k H') : tTest te σ H QT := h
theorem g_b (h : te σ H fun x H' => ∃ k, x = .bl k ∧ QT k H') : tB te σ H QT := h
theorem g_not (h : c σ H fun b H1 => QT (!b) H1) : tNot c σ H QT := h
theorem g_and (h : c σ H fun b H1 => if b = true then d σ H1 QT else QT false H1) : tAnd c d σ H QT := h
theorem g_or (h : c σ H fun b H1 => if b = true then QT true H1 else d σ H1 QT) : tOr c d σ H QT := h
theorem g_andV (h : ta σ H fun x H1 => ∃ k, x = .bl k ∧ if k = true then tb σ H1 Q else Q (.bl false) H1) : tAndV ta tb σ H Q := h
theorem g_orV (h : ta σ H fun x H1 => ∃ k, x = .bl k ∧ if k = true then Q (.bl true) H1 else tb σ H1 Q) : tOrV ta tb σ H Q := h
theorem g_notV (h : ta σ H fun x H1 => ∃ k, x = .bl k ∧ Q (.bl (!k)) H1) : tNotV ta σ H Q := h
theorem g_if (h : c σ H fun b H1 => if b = true then ta σ H1 Q else tb σ H1 Q) : tIf c ta tb σ H Q := h
theorem g_next (h : D.nx σ H) : tNext D σ H := h
theorem g_seq (h : t { D with nx := u D } σ H) : tSeq t u D σ H := h
theorem g_brk (h : D.bk σ H) : tBreak D σ H := h
theorem g_cont (h : D.ct σ H) : tCont D σ H := h
theorem g_drop (h : te σ H fun _ H1 => D.nx σ H1) : tDrop te D σ H := h
theorem g_ret (h : te σ H D.rt) : tRet te D σ H := h
theorem g_retN (h : D.rt .non H) : tRetN D σ H := h
theorem g_ifS (h : c σ H fun b H1 => if b = true then t D σ H1 else u D σ H1) : tIfS c t u D σ H := h
theorem g_asg (h : te σ H fun x H1 => g x σ H1 D.nx) : tAsg te g D σ H := h
theorem g_par {m n : Nat} (h : tr σ H fun vs H1 => ∃ v w, vs = [v, w] ∧ D.nx ((σ.set m (some v)).set n (some w)) H1) : tPar m n tr D σ H := h
theorem g_two {P : V → V → Prop} (h : P x y) : ∃ a b, [x, y] = [a, b] ∧ P a b := ⟨x, y, rfl, h⟩
theorem g_aug {n : Nat} {ti : TIp} (e : σ[n]? = some (some x)) (h : te σ H fun y H1 => ti x y H1 fun z H2 => D.nx (σ.set n (some z)) H2) : tAug n te ti D σ H := ⟨x, e, h⟩
theorem g_call {sp : Sp} {dvs : List V} {E : XK} (h : tr σ H fun vs H1 => sp (vs ++ dvs) H1 Q E) : tCall sp dvs E tr σ H Q := h
theorem g_callN {n m : Nat} {sp : Sp} {gV : List V → List V → List V} {E : XK} (h : tr σ H fun vs H1 => tk σ H1 fun zs H2 => vs.length = n ∧ zs.length = m ∧ sp (gV vs zs) H2 Q E) : tCallN n m sp gV E tr tk σ H Q := h
theorem g_kw {r : List V → List V → Hp → VK → Prop} (h : tr σ H fun vs H1 => tk σ H1 fun zs H2 => r vs zs H2 Q) : tCKw r tr tk σ H Q := h
theorem g_cb {r : List V → Hp → VK → Prop} (h : tr σ H fun vs H1 => r vs H1 Q) : tCB r tr σ H Q := h
theorem g_tup (h : tr σ H fun xs H1 => xs.length ≤ sizeLine ∧ ∀ p, H1 p = Option.none → Q (.ref p) (upd H1 p (.tup xs))) : tTup tr σ H Q := h
theorem g_lst (h : tr σ H fun xs H1 => xs.length ≤ sizeLine ∧ ∀ p, H1 p = Option.none → Q (.ref p) (upd H1 p (.lst xs))) : tLst tr σ H Q := h
theorem g_sl {r : V → Option Int → Option Int → Hp → VK → Prop} {tl th : TO} (h : te σ H fun x H1 => tl σ H1 fun l H2 => th σ H2 fun u H3 => r x l u H3 Q) : tSl r te tl th σ H Q := h
theorem g_np {QO : Option Int → Hp → Prop} (h : QO Option.none H) : tNoPart σ H QO := h
theorem g_part {QO : Option Int → Hp → Prop} (h : te σ H fun x H1 => ∃ i, x = .int i ∧ QO (some i) H1) : tPart te σ H QO := h
theorem g_bm {T : String} {r : V → List V → Hp → VK → Prop} (h : te σ H fun x H1 => tyV K T x H1 ∧ tr σ H1 fun xs H2 => r x xs H2 Q) : tBM K T r te tr σ H Q := h
theorem g_bm0 {T : String} {r : V → List V → Hp → VK → Prop} (h : te σ H fun x H1 => tyV K T x H1 ∧ r x [] H1 Q) : tBM0 K T r te σ H Q := h
theorem g_rt {N : L2.St → Hp → Prop} {R : VK} {B C : L2.St → Hp → Prop} (h : R v H) : ({ nx := N, rt := R, bk := B, ct := C } : Ends).rt v H := h
theorem g_bk {N : L2.St → Hp → Prop} {R : VK} {B C : L2.St → Hp → Prop} (h : B σ H) : ({ nx := N, rt := R, bk := B, ct := C } : Ends).bk σ H := h
theorem g_ct {N : L2.St → Hp → Prop} {R : VK} {B C : L2.St → Hp → Prop} (h : C σ H) : ({ nx := N, rt := R, bk := B, ct := C } : Ends).ct σ H := h
theorem g_sub {to ti : TE} {ts : TSet} {QS : L2.St → Hp → Prop} (h : to σ H fun o H1 => ti σ H1 fun i H2 => ts o i v H2 fun H3 => QS σ H3) : gSub to ti ts v σ H QS := h
theorem g_isN {P : Bool → Prop} (h : P true) : P (decide (V.non = V.non)) := by rw [decide_eq_true rfl]; exact h
theorem ifv (P : Hp → Prop) (hu : ∀ H, P H → u D σ H) (hc : (∀ H, P H → u D σ H) → c σ H fun b H1 => if b = true then t D σ H1 else u D σ H1) : tIfS c t u D σ H := hc hu
theorem ifc (b : Bool) (hc : ∀ QT : Bool → Hp → Prop, QT b H → c σ H QT) (ht : b = true → t D σ H) (hu : b = false → u D σ H) : tIfS c t u D σ H := hc _ (by cases b with | true => exact iteT (ht rfl) | false => exact iteF (hu rfl))
theorem nx_via {t : TS} {N : L2.St → Hp → Prop} {R : VK} {B C : L2.St → Hp → Prop} (P : L2.St → Hp → Prop) (hu : ∀ σ H, P σ H → N σ H) (ht : (∀ σ H, P σ H → N σ H) → t { nx := N, rt := R, bk := B, ct := C } σ H) : t { nx := N, rt := R, bk := B, ct := C } σ H := ht hu
theorem iteNf {A B : Prop} (h : A) : if (!false) = true then A else B := h
theorem iteSs {α : Type} {u : α} {A B : Prop} (h : A) : if (some u).isSome = true then A else B := h
theorem iteSn {α : Type} {A B : Prop} (h : B) : if (Option.none : Option α).isSome = true then A else B := iteF h
theorem iteNt {A B : Prop} (h : B) : if (!true) = true then A else B := iteF h
theorem g_yes {QT : Bool → Hp → Prop} (h : QT true H) : tYes σ H QT := h
theorem nine {n : Int} (h0 : 0 ≤ n) (h : n ≤ 10 ^ 41) : n.natAbs < 2 ^ 9000 := Nat.lt_of_lt_of_le (show n.natAbs < 2 ^ 140 from Nat.lt_of_le_of_lt (show n.natAbs ≤ 10 ^ 41 by omega) (by decide)) (Nat.pow_le_pow_right (by decide) (by decide))
/-- a while by a measure -/
theorem while_m {tb : TS} (W : Nat → L2.St → Hp → Prop) (h0 : ∃ m, W m σ H) (hs : ∀ m σ H, W m σ H → c σ H fun b H1 => if b = true then ∃ N : L2.St → Hp → Prop, (∀ σ' H', N σ' H' → ∃ m', m' < m ∧ W m' σ' H') ∧ tb { D with nx := N, ct := N, bk := D.nx } σ H1 else D.nx σ H1) : tWhile c tb D σ H := ⟨W, h0, hs⟩
theorem while_n {tb : TS} {W : Nat → L2.St → Hp → Prop} {m : Nat} (h : tb { D with nx := fun σ' H' => ∃ m', m' < m ∧ W m' σ' H', ct := fun σ' H' => ∃ m', m' < m ∧ W m' σ' H', bk := D.nx } σ H) :
    ∃ N : L2.St → Hp → Prop, (∀ σ' H', N σ' H' → ∃ m', m' < m ∧ W m' σ' H') ∧ tb { D with nx := N, ct := N, bk := D.nx } σ H := ⟨_, fun _ _ z => z, h⟩
end
section
variable {K : PySem.W.Frag} {a p : Addr} {xs ys : List V} {H : Hp} {Q : VK} {v y : V} {j : Nat} {P : Prop} {D : Ends} {σ : L2.St} {g : TG} {tb : TS}
theorem ixL (hs : SqL K H p xs) (e : xs[j]? = some v) (q : Q v H) : rIxL K (.ref p) (.int (j : Int)) H Q := ⟨p, xs, _, v, rfl, rfl, hs, atI_nat e, q⟩
theorem ixT (hs : SqT K H p xs) (e : xs[j]? = some v) (q : Q v H) : rIxT K (.ref p) (.int (j : Int)) H Q := ⟨p, xs, _, v, rfl, rfl, hs, atI_nat e, q⟩
theorem tyl (hs : SqL K H p xs) (q : P) : tyV K "list" (.ref p) H ∧ P := ⟨.inl ⟨rfl, _, hs⟩, q⟩
theorem rap (e : H p = some (.lst xs)) (l : xs.length ≤ 10000000) (q : Q .non (upd H p (.lst (xs ++ [y])))) : rAppend (.ref p) [y] H Q := ⟨p, xs, y, rfl, rfl, e, Nat.lt_of_le_of_lt l (by decide), q⟩
theorem lenL (hs : SqL K H p xs) (q : Q (.int (xs.length : Nat)) H) : ∃ p' ys, [V.ref p] = [V.ref p'] ∧ (SqL K H p' ys ∨ SqT K H p' ys) ∧ Q (.int (ys.length : Nat)) H := ⟨p, xs, rfl, .inl hs, q⟩
theorem lenT (hs : SqT K H p xs) (q : Q (.int (xs.length : Nat)) H) : ∃ p' ys, [V.ref p] = [V.ref p'] ∧ (SqL K H p' ys ∨ SqT K H p' ys) ∧ Q (.int (ys.length : Nat)) H := ⟨p, xs, rfl, .inr hs, q⟩
theorem slL {lo hi : Option Int} (hs : SqL K H p xs) (q : ∀ b, H b = Option.none → Q (.ref b) (upd H b (.lst (cutV xs lo hi)))) : rSlL K (.ref p) lo hi H Q := ⟨p, xs, rfl, hs, q⟩
theorem newN {ws : List V} {n : Nat} (e : ws.length = n) (l : n ≤ 100000) {P : Addr → Prop} (q : ∀ b, H b = Option.none → P b) : ws.length ≤ sizeLine ∧ ∀ b, H b = Option.none → P b := ⟨Nat.le_trans (Nat.le_of_eq e) (Nat.le_trans l (by decide)), q⟩
end
section
variable {σ : L2.St} {H : Hp} {D : Ends} {K : PySem.W.Frag} {wi : TI} {g : TG} {tb : TS} {tl : TE} {ta : TA} {R : It → Hp → Prop}
theorem g_for (h : wi σ H fun J H1 => ∃ W : Nat → Nat → L2.St → Hp → Prop, (∃ m, W 0 m σ H1) ∧ ∀ i m σ H, W i m σ H →
    (J.stop i H ∧ D.nx σ H) ∨ (J.go i H ∧ ∃ N : L2.St → Hp → Prop, (∀ σ' H', N σ' H' → ∃ m', m' < m ∧ W (i + 1) m' σ' H') ∧ ∀ x H', J.yld i H x H' → g x σ H' fun σ2 H2 => tb { D with nx := N, ct := N, bk := D.nx } σ2 H2)) : tFor wi g tb D σ H := h
theorem g_iL (h : tl σ H fun x H1 => ∃ a, x = .ref a ∧ (∃ xs, SqL K H1 a xs) ∧ R (Itl K a) H1) : iList K tl σ H R := h
theorem g_iT (h : tl σ H fun x H1 => ∃ a, x = .ref a ∧ (∃ xs, SqT K H1 a xs) ∧ R (Itt K a) H1) : iTup K tl σ H R := h
theorem g_iR1 (h : ta σ H fun vs H1 => ∃ j : Int, vs = [.int j] ∧ -(2 ^ 62) ≤ j ∧ j < 2 ^ 62 ∧ R (Itr 0 j.toNat) H1) : iRng1 ta σ H R := h
theorem g_iR2 (h : ta σ H fun vs H1 => ∃ i j : Int, vs = [.int i, .int j] ∧ (-(2 ^ 62) ≤ i ∧ i < 2 ^ 62 ∧ -(2 ^ 62) ≤ j ∧ j < 2 ^ 62) ∧ R (Itr i (j - i).toNat) H1) : iRng2 ta σ H R := h
theorem itR {j : Int} {n : Nat} (e : j.toNat = n) (l : n ≤ 1000000) (h0 : 0 ≤ j) (q : R (Itr 0 n) H) : ∃ j' : Int, [V.int j] = [V.int j'] ∧ -(2 ^ 62) ≤ j' ∧ j' < 2 ^ 62 ∧ R (Itr 0 j'.toNat) H := ⟨j, rfl, by omega, by omega, by rw [e]; exact q⟩
theorem itRn {j : Int} (h0 : j ≤ 0) (l : -1000000 ≤ j) (q : R (Itr 0 0) H) : ∃ j' : Int, [V.int j] = [V.int j'] ∧ -(2 ^ 62) ≤ j' ∧ j' < 2 ^ 62 ∧ R (Itr 0 j'.toNat) H := ⟨j, rfl, by omega, by omega, by rw [Int.toNat_of_nonpos h0]; exact q⟩
theorem itL {a : Addr} {xs : List V} (hs : SqL K H a xs) (q : R (Itl K a) H) : ∃ a', V.ref a = .ref a' ∧ (∃ xs, SqL K H a' xs) ∧ R (Itl K a') H := ⟨a, rfl, ⟨xs, hs⟩, q⟩
theorem itT {a : Addr} {xs : List V} (hs : SqT K H a xs) (q : R (Itt K a) H) : ∃ a', V.ref a = .ref a' ∧ (∃ xs, SqT K H a' xs) ∧ R (Itt K a') H := ⟨a, rfl, ⟨xs, hs⟩, q⟩
theorem g_iZ (h : ta σ H fun vs H1 => ∃ a b xs ys, vs = [.ref a, .ref b] ∧ ((SqL K H1 a xs ∧ SqL K H1 b ys ∧ R (Itz K a b) H1) ∨ (SqT K H1 a xs ∧ SqT K H1 b ys ∧ R (RZ.ItzT K a b) H1))) : RZ.iZipA K ta σ H R := h
theorem itZ {a b : Addr} {xs ys : List V} (h1 : SqL K H a xs) (h2 : SqL K H b ys) (q : R (Itz K a b) H) : ∃ a' b' xs ys, [V.ref a, V.ref b] = [V.ref a', .ref b'] ∧ ((SqL K H a' xs ∧ SqL K H b' ys ∧ R (Itz K a' b') H) ∨ (SqT K H a' xs ∧ SqT K H b' ys ∧ R (RZ.ItzT K a' b') H)) := ⟨a, b, xs, ys, rfl, .inl ⟨h1, h2, q⟩⟩
theorem cutV_to (xs : List V) (n : Nat) : cutV xs Option.none (some (n : Int)) = xs.take n := by
  unfold cutV
  rw [HT.sIx_none, HT.sIx_nat, List.drop_zero, Nat.sub_zero]
  rcases Nat.le_total n xs.length with h | h
  · rw [Nat.min_eq_left h]
  · rw [Nat.min_eq_right h, List.take_length, List.take_of_length_le h]
theorem cutV_from (xs : List V) (n : Nat) : cutV xs (some (n : Int)) Option.none = xs.drop n := by
  unfold cutV
  rw [HT.sIx_none, HT.sIx_nat, List.take_of_length_le (by rw [List.length_drop]; exact Nat.le_refl _)]
  rcases Nat.le_total n xs.length with h | h
  · rw [Nat.min_eq_left h]
  · rw [Nat.min_eq_right h, List.drop_length, List.drop_of_length_le h]
theorem cutV_last (xs : List V) : cutV xs Option.none (some (-1)) = xs.dropLast := by
  unfold cutV
  rw [HT.sIx_none, show HT.sIx xs.length xs.length (some (-1)) = xs.length - 1 from by
    show (if (-1 : Int) < 0 then ((-1 : Int) + (xs.length : Int)).toNat else min (-1 : Int).toNat xs.length) = _
    rw [if_pos (by decide)]
    omega, List.drop_zero, Nat.sub_zero, List.dropLast_eq_take]
theorem g_gtup {n : Nat} {gs : TGs} {QS : L2.St → Hp → Prop} {a : Addr} {xs : List V} (hs : SqT K H a xs) (l : xs.length = n) (q : gs xs σ H QS) : gTup K n gs (.ref a) σ H QS := ⟨a, xs, rfl, hs, l, q⟩
theorem g_gnil {QS : L2.St → Hp → Prop} (q : QS σ H) : gNil [] σ H QS := ⟨rfl, q⟩
theorem g_gcons {gs : TGs} {v : V} {r : List V} {QS : L2.St → Hp → Prop} (q : g v σ H fun σ' H' => gs r σ' H' QS) : gCons g gs (v :: r) σ H QS := ⟨v, r, rfl, q⟩
theorem g_lc {tt : TT} {te : TE} {vs : List Nat} {Q : VK} (h : wi σ H fun J H1 => ∀ D, H1 D = Option.none → ∃ W : Nat → Nat → Hp → Prop, (∃ m, W 0 m (upd H1 D (.lst []))) ∧ ∀ i m H, W i m H →
  (J.stop i H ∧ Q (.ref D) H) ∨ (J.go i H ∧ ∃ Nx : Hp → Prop, (∀ H', Nx H' → ∃ m', m' < m ∧ W (i + 1) m' H') ∧ ∀ x H', J.yld i H x H' → g x (wipe σ vs) H' fun σ2 H2 => wipe σ2 vs = wipe σ vs ∧ tt σ2 H2 fun b H3 =>
    if b = true then te σ2 H3 fun y H4 => ∃ acc, H4 D = some (.lst acc) ∧ acc.length < sizeLine ∧ Nx (upd H4 D (.lst (acc ++ [y]))) else Nx H3)) : tLc wi g tt te vs σ H Q := h
end
/-! ### data without lists stay where a list is changed -/
mutual
def nL : PyData → Bool
  | .list _ => false
  | .tuple ds => nLs ds
  | _ => true
def nLs : List PyData → Bool
  | [] => true
  | d :: ds => nL d && nLs ds
end
section
variable {K : PySem.W.Frag} {H H' : Hp} {D : Addr}
/-- all but the object at D, which is no tuple -/
structure ButL (D : Addr) (H H' : Hp) : Prop where
  keep : ∀ b o, b ≠ D → H b = some o → H' b = some o
  list : ∃ o, H D = some o ∧ (∀ xs, o ≠ .tup xs) ∧ ∀ u xs, o ≠ .frz u (.tup xs)
theorem ButL.sqT (h : ButL D H H') {a : Addr} {xs : List V} (q : SqT K H a xs) : SqT K H' a xs := by
  obtain ⟨o, e, n1, n2⟩ := h.list
  rcases q with (q | ⟨u, q⟩) | q
  · exact .inl (.inl (h.keep _ _ (fun z => by rw [z, e] at q; exact n1 _ (Option.some.inj q)) q))
  · exact .inl (.inr ⟨u, h.keep _ _ (fun z => by rw [z, e] at q; exact n2 _ _ (Option.some.inj q)) q⟩)
  · exact .inr q
theorem ButL.put {zs : List V} {o : HO} (e : H D = some (.lst zs)) : ButL D H (upd H D o) :=
  ⟨fun b u hb g => by rw [upd_ne hb]; exact g, ⟨_, e, (fun _ z => by cases z), (fun _ _ z => by cases z)⟩⟩
mutual
theorem dp_nL (h : ButL D H H') : ∀ (d : PyData) (v : V), nL d = true → Dp K H v d → Dp K H' v d
  | .none, _, _, r => by cases r; exact .non
  | .bool b, _, _, r => by cases r; exact .bl b
  | .int i, _, _, r => by cases r; exact .int i
  | .str x, _, _, r => by cases r; exact .str x
  | .list ds, _, n, _ => by simp [nL] at n
  | .tuple ds, _, n, r => by
    cases r with
    | tup g ha => exact .tup (h.sqT g) (dp_nLs h ds _ (by simpa [nL] using n) ha)
  | .dict _, _, _, r => by cases r
theorem dp_nLs (h : ButL D H H') : ∀ (ds : List PyData) (vs : List V), nLs ds = true → DpAll K H vs ds → DpAll K H' vs ds
  | [], _, _, r => by cases r; exact .nil
  | d :: ds, _, n, r => by
    cases r with
    | cons r1 r2 =>
      simp only [nLs, Bool.and_eq_true] at n
      exact .cons (dp_nL h d _ n.1 r1) (dp_nLs h ds _ n.2 r2)
end
theorem nLs_of {ds : List PyData} (h : ∀ d ∈ ds, nL d = true) : nLs ds = true := by
  induction ds with
  | nil => simp [nLs]
  | cons d ds ih => simp only [nLs, h d (.head _), ih fun e he => h e (.tail _ he), Bool.and_self]
theorem nLs_mem {ds : List PyData} (h : nLs ds = true) : ∀ d ∈ ds, nL d = true := by
  induction ds with
  | nil => exact fun d hd => nomatch hd
  | cons d ds ih =>
    simp only [nLs, Bool.and_eq_true] at h
    intro e he
    rcases List.mem_cons.mp he with rfl | he
    · exact h.1
    · exact ih h.2 e he
theorem dpAll_end : ∀ {vs : List V} {ds : List PyData} {v : V} {d : PyData}, DpAll K H vs ds → Dp K H v d → DpAll K H (vs ++ [v]) (ds ++ [d])
  | _, _, _, _, .nil, r => .cons r .nil
  | _, _, _, _, .cons q t, r => .cons q (dpAll_end t r)
end
section
variable {v : V} {H : Hp} {QS : L2.St → Hp → Prop} {s : L2.St}
theorem g_n0 {a0 : Option V} (h : QS (some v :: s) H) : gName 0 v (a0 :: s) H QS := h
theorem g_n1 {a0 a1 : Option V} (h : QS (a0 :: some v :: s) H) : gName 1 v (a0 :: a1 :: s) H QS := h
theorem g_n2 {a0 a1 a2 : Option V} (h : QS (a0 :: a1 :: some v :: s) H) : gName 2 v (a0 :: a1 :: a2 :: s) H QS := h
theorem g_n3 {a0 a1 a2 a3 : Option V} (h : QS (a0 :: a1 :: a2 :: some v :: s) H) : gName 3 v (a0 :: a1 :: a2 :: a3 :: s) H QS := h
theorem g_n4 {a0 a1 a2 a3 a4 : Option V} (h : QS (a0 :: a1 :: a2 :: a3 :: some v :: s) H) : gName 4 v (a0 :: a1 :: a2 :: a3 :: a4 :: s) H QS := h
theorem g_n5 {a0 a1 a2 a3 a4 a5 : Option V} (h : QS (a0 :: a1 :: a2 :: a3 :: a4 :: some v :: s) H) : gName 5 v (a0 :: a1 :: a2 :: a3 :: a4 :: a5 :: s) H QS := h
theorem g_n6 {a0 a1 a2 a3 a4 a5 a6 : Option V} (h : QS (a0 :: a1 :: a2 :: a3 :: a4 :: a5 :: some v :: s) H) : gName 6 v (a0 :: a1 :: a2 :: a3 :: a4 :: a5 :: a6 :: s) H QS := h
theorem g_n7 {a0 a1 a2 a3 a4 a5 a6 a7 : Option V} (h : QS (a0 :: a1 :: a2 :: a3 :: a4 :: a5 :: a6 :: some v :: s) H) : gName 7 v (a0 :: a1 :: a2 :: a3 :: a4 :: a5 :: a6 :: a7 :: s) H QS := h
theorem g_n8 {a0 a1 a2 a3 a4 a5 a6 a7 a8 : Option V} (h : QS (a0 :: a1 :: a2 :: a3 :: a4 :: a5 :: a6 :: a7 :: some v :: s) H) : gName 8 v (a0 :: a1 :: a2 :: a3 :: a4 :: a5 :: a6 :: a7 :: a8 :: s) H QS := h
theorem g_n9 {a0 a1 a2 a3 a4 a5 a6 a7 a8 a9 : Option V} (h : QS (a0 :: a1 :: a2 :: a3 :: a4 :: a5 :: a6 :: a7 :: a8 :: some v :: s) H) : gName 9 v (a0 :: a1 :: a2 :: a3 :: a4 :: a5 :: a6 :: a7 :: a8 :: a9 :: s) H QS := h
theorem g_n10 {a0 a1 a2 a3 a4 a5 a6 a7 a8 a9 a10 : Option V} (h : QS (a0 :: a1 :: a2 :: a3 :: a4 :: a5 :: a6 :: a7 :: a8 :: a9 :: some v :: s) H) : gName 10 v (a0 :: a1 :: a2 :: a3 :: a4 :: a5 :: a6 :: a7 :: a8 :: a9 :: a10 :: s) H QS := h
theorem g_n11 {a0 a1 a2 a3 a4 a5 a6 a7 a8 a9 a10 a11 : Option V} (h : QS (a0 :: a1 :: a2 :: a3 :: a4 :: a5 :: a6 :: a7 :: a8 :: a9 :: a10 :: some v :: s) H) : gName 11 v (a0 :: a1 :: a2 :: a3 :: a4 :: a5 :: a6 :: a7 :: a8 :: a9 :: a10 :: a11 :: s) H QS := h
theorem g_n12 {a0 a1 a2 a3 a4 a5 a6 a7 a8 a9 a10 a11 a12 : Option V} (h : QS (a0 :: a1 :: a2 :: a3 :: a4 :: a5 :: a6 :: a7 :: a8 :: a9 :: a10 :: a11 :: some v :: s) H) : gName 12 v (a0 :: a1 :: a2 :: a3 :: a4 :: a5 :: a6 :: a7 :: a8 :: a9 :: a10 :: a11 :: a12 :: s) H QS := h
theorem g_n13 {a0 a1 a2 a3 a4 a5 a6 a7 a8 a9 a10 a11 a12 a13 : Option V} (h : QS (a0 :: a1 :: a2 :: a3 :: a4 :: a5 :: a6 :: a7 :: a8 :: a9 :: a10 :: a11 :: a12 :: some v :: s) H) : gName 13 v (a0 :: a1 :: a2 :: a3 :: a4 :: a5 :: a6 :: a7 :: a8 :: a9 :: a10 :: a11 :: a12 :: a13 :: s) H QS := h
theorem g_n14 {a0 a1 a2 a3 a4 a5 a6 a7 a8 a9 a10 a11 a12 a13 a14 : Option V} (h : QS (a0 :: a1 :: a2 :: a3 :: a4 :: a5 :: a6 :: a7 :: a8 :: a9 :: a10 :: a11 :: a12 :: a13 :: some v :: s) H) : gName 14 v (a0 :: a1 :: a2 :: a3 :: a4 :: a5 :: a6 :: a7 :: a8 :: a9 :: a10 :: a11 :: a12 :: a13 :: a14 :: s) H QS := h
theorem g_n15 {a0 a1 a2 a3 a4 a5 a6 a7 a8 a9 a10 a11 a12 a13 a14 a15 : Option V} (h : QS (a0 :: a1 :: a2 :: a3 :: a4 :: a5 :: a6 :: a7 :: a8 :: a9 :: a10 :: a11 :: a12 :: a13 :: a14 :: some v :: s) H) : gName 15 v (a0 :: a1 :: a2 :: a3 :: a4 :: a5 :: a6 :: a7 :: a8 :: a9 :: a10 :: a11 :: a12 :: a13 :: a14 :: a15 :: s) H QS := h
theorem g_n16 {a0 a1 a2 a3 a4 a5 a6 a7 a8 a9 a10 a11 a12 a13 a14 a15 a16 : Option V} (h : QS (a0 :: a1 :: a2 :: a3 :: a4 :: a5 :: a6 :: a7 :: a8 :: a9 :: a10 :: a11 :: a12 :: a13 :: a14 :: a15 :: some v :: s) H) : gName 16 v (a0 :: a1 :: a2 :: a3 :: a4 :: a5 :: a6 :: a7 :: a8 :: a9 :: a10 :: a11 :: a12 :: a13 :: a14 :: a15 :: a16 :: s) H QS := h
theorem g_n17 {a0 a1 a2 a3 a4 a5 a6 a7 a8 a9 a10 a11 a12 a13 a14 a15 a16 a17 : Option V} (h : QS (a0 :: a1 :: a2 :: a3 :: a4 :: a5 :: a6 :: a7 :: a8 :: a9 :: a10 :: a11 :: a12 :: a13 :: a14 :: a15 :: a16 :: some v :: s) H) : gName 17 v (a0 :: a1 :: a2 :: a3 :: a4 :: a5 :: a6 :: a7 :: a8 :: a9 :: a10 :: a11 :: a12 :: a13 :: a14 :: a15 :: a16 :: a17 :: s) H QS := h
theorem g_n18 {a0 a1 a2 a3 a4 a5 a6 a7 a8 a9 a10 a11 a12 a13 a14 a15 a16 a17 a18 : Option V} (h : QS (a0 :: a1 :: a2 :: a3 :: a4 :: a5 :: a6 :: a7 :: a8 :: a9 :: a10 :: a11 :: a12 :: a13 :: a14 :: a15 :: a16 :: a17 :: some v :: s) H) : gName 18 v (a0 :: a1 :: a2 :: a3 :: a4 :: a5 :: a6 :: a7 :: a8 :: a9 :: a10 :: a11 :: a12 :: a13 :: a14 :: a15 :: a16 :: a17 :: a18 :: s) H QS := h
theorem g_n19 {a0 a1 a2 a3 a4 a5 a6 a7 a8 a9 a10 a11 a12 a13 a14 a15 a16 a17 a18 a19 : Option V} (h : QS (a0 :: a1 :: a2 :: a3 :: a4 :: a5 :: a6 :: a7 :: a8 :: a9 :: a10 :: a11 :: a12 :: a13 :: a14 :: a15 :: a16 :: a17 :: a18 :: some v :: s) H) : gName 19 v (a0 :: a1 :: a2 :: a3 :: a4 :: a5 :: a6 :: a7 :: a8 :: a9 :: a10 :: a11 :: a12 :: a13 :: a14 :: a15 :: a16 :: a17 :: a18 :: a19 :: s) H QS := h
theorem g_n20 {a0 a1 a2 a3 a4 a5 a6 a7 a8 a9 a10 a11 a12 a13 a14 a15 a16 a17 a18 a19 a20 : Option V} (h : QS (a0 :: a1 :: a2 :: a3 :: a4 :: a5 :: a6 :: a7 :: a8 :: a9 :: a10 :: a11 :: a12 :: a13 :: a14 :: a15 :: a16 :: a17 :: a18 :: a19 :: some v :: s) H) : gName 20 v (a0 :: a1 :: a2 :: a3 :: a4 :: a5 :: a6 :: a7 :: a8 :: a9 :: a10 :: a11 :: a12 :: a13 :: a14 :: a15 :: a16 :: a17 :: a18 :: a19 :: a20 :: s) H QS := h
theorem g_n21 {a0 a1 a2 a3 a4 a5 a6 a7 a8 a9 a10 a11 a12 a13 a14 a15 a16 a17 a18 a19 a20 a21 : Option V} (h : QS (a0 :: a1 :: a2 :: a3 :: a4 :: a5 :: a6 :: a7 :: a8 :: a9 :: a10 :: a11 :: a12 :: a13 :: a14 :: a15 :: a16 :: a17 :: a18 :: a19 :: a20 :: some v :: s) H) : gName 21 v (a0 :: a1 :: a2 :: a3 :: a4 :: a5 :: a6 :: a7 :: a8 :: a9 :: a10 :: a11 :: a12 :: a13 :: a14 :: a15 :: a16 :: a17 :: a18 :: a19 :: a20 :: a21 :: s) H QS := h
theorem g_n22 {a0 a1 a2 a3 a4 a5 a6 a7 a8 a9 a10 a11 a12 a13 a14 a15 a16 a17 a18 a19 a20 a21 a22 : Option V} (h : QS (a0 :: a1 :: a2 :: a3 :: a4 :: a5 :: a6 :: a7 :: a8 :: a9 :: a10 :: a11 :: a12 :: a13 :: a14 :: a15 :: a16 :: a17 :: a18 :: a19 :: a20 :: a21 :: some v :: s) H) : gName 22 v (a0 :: a1 :: a2 :: a3 :: a4 :: a5 :: a6 :: a7 :: a8 :: a9 :: a10 :: a11 :: a12 :: a13 :: a14 :: a15 :: a16 :: a17 :: a18 :: a19 :: a20 :: a21 :: a22 :: s) H QS := h
theorem g_n23 {a0 a1 a2 a3 a4 a5 a6 a7 a8 a9 a10 a11 a12 a13 a14 a15 a16 a17 a18 a19 a20 a21 a22 a23 : Option V} (h : QS (a0 :: a1 :: a2 :: a3 :: a4 :: a5 :: a6 :: a7 :: a8 :: a9 :: a10 :: a11 :: a12 :: a13 :: a14 :: a15 :: a16 :: a17 :: a18 :: a19 :: a20 :: a21 :: a22 :: some v :: s) H) : gName 23 v (a0 :: a1 :: a2 :: a3 :: a4 :: a5 :: a6 :: a7 :: a8 :: a9 :: a10 :: a11 :: a12 :: a13 :: a14 :: a15 :: a16 :: a17 :: a18 :: a19 :: a20 :: a21 :: a22 :: a23 :: s) H QS := h
theorem g_n24 {a0 a1 a2 a3 a4 a5 a6 a7 a8 a9 a10 a11 a12 a13 a14 a15 a16 a17 a18 a19 a20 a21 a22 a23 a24 : Option V} (h : QS (a0 :: a1 :: a2 :: a3 :: a4 :: a5 :: a6 :: a7 :: a8 :: a9 :: a10 :: a11 :: a12 :: a13 :: a14 :: a15 :: a16 :: a17 :: a18 :: a19 :: a20 :: a21 :: a22 :: a23 :: some v :: s) H) : gName 24 v (a0 :: a1 :: a2 :: a3 :: a4 :: a5 :: a6 :: a7 :: a8 :: a9 :: a10 :: a11 :: a12 :: a13 :: a14 :: a15 :: a16 :: a17 :: a18 :: a19 :: a20 :: a21 :: a22 :: a23 :: a24 :: s) H QS := h
theorem g_n25 {a0 a1 a2 a3 a4 a5 a6 a7 a8 a9 a10 a11 a12 a13 a14 a15 a16 a17 a18 a19 a20 a21 a22 a23 a24 a25 : Option V} (h : QS (a0 :: a1 :: a2 :: a3 :: a4 :: a5 :: a6 :: a7 :: a8 :: a9 :: a10 :: a11 :: a12 :: a13 :: a14 :: a15 :: a16 :: a17 :: a18 :: a19 :: a20 :: a21 :: a22 :: a23 :: a24 :: some v :: s) H) : gName 25 v (a0 :: a1 :: a2 :: a3 :: a4 :: a5 :: a6 :: a7 :: a8 :: a9 :: a10 :: a11 :: a12 :: a13 :: a14 :: a15 :: a16 :: a17 :: a18 :: a19 :: a20 :: a21 :: a22 :: a23 :: a24 :: a25 :: s) H QS := h
end
end My
namespace My
open PySem PySem.Spec PyProof.Rows L2
/-! ### classes of the program: methods, attributes -/
def HasM (P : Program) (w : World) (K : PySem.W.Frag) (mg : Str → Option Value) (base : Heap) (k : Nat) (C m : Str) (ps : List Str) (sp : Sp) : Prop :=
  ∃ (f : Addr) (fd : FuncData), FnOk P w K mg base CX0 k f fd ps sp ∧ Meth K (clsA K C) m f ∧ Binds K fd ps []
def HasI (P : Program) (w : World) (K : PySem.W.Frag) (mg : Str → Option Value) (base : Heap) (k : Nat) (C : Str) (ps : List Str) (sp : Sp) : Prop :=
  ∃ (f : Addr) (fd : FuncData), FnOk P w K mg base CX0 k f fd ps sp ∧ Mk K (clsA K C) f ∧ mg C = some (.ref (clsA K C)) ∧ Binds K fd ps []
theorem lk_nil {k : Str} : List.lookup k ([] : List (Str × V)) = Option.none := rfl
theorem lk_hit {k : Str} {v : V} {r : List (Str × V)} : List.lookup k ((k, v) :: r) = some v := by
  show (match k == k with | true => some v | false => List.lookup k r) = some v
  rw [beq_self_eq_true]
theorem lk_miss {k j : Str} {v : V} {r : List (Str × V)} {o : Option V} (h : (k == j) = false) (e : List.lookup k r = o) : List.lookup k ((j, v) :: r) = o := by
  show (match k == j with | true => some v | false => List.lookup k r) = o
  rw [h]
  exact e
theorem pf_nil {k : Str} {v : V} : putF k v [] = [(k, v)] := rfl
theorem pf_hit {k : Str} {v x : V} {r : List (Str × V)} : putF k v ((k, x) :: r) = (k, v) :: r := by
  show (if k = k then (k, v) :: r else _) = _
  rw [if_pos rfl]
theorem pf_miss {k j : Str} {v x : V} {r s : List (Str × V)} (h : (j == k) = false) (e : putF k v r = s) : putF k v ((j, x) :: r) = (j, x) :: s := by
  show (if j = k then _ else (j, x) :: putF k v r) = _
  rw [if_neg (by simpa using h), e]
section
variable {σ : L2.St} {H : Hp} {Q : VK} {K : PySem.W.Frag} {ta tv : TE} {f : Str} {D : Ends} {tr : TA} {m : Str} {sp : Sp} {dvs : List V} {E : XK} {C p dx : Addr} {fs : List (Str × V)} {v : V} {rd : V → V → Hp → VK → Prop}
theorem g_fld (h : ta σ H fun x H1 => ∃ a C dx fs v, x = .ref a ∧ H1 a = some (.ins C dx fs) ∧ Cls K C ∧ NoAttr K C f ∧ fs.lookup f = some v ∧ Q v H1) : tFld K ta f σ H Q := h
theorem g_sfld (h : tv σ H fun y H1 => ta σ H1 fun x H2 => ∃ a C dx fs, x = .ref a ∧ H2 a = some (.ins C dx fs) ∧ Cls K C ∧ NoAttr K C f ∧ fs.length < 1000 ∧ D.nx σ (upd H2 a (.ins C dx (putF f y fs)))) : sFld K ta tv f D σ H := h
theorem g_afld (h : ta σ H fun x H1 => ∃ a C dx fs v, x = .ref a ∧ H1 a = some (.ins C dx fs) ∧ Cls K C ∧ NoAttr K C f ∧ fs.lookup f = some v ∧
  tv σ H1 fun y H2 => rd v y H2 fun z H3 => ∃ dx' fs', H3 a = some (.ins C dx' fs') ∧ fs'.length < 1000 ∧ D.nx σ (upd H3 a (.ins C dx' (putF f z fs')))) : sFldAug K ta tv rd f D σ H := h
theorem g_meth (h : ta σ H fun x H1 => ∃ a dx fs, x = .ref a ∧ H1 a = some (.ins C dx fs) ∧ fs.lookup m = Option.none ∧ tr σ H1 fun vs H2 => sp (x :: (vs ++ dvs)) H2 Q E) : tMeth C m sp dvs E ta tr σ H Q := h
theorem g_make (h : tr σ H fun vs H1 => ∀ x dx, H1 x = Option.none → H1 dx = Option.none → dx ≠ x → sp (.ref x :: (vs ++ dvs)) (upd (upd H1 dx (.own x)) x (.ins C dx [])) (fun v H2 => v = .non ∧ Q (.ref x) H2) E) : tMake C sp dvs E tr σ H Q := h
end
/-! ### t[::-1] of a tuple -/
theorem back_places (n : Nat) : Builtin.Slice.sliceAdjust Option.none Option.none (-1) (n : Int) = ((n : Int) - 1, -1) := rfl
theorem back_many (n : Nat) : Builtin.Slice.slicePlaces ((n : Int) - 1) (-1) (-1) = n := by
  unfold Builtin.Slice.slicePlaces
  rw [if_neg (by decide)]
  by_cases h : (n : Int) - 1 > -1
  · rw [if_pos h, show (-(-1) : Int) = 1 by decide, Int.ediv_one]
    omega
  · rw [if_neg h]
    omega
theorem back_items (xs : Array Value) : ((List.range xs.size).filterMap fun (k : Nat) => xs[((xs.size : Int) - 1 + (k : Int) * (-1)).toNat]?).toArray = xs.toList.reverse.toArray := by
  have e := PySem.W.krv_pick xs
  unfold slicePick at e
  rw [PySem.W.krv_bounds] at e
  have e2 : ((sliceRange ((xs.size : Int) - 1) (-1) (-1)).filterMap (xs[·]?)).toArray = xs.toList.reverse.toArray := e
  rw [PySem.W.krv_sliceRange, List.filterMap_map] at e2
  rw [← e2]
  have e3 : (fun (k : Nat) => xs[((xs.size : Int) - 1 + (k : Int) * (-1)).toNat]?) = ((xs[·]?) ∘ fun k => xs.size - 1 - k) := by
    funext k
    show xs[((xs.size : Int) - 1 + (k : Int) * (-1)).toNat]? = xs[xs.size - 1 - k]?
    congr 1
    omega
  rw [e3]
section
variable {prog : Program} {w : World} {A : Around} {E : Value → Shared → Prop} {s : Shared}
theorem applied_back {sl : Addr} {n : Nat} {t : Tok} {Q : Int × Int × Nat → Shared → Prop} (hs : s.heap.IsSliceOf sl .none .none (.int (-1) t)) (h : Q ((n : Int) - 1, -1, n) s) :
    wpAny (model prog w) A (Builtin.Slice.sliceApplied (.ref sl) (pure (n : Int))) Q E s := by
  obtain ⟨os, hos, hcs, hds⟩ := id hs
  unfold Builtin.Slice.sliceApplied Builtin.Slice.sliceFields
  refine wpAny_bind (wpAny_bind (wpAny_field hos hds (x := .none) rfl (wpAny_bind (wpAny_field hos hds (x := .none) rfl (wpAny_bind (wpAny_field hos hds (x := .int (-1) t) rfl (wpAny_pure ?_)))))))
  refine wpAny_bind (slicePart_int ?_)
  show wpAny _ _ (if ((-1 : Int) == 0) = true then _ else _) _ _ s
  rw [if_neg (by decide)]
  refine wpAny_bind (slicePart_none (wpAny_bind (slicePart_none (wpAny_bind (wpAny_pure ?_)))))
  show wpAny _ _ (match Builtin.Slice.sliceAdjust Option.none Option.none (-1) (n : Int) with | (lo, hi) => pure (lo, (-1 : Int), Builtin.Slice.slicePlaces lo hi (-1))) _ _ s
  rw [back_places]
  show wpAny _ _ (pure ((n : Int) - 1, (-1 : Int), Builtin.Slice.slicePlaces ((n : Int) - 1) (-1) (-1))) _ _ s
  rw [back_many]
  exact wpAny_pure h
theorem item_back {t sl : Addr} {items : Array Value} {tk : Tok} {Q : Value → Shared → Prop} (ht : IsTup s.heap t items) (hs : s.heap.IsSliceOf sl .none .none (.int (-1) tk)) (hsz : items.size ≤ sizeLine)
    (h : Q (.ref s.heap.objs.size) { s with heap := s.heap.push { cls := .type "tuple", data := .seq items.toList.reverse.toArray } }) : wpAny (model prog w) A (getItem (.ref t) (.ref sl)) Q E s := by
  have hz : sizeOk (.seq items.toList.reverse.toArray) := by
    show items.toList.reverse.toArray.size ≤ sizeLine
    rw [List.size_toArray, List.length_reverse, Array.length_toList]
    exact hsz
  obtain ⟨os, hos, hcs, hds⟩ := id hs
  have hTs : s.TypeIs (.ref sl) "slice" := ⟨os, hos, hcs⟩
  unfold getItem
  try with_reducible refine wpAny_holding ?_
  first | refine wpAny_bind (wpAny_pure ?_) | skip
  refine wpAny_bind (wpAny_sequenceKey ht.typeIs (by decide) ?_)
  refine wpAny_bind (wpAny_callSpecial?_slot (name := Str.ofString "__getitem__") ht.typeIs PyProof.Rows.slot_tuple_getitem (wpAny_call_entry PyProof.Rows.slot_tuple_getitem ht.typeIs entry_tuple_getitem ?_ (args_tuple_getitem _ _)))
  show wpAny _ _ (Builtin.Tuple.tupleItemsOf (.ref t) >>= _) _ _ s
  refine wpAny_bind (tupleItemsOf_ ht (wpAny_bind (wpAny_typeOf hTs ?_)))
  rw [if_pos (by decide)]
  refine wpAny_bind (applied_back hs ?_)
  show wpAny _ _ (if (((items.size : Int) - 1 == 0 && (-1 : Int) == 1 && items.size == items.size)) = true then _ else _) _ _ s
  rw [if_neg (by rw [show ((-1 : Int) == 1) = false from rfl, Bool.and_false, Bool.false_and]; exact Bool.false_ne_true), back_items]
  first
    | exact wpAny_bind (m := Builtin.Tuple.tupleExact _) (wpAny_newObj_type (wpAny_pure ⟨_, rfl, wpAny_pure h⟩) hz)
    | exact wpAny_bind (m := Builtin.Tuple.tupleExact _) (wpAny_newObj_type (wpAny_bind (wpAny_pure (wpAny_pure ⟨_, rfl, wpAny_pure h⟩))) hz)
    | exact wpAny_bind (wpAny_bind (m := Builtin.Tuple.tupleExact _) (wpAny_newObj_type (wpAny_pure (wpAny_pure ⟨_, rfl, wpAny_pure h⟩)) hz))
    | exact wpAny_bind (wpAny_bind (m := Builtin.Tuple.tupleExact _) (wpAny_newObj_type (wpAny_pure ⟨_, rfl, wpAny_pure h⟩) hz))
end
def tRevT (K : PySem.W.Frag) (te : TE) : TE := fun σ H Q => te σ H fun x H1 => ∃ a xs, x = .ref a ∧ SqT K H1 a xs ∧ ∀ p, H1 p = Option.none → Q (.ref p) (upd H1 p (.tup xs.reverse))
theorem pe_revT {X : Cx} {e : Expr} {te : TE} {k : Nat} {p1 p2 p3 pos : Pos} (he : PE X e te) : PE X (.Subscript e (.Slice Option.none Option.none (some (.UnaryOp .USub (.Constant (.int 1) k p1) p2)) p3) pos) (tRevT X.K te) := by
  refine ⟨fun pins s σ H Q I h => ?_⟩
  refine Subscript_ (thn (he.run pins s σ H _ I h) fun v s1 ⟨x, H1, I1, r1, q1⟩ => ?_)
  obtain ⟨a, xs, ex, hx, q⟩ := q1
  subst ex
  cases r1
  have hst : PO X (some (.UnaryOp .USub (.Constant (.int 1) k p1) p2)) (tPart (tUn (rU fun i => .int (-i)) (tC (.int 1)))) := po_some (pe_un un_neg pe_int)
  refine wpAny_Slice (thn (po_none.run pins s1 σ H1 (fun o H2 => o = Option.none ∧ H2 = H1) I1 ⟨rfl, rfl⟩) fun vl s2 ⟨l, H2, I2, pl, el, e2⟩ => ?_)
  subst el e2
  refine thn (po_none.run pins s2 σ H2 (fun o H3 => o = Option.none ∧ H3 = H2) I2 ⟨rfl, rfl⟩) fun vu s3 ⟨u, H3, I3, pu, eu, e3⟩ => ?_
  subst eu e3
  refine thn (hst.run pins s3 σ H3 (fun o H4 => o = some (-1) ∧ H4 = H3) I3 ⟨1, rfl, -1, rfl, rfl, rfl⟩) fun vs s4 ⟨o, H4, I4, ps, eo, e4⟩ => ?_
  subst eo e4
  have I5 : Inv X pins σ H4 { s4 with heap := s4.heap.push { cls := .type "slice", data := .fields #[vl, vu, vs] } } := I4.kept (t' := s4.toks) fun b ob q => Heap.get?_push_of_some _ q
  obtain ⟨its, r, ht, hz⟩ := I5.tuple hx
  have hlen := r.length
  cases pl
  cases pu
  cases ps with
  | int i tk =>
  show wpAny (model X.prog X.w) X.A (subscriptTail e (.Slice Option.none Option.none (some (.UnaryOp .USub (.Constant (.int 1) k p1) p2)) p3) (.ref a) (.ref s4.heap.objs.size)) (EP X pins σ Q) X.xe { s4 with heap := s4.heap.push { cls := .type "slice", data := .fields #[.none, .none, .int (-1) tk] } }
  refine tail_any (ops := [.ref a, .ref s4.heap.objs.size]) ht.typeIs PyProof.Rows.slot_tuple_getitem.lookup ?_ (by with_unfolding_all rfl)
  refine item_back ht (Heap.IsSliceOf.new _ .none .none (.int (-1) tk)) (by rw [List.size_toArray]; omega) ?_
  refine ⟨.ref _, _, I5.laid (t' := s4.toks) (o := .tup xs.reverse) (fun b ob q => Heap.get?_push_of_some _ q) (Nat.le_refl _) ?_, rfl, q _ (I5.hok.fresh (Nat.le_refl _))⟩
  exact ⟨by rw [List.length_reverse]; exact hz, its.reverse, r.reverse, IsTup.new _ _⟩
theorem g_revT {σ : L2.St} {H : Hp} {Q : VK} {K : PySem.W.Frag} {te : TE} (h : te σ H fun x H1 => ∃ a xs, x = .ref a ∧ SqT K H1 a xs ∧ ∀ p, H1 p = Option.none → Q (.ref p) (upd H1 p (.tup xs.reverse))) : tRevT K te σ H Q := h
theorem g_revL {σ : L2.St} {H : Hp} {Q : VK} {K : PySem.W.Frag} {te : TE} (h : te σ H fun x H1 => ∃ a xs, x = .ref a ∧ SqL K H1 a xs ∧ ∀ p, H1 p = Option.none → Q (.ref p) (upd H1 p (.lst xs.reverse))) : tRevL K te σ H Q := h
section
variable {σ : L2.St} {H : Hp} {Q : VK} {td ty tx tv : TE} {D : Ends} {ta : TA} {K : PySem.W.Frag} {R : It → Hp → Prop}
theorem g_din (h : ty σ H fun y H1 => td σ H1 fun x H2 => ∃ a o, x = .ref a ∧ DGet H2 a y o ∧ Q (.bl o.isSome) H2) : tDIn ty td σ H Q := h
theorem g_dnin (h : ty σ H fun y H1 => td σ H1 fun x H2 => ∃ a o, x = .ref a ∧ DGet H2 a y o ∧ Q (.bl (!o.isSome)) H2) : tDNotIn ty td σ H Q := h
theorem g_dget (h : td σ H fun x H1 => ty σ H1 fun y H2 => ∃ a v, x = .ref a ∧ DGet H2 a y (some v) ∧ Q v H2) : tDGet td ty σ H Q := h
theorem g_dget2 (h : td σ H fun x H1 => ∃ a, x = .ref a ∧ IsD H1 a ∧ ty σ H1 fun y H2 => tx σ H2 fun z H3 => ∃ o, DGet H3 a y o ∧ Q (o.getD z) H3) : tDGet2 td ty tx σ H Q := h
theorem g_dpop2 (h : td σ H fun x H1 => ∃ a, x = .ref a ∧ IsD H1 a ∧ ty σ H1 fun y H2 => tx σ H2 fun z H3 => ∃ kvs k, H3 a = some (.dK kvs) ∧ y = kV k ∧ (∀ v, valV kvs k = some v → Q v (upd H3 a (.dK (dropK kvs k)))) ∧ (valV kvs k = Option.none → Q z H3)) : tDPop2 td ty tx σ H Q := h
theorem g_dput (h : tv σ H fun v H1 => td σ H1 fun x H2 => ty σ H2 fun y H3 => ∃ a H4, x = .ref a ∧ DPut H3 a y v H4 ∧ D.nx σ H4) : sDPut td ty tv D σ H := h
theorem g_rev (h : ta σ H fun vs H1 => ∃ (a : Addr) (xs : List V), vs = [.ref a] ∧ SqL K H1 a xs ∧ R (Itv K a xs.length) H1) : iRev K ta σ H R := h
theorem g_dnew (h : ∀ p, H p = Option.none → Q (.ref p) (upd H p (.dK []))) : tDNewK σ H Q := h
end
section
variable {σ : L2.St} {H : Hp} {Q : VK} {sp : Sp} {E : L2.St → XK} {t : TA}
theorem g_callS (h : t σ H fun vs H1 => sp vs H1 Q (E σ)) : tCallS sp E t σ H Q := h
end
theorem dpAll_last {K : PySem.W.Frag} {H : Hp} : ∀ {l : List PyData} {xs : List V} {d : PyData}, DpAll K H xs (l ++ [d]) → ∃ ys v, xs = ys ++ [v] ∧ DpAll K H ys l ∧ Dp K H v d
  | [], _, d, h => by
    have h' : DpAll K H _ [d] := h
    cases h' with
    | cons a b => cases b; exact ⟨[], _, rfl, .nil, a⟩
  | e :: l, _, d, h => by
    have h' : DpAll K H _ (e :: (l ++ [d])) := h
    cases h' with
    | cons a b =>
      obtain ⟨ys, v, rfl, h1, h2⟩ := dpAll_last b
      exact ⟨_ :: ys, v, rfl, .cons a h1, h2⟩
theorem last_at {ys : List V} {v : V} : (ys ++ [v])[(ys ++ [v]).length - 1]? = some v := by simp
theorem dpAll_rev {K : PySem.W.Frag} {H : Hp} : ∀ {xs : List V} {ds : List PyData}, DpAll K H xs ds → DpAll K H xs.reverse ds.reverse
  | _, _, .nil => .nil
  | _, _, .cons a b => by
    rw [List.reverse_cons, List.reverse_cons]
    exact dpAll_end (dpAll_rev b) a
theorem nL_app {a b : List PyData} : nLs (a ++ b) = (nLs a && nLs b) := by
  induction a with
  | nil => simp [nLs]
  | cons d a ih => simp only [List.cons_append, nLs, ih, Bool.and_assoc]
theorem nL_rev {a : List PyData} (h : nLs a = true) : nLs a.reverse = true := nLs_of fun d hd => nLs_mem h d (List.mem_reverse.mp hd)
theorem valV_dropK (kvs : List (Key × V)) (k j : Key) : valV (dropK kvs k) j = if j = k then Option.none else valV kvs j := by
  induction kvs with
  | nil => simp [dropK, valV_nil]
  | cons p r ih =>
    unfold dropK at ih ⊢
    rw [List.filter_cons]
    by_cases e : p.1 = k
    · rw [if_neg (by simp [e]), ih]
      by_cases z : j = k
      · rw [if_pos z, if_pos z]
      · rw [if_neg z, if_neg z, valV_neg (by rw [e]; exact fun w => z w.symm)]
    · rw [if_pos (by simp [e])]
      by_cases f : p.1 = j
      · rw [valV_pos f, valV_pos f, if_neg (by rw [← f]; exact e)]
      · rw [valV_neg f, valV_neg f, ih]
end My
namespace My
open PySem PySem.Spec PyProof.Rows L2
open PySem.AutoSeq1 (wpAny_loadPart')
/-! ### a dict and a str are not equal -/
theorem str_eq_declines_dict (b : Str) (u : Tok) (l : Addr) (dd : Option Addr) (en : Array DictEntry) (ep : Nat) (sl : Array (Option Value)) :
    Meets (Builtin.«str.__eq__» ⟨[.str b u, .ref l], []⟩) (fun _ R s => s.heap.get? l = some { cls := .type "dict", dict := dd, data := .dict en ep, slots := sl } ∧ R (.ok (.ret .notImplemented)) s) :=
  .of_wp fun prog w A R s h => by obtain ⟨hp, g, d, tk, os⟩ := s; obtain ⟨hl, h⟩ := h; wp_walk using wpAny_loadPart' hl, wpAny_load hl; exact ⟨_, rfl, h⟩
section
variable {prog : Program} {w : World} {A : Around} {E : Value → Shared → Prop} {s : Shared}
theorem eq_dict_str {a : Addr} {dd : Option Addr} {en : Array DictEntry} {ep : Nat} {sl : Array (Option Value)} {b : Str} {u : Tok} (ho : s.heap.get? a = some { cls := .type "dict", dict := dd, data := .dict en ep, slots := sl }) (hu : A.units < cLine) {Q : Value → Shared → Prop} (h : Q (.bool false) s) : wpAny (model prog w) A (richCompare .Eq (.ref a) (.str b u)) Q E s := by
  have ti : s.TypeIs (.ref a) "dict" := ⟨_, ho, rfl⟩
  refine SeqAt.rc_eq_decline_or (k := false) ti (typeIs_str s b u) (by decide) F.sub_str_dict F.slot_dict_eq F.slot_str_eq_refl (fun Q' hq => ?_) (fun Q' hq => ?_) (fun _ hq => wpAny_of_eq (rfl : isSame (.ref a) (.str b u) = pure false) hq) (.inr hu) h
  · refine wpAny_call_entry PySem.F.slot_dict_eq ti PySem.F.entry_dict_eq ?_ (PySem.F.args_dict_eq_2 _ _)
    show wpAny _ _ (Builtin.Dict.dictSlotArgs "__eq__" ⟨[.ref a, .str b u], []⟩ >>= _) _ _ s
    refine wpAny_bind ?_
    unfold Builtin.Dict.dictSlotArgs
    refine wpAny_bind (wpAny_notOrdered_dict ti ?_)
    show wpAny _ _ (pure (Value.ref a, Value.str b u)) _ _ s
    refine wpAny_pure ?_
    refine wpAny_bind (wpAny_isInstance (T := "str") (typeIs_str s b u) PySem.F.sub_str_dict ?_)
    simp only [Bool.not_false, if_true]
    exact wpAny_bind (wpAny_rule (wpAny_pure ⟨_, rfl, hq⟩))
  · exact call_meets F.slot_str_eq_refl (typeIs_str s b u) F.entry_str_eq (F.args_str_eq_2 _ _) (str_eq_declines_dict b u a dd en ep sl) ⟨ho, hq⟩
end
section
variable {X : Cx}
/-- x == y of scalars, or of a dict and a str -/
def rEqX : R2 := fun x y H Q => (scal x y = true ∧ Q (.bl (decide (x = y))) H) ∨ (∃ a kvs t, x = .ref a ∧ y = .str t ∧ H a = some (.dK kvs) ∧ Q (.bl false) H)
theorem op_eqX (hu : X.A.units < cLine) : OpR X (compareOp .Eq) rEqX := by
  intro pins s σ H x y v u Q I rx ry h
  rcases h with h | ⟨a, kvs, t, rfl, rfl, ea, q⟩
  · exact op_eq pins s σ H x y v u Q I rx ry h
  · obtain rfl : v = Value.ref a := rx
    obtain ⟨tk, rfl⟩ := ry
    obtain ⟨_, _, va, _, ⟨cls, dd, data, sl⟩, es, ep, ho, hx, hd, _⟩ := (show ObjOk X.prog X.w H s.heap a (.dK kvs) from I.hok a _ ea)
    simp only at hd
    subst hd
    obtain rfl : cls = .type "dict" := hx.1
    exact eq_dict_str ho hu (fin_bl I q rfl)
end
end My

namespace My
open PySem PySem.Spec PyProof.Rows L2 SkE
/-! ### the text -/
def topS (i : Nat) : Stmt := PySem.Challenge.pw_hornbook_k09_unify_too_large.main.body.getD i (.Pass ⟨0, 0, 0, 0⟩)
abbrev s_is_variable : Stmt := topS 4
abbrev N_is_variable : List Str := ["node"]
theorem sc_is_variable : FnScope N_is_variable ["node"] (defScope s_is_variable) := ⟨rfl, rfl, rfl, by decide +kernel, rfl, by decide +kernel, by decide +kernel⟩
abbrev s_is_symbol : Stmt := topS 5
abbrev N_is_symbol : List Str := ["node"]
theorem sc_is_symbol : FnScope N_is_symbol ["node"] (defScope s_is_symbol) := ⟨rfl, rfl, rfl, by decide +kernel, rfl, by decide +kernel, by decide +kernel⟩
abbrev s_arity_of : Stmt := topS 6
abbrev N_arity_of : List Str := ["node"]
theorem sc_arity_of : FnScope N_arity_of ["node"] (defScope s_arity_of) := ⟨rfl, rfl, rfl, by decide +kernel, rfl, by decide +kernel, by decide +kernel⟩
abbrev s_Side___init__ : Stmt := inClass (topS 9) 0
abbrev N_Side___init__ : List Str := ["self", "term"]
theorem sc_Side___init__ : FnScope N_Side___init__ ["self", "term"] (defScope s_Side___init__) := ⟨rfl, rfl, rfl, by decide +kernel, rfl, by decide +kernel, by decide +kernel⟩
abbrev s_Side_add_variables : Stmt := inClass (topS 9) 1
abbrev N_Side_add_variables : List Str := ["self", "term", "times", "node"]
theorem sc_Side_add_variables : FnScope N_Side_add_variables ["self", "term", "times"] (defScope s_Side_add_variables) := ⟨rfl, rfl, rfl, by decide +kernel, rfl, by decide +kernel, by decide +kernel⟩
abbrev s_Side_take : Stmt := inClass (topS 9) 2
abbrev N_Side_take : List Str := ["self", "found", "node"]
theorem sc_Side_take : FnScope N_Side_take ["self", "found"] (defScope s_Side_take) := ⟨rfl, rfl, rfl, by decide +kernel, rfl, by decide +kernel, by decide +kernel⟩
abbrev s_Side_take_rest : Stmt := inClass (topS 9) 3
abbrev N_Side_take_rest : List Str := ["self", "node", "found", "nodes", "missing"]
theorem sc_Side_take_rest : FnScope N_Side_take_rest ["self", "node", "found"] (defScope s_Side_take_rest) := ⟨rfl, rfl, rfl, by decide +kernel, rfl, by decide +kernel, by decide +kernel⟩
abbrev s_Side_bind : Stmt := inClass (topS 9) 4
abbrev N_Side_bind : List Str := ["self", "number", "value", "times"]
theorem sc_Side_bind : FnScope N_Side_bind ["self", "number", "value"] (defScope s_Side_bind) := ⟨rfl, rfl, rfl, by decide +kernel, rfl, by decide +kernel, by decide +kernel⟩
abbrev s_apply : Stmt := topS 10
abbrev N_apply : List Str := ["substitution", "term", "nodes", "node"]
theorem sc_apply : FnScope N_apply ["substitution", "term"] (defScope s_apply) := ⟨rfl, rfl, rfl, by decide +kernel, rfl, by decide +kernel, by decide +kernel⟩
abbrev s_settle : Stmt := topS 11
abbrev N_settle : List Str := ["found", "settled", "number"]
theorem sc_settle : FnScope N_settle ["found"] (defScope s_settle) := ⟨rfl, rfl, rfl, by decide +kernel, rfl, by decide +kernel, by decide +kernel⟩
abbrev s_unify : Stmt := topS 12
abbrev N_unify : List Str := ["left", "right"]
theorem sc_unify : FnScope N_unify ["left", "right"] (defScope s_unify) := ⟨rfl, rfl, rfl, by decide +kernel, rfl, by decide +kernel, by decide +kernel⟩
abbrev s_unify_within : Stmt := topS 13
abbrev N_unify_within : List Str := ["left", "right", "most", "bound", "one", "other", "found", "node", "mate", "number", "value"]
theorem sc_unify_within : FnScope N_unify_within ["left", "right", "most"] (defScope s_unify_within) := ⟨rfl, rfl, rfl, by decide +kernel, rfl, by decide +kernel, by decide +kernel⟩
abbrev s__law_stream : Stmt := topS 15
abbrev N__law_stream : List Str := ["script", "mixed", "cell"]
theorem sc__law_stream : FnScope N__law_stream ["script"] (defScope s__law_stream) := ⟨rfl, rfl, rfl, by decide +kernel, rfl, by decide +kernel, by decide +kernel⟩
abbrev s__law_draw : Stmt := topS 16
abbrev N__law_draw : List Str := ["stream", "many", "value"]
theorem sc__law_draw : FnScope N__law_draw ["stream", "many"] (defScope s__law_draw) := ⟨rfl, rfl, rfl, by decide +kernel, rfl, by decide +kernel, by decide +kernel⟩
abbrev s__law_apply : Stmt := topS 17
abbrev N__law_apply : List Str := ["table", "term", "nodes", "node", "inner"]
theorem sc__law_apply : FnScope N__law_apply ["table", "term"] (defScope s__law_apply) := ⟨rfl, rfl, rfl, by decide +kernel, rfl, by decide +kernel, by decide +kernel⟩
abbrev s__law_end : Stmt := topS 18
abbrev N__law_end : List Str := ["term", "at", "missing", "node"]
theorem sc__law_end : FnScope N__law_end ["term", "at"] (defScope s__law_end) := ⟨rfl, rfl, rfl, by decide +kernel, rfl, by decide +kernel, by decide +kernel⟩
abbrev s__law_list : Stmt := topS 19
abbrev N__law_list : List Str := ["rows", "nodes", "row", "node"]
theorem sc__law_list : FnScope N__law_list ["rows"] (defScope s__law_list) := ⟨rfl, rfl, rfl, by decide +kernel, rfl, by decide +kernel, by decide +kernel⟩
abbrev s__law_due : Stmt := topS 20
abbrev N__law_due : List Str := ["left", "right", "bound", "table", "at", "one", "two", "new", "number", "sizes"]
theorem sc__law_due : FnScope N__law_due ["left", "right"] (defScope s__law_due) := ⟨rfl, rfl, rfl, by decide +kernel, rfl, by decide +kernel, by decide +kernel⟩
abbrev s__law_unify : Stmt := topS 21
abbrev N__law_unify : List Str := ["left", "right", "e"]
theorem sc__law_unify : FnScope N__law_unify ["left", "right"] (defScope s__law_unify) := ⟨rfl, rfl, rfl, by decide +kernel, rfl, by decide +kernel, by decide +kernel⟩
abbrev s_law : Stmt := topS 22
abbrev N_law : List Str := ["script", "stream", "count", "lefts", "rights", "k", "padding", "left", "right", "due", "actual", "number"]
theorem sc_law : FnScope N_law ["script"] (defScope s_law) := ⟨rfl, rfl, rfl, by decide +kernel, rfl, by decide +kernel, by decide +kernel⟩
def fs_Side (v_rest v_total v_counts : V) : List (Str × V) := [("rest", v_rest), ("total", v_total), ("counts", v_counts)]
theorem fs_Side_rest {v_rest v_total v_counts : V} : (fs_Side v_rest v_total v_counts).lookup ("rest" : Str) = some v_rest := lk_hit
theorem ps_Side_rest {v_rest v_total v_counts y : V} : putF "rest" y (fs_Side v_rest v_total v_counts) = fs_Side y v_total v_counts := pf_hit
theorem fs_Side_total {v_rest v_total v_counts : V} : (fs_Side v_rest v_total v_counts).lookup ("total" : Str) = some v_total := (lk_miss (by decide +kernel) lk_hit)
theorem ps_Side_total {v_rest v_total v_counts y : V} : putF "total" y (fs_Side v_rest v_total v_counts) = fs_Side v_rest y v_counts := (pf_miss (by decide +kernel) pf_hit)
theorem fs_Side_counts {v_rest v_total v_counts : V} : (fs_Side v_rest v_total v_counts).lookup ("counts" : Str) = some v_counts := (lk_miss (by decide +kernel) (lk_miss (by decide +kernel) lk_hit))
theorem ps_Side_counts {v_rest v_total v_counts y : V} : putF "counts" y (fs_Side v_rest v_total v_counts) = fs_Side v_rest v_total y := (pf_miss (by decide +kernel) (pf_miss (by decide +kernel) pf_hit))
theorem fs_Side_no_add_variables {v_rest v_total v_counts : V} : (fs_Side v_rest v_total v_counts).lookup ("add_variables" : Str) = Option.none := (lk_miss (by decide +kernel) (lk_miss (by decide +kernel) (lk_miss (by decide +kernel) lk_nil)))
theorem fs_Side_no_take {v_rest v_total v_counts : V} : (fs_Side v_rest v_total v_counts).lookup ("take" : Str) = Option.none := (lk_miss (by decide +kernel) (lk_miss (by decide +kernel) (lk_miss (by decide +kernel) lk_nil)))
theorem fs_Side_no_take_rest {v_rest v_total v_counts : V} : (fs_Side v_rest v_total v_counts).lookup ("take_rest" : Str) = Option.none := (lk_miss (by decide +kernel) (lk_miss (by decide +kernel) (lk_miss (by decide +kernel) lk_nil)))
theorem fs_Side_no_bind {v_rest v_total v_counts : V} : (fs_Side v_rest v_total v_counts).lookup ("bind" : Str) = Option.none := (lk_miss (by decide +kernel) (lk_miss (by decide +kernel) (lk_miss (by decide +kernel) lk_nil)))
theorem pi_Side_rest {v_rest v_total v_counts : V} : putF "rest" v_rest ([] : List (Str × V)) = ([("rest", v_rest)] : List (Str × V)) := pf_nil
theorem pi_Side_total {v_rest v_total v_counts : V} : putF "total" v_total ([("rest", v_rest)] : List (Str × V)) = ([("rest", v_rest), ("total", v_total)] : List (Str × V)) := (pf_miss (by decide +kernel) pf_nil)
theorem pi_Side_counts {v_rest v_total v_counts : V} : putF "counts" v_counts ([("rest", v_rest), ("total", v_total)] : List (Str × V)) = ([("rest", v_rest), ("total", v_total), ("counts", v_counts)] : List (Str × V)) := (pf_miss (by decide +kernel) (pf_miss (by decide +kernel) pf_nil))
/-- names that the top leaves to the built-ins, and its constants -/
structure Bi (K : PySem.W.Frag) (mg : Str → Option Value) : Prop where
  cl_Side : Cls K (clsA K "Side")
  nA_Side_rest : NoAttr K (clsA K "Side") "rest"
  nA_Side_total : NoAttr K (clsA K "Side") "total"
  nA_Side_counts : NoAttr K (clsA K "Side") "counts"
  x_TooLarge : Xc K mg "TooLarge" (clsA K "TooLarge")
  x_HornbookError : Xc K mg "HornbookError" (clsA K "HornbookError")
  e_TooLarge_TooLarge : PySem.W.exmOne K (.ref (clsA K "TooLarge")) (.ref (clsA K "TooLarge")) = some true
  k_TooLarge : ExcC K (clsA K "TooLarge")
  i_TooLarge_HornbookError : PySem.W.kitOne K (.ref (clsA K "TooLarge")) (.ref (clsA K "HornbookError")) = some true
  b_abs : mg "abs" = Option.none
  b_all : mg "all" = Option.none
  b_dict : mg "dict" = Option.none
  b_int : mg "int" = Option.none
  b_isinstance : mg "isinstance" = Option.none
  b_len : mg "len" = Option.none
  b_list : mg "list" = Option.none
  b_max : mg "max" = Option.none
  b_range : mg "range" = Option.none
  b_reversed : mg "reversed" = Option.none
  b_tuple : mg "tuple" = Option.none
  c_MOST_NODES : GV mg "MOST_NODES" (.int 200)

/-! ### names, nodes, terms -/
def okSign (c : Nat) : Bool := decide (32 ≤ c) && decide (c ≤ 126) && !decide (c = 37)
def okName (x : Str) : Bool := decide (1 ≤ x.length) && decide (x.length ≤ 40) && x.cps.toList.all okSign
def names20 : List Str := ["a", "b", "f", "g", "hello", "[]", "+", "-", ",", "it's", "X", "a b", "{}", ".", "=", "'", "aB_1", "!", "0", "lvjkuwnd"]
def signs : Str := (Str.ofString " !\"#$&'()*+,-./0123456789:;<=>?@ABCDEFGHIJKLMNOPQRSTUVWXYZ[\\]^_`") ++ (Str.ofString "abcdefghijklmnopqrstuvwxyz{|}~")
theorem names20_ok : names20.all okName = true := by decide +kernel
theorem signs_ok : signs.cps.toList.all okSign = true := by decide +kernel
theorem signs_len : signs.length = 94 := by decide +kernel
theorem join_ones (e : Str) (he : e.cps = #[]) : ∀ cs : List Nat, (Str.join e (cs.map fun c => ⟨#[c]⟩)).cps.toList = cs
  | [] => rfl
  | [c] => rfl
  | c :: d :: r => by
    have ih := join_ones e he (d :: r)
    show ((⟨#[c]⟩ : Str) ++ e ++ Str.join e ((d :: r).map fun c => (⟨#[c]⟩ : Str))).cps.toList = c :: d :: r
    show (#[c] ++ e.cps ++ (Str.join e ((d :: r).map fun c => (⟨#[c]⟩ : Str))).cps).toList = c :: d :: r
    rw [he, Array.toList_append, ih]
    rfl
inductive Nd (wd : Int) : PyData → Prop
  | v (n : Int) : 0 ≤ n → n < wd → Nd wd (.tuple [.str "v", .int n])
  | i (n : Int) : -(10 ^ 40) < n → n < 10 ^ 40 → Nd wd (.int n)
  | f (x : Str) (n : Int) : okName x = true → 0 ≤ n → n ≤ 8 → Nd wd (.tuple [.str "f", .str x, .int n])
def arN : PyData → Nat
  | .tuple [_, _, c] => (match c with | .int n => n.toNat | _ => 0) | _ => 0
/-- from m missing terms on, the nodes are just these terms -/
def Cls : Nat → List PyData → Prop
  | m, [] => m = 0
  | m, d :: r => 0 < m ∧ Cls (m - 1 + arN d) r
structure Term (wd : Int) (ds : List PyData) : Prop where
  cl : Cls 1 ds
  nd : ∀ d ∈ ds, Nd wd d
/-! ### the promises -/
def sp__law_stream (K : PySem.W.Frag) : Sp := fun vs H Q _ => ∃ (a : Addr) (ns : List Int), vs = [.ref a] ∧ SqL K H a (ns.map V.int) ∧ ns.length ≤ 63 ∧ ∀ s l H', H s = Option.none → H l = Option.none → Same H H' → Stm H' s l → Q (.ref s) H'
def sp__law_draw (K : PySem.W.Frag) : Sp := fun vs H Q _ => ∃ (s l : Addr) (n : Int), vs = [.ref s, .int n] ∧ Stm H s l ∧ 0 < n ∧ n.natAbs < 2 ^ 9000 ∧ ∀ r H', 0 ≤ r → r < n → But s H H' → Stm H' s l → Q (.int r) H'
/-! ### nodes -/
def isSymN : PyData → Bool
  | .tuple [_, _, _] => true | _ => false
def NdA (d : PyData) : Prop := ∃ wd, Nd wd d
/-- how many nodes m terms take -/
def tk : Nat → List PyData → Nat
  | _, [] => 0
  | m, d :: r => if m = 0 then 0 else 1 + tk (m - 1 + arN d) r
theorem tk_zero (l : List PyData) : tk 0 l = 0 := by
  cases l with
  | nil => rfl
  | cons d r => exact if_pos rfl
theorem tk_cons {m : Nat} (h : 0 < m) (d : PyData) (r : List PyData) : tk m (d :: r) = 1 + tk (m - 1 + arN d) r := if_neg (by omega)
theorem arN_nsym {d : PyData} (h : isSymN d = false) : arN d = 0 := by
  cases d with
  | tuple ds =>
    rcases ds with _ | ⟨a, _ | ⟨b, _ | ⟨c, _ | ⟨e, r⟩⟩⟩⟩
    · rfl
    · rfl
    · rfl
    · cases h
    · rfl
  | _ => rfl
theorem tk_le : ∀ (l : List PyData) (m : Nat), tk m l ≤ l.length
  | [], _ => Nat.le_refl 0
  | d :: r, m => by
    by_cases h : m = 0
    · subst h; rw [tk_zero]; exact Nat.zero_le _
    · rw [tk_cons (by omega)]
      have := tk_le r (m - 1 + arN d)
      rw [List.length_cons]
      omega
theorem tk_add : ∀ (l : List PyData) (j m : Nat), tk (j + m) l = tk j l + tk m (l.drop (tk j l))
  | [], j, m => by simp [tk]
  | d :: r, j, m => by
    by_cases h : j = 0
    · subst h
      rw [tk_zero, Nat.zero_add, Nat.zero_add, List.drop_zero]
    · rw [tk_cons (by omega), tk_cons (m := j) (by omega), show j + m - 1 + arN d = (j - 1 + arN d) + m by omega, tk_add r (j - 1 + arN d) m]
      rw [show 1 + tk (j - 1 + arN d) r = tk (j - 1 + arN d) r + 1 by omega, List.drop_succ_cons]
      omega
/-- the rest of what is closed is closed -/
theorem cls_drop : ∀ (l : List PyData) (k j : Nat), Cls k l → j ≤ k → Cls (k - j) (l.drop (tk j l))
  | [], k, j, h, hj => by
    have hk : k = 0 := h
    rw [List.drop_nil]
    show k - j = 0
    omega
  | d :: r, k, j, h, hj => by
    by_cases z : j = 0
    · subst z
      rw [tk_zero]
      exact h
    · rw [tk_cons (by omega), show 1 + tk (j - 1 + arN d) r = tk (j - 1 + arN d) r + 1 by omega, List.drop_succ_cons]
      have := cls_drop r (k - 1 + arN d) (j - 1 + arN d) h.2 (by omega)
      rwa [show k - 1 + arN d - (j - 1 + arN d) = k - j by omega] at this
theorem cls_take : ∀ (l : List PyData) (k j : Nat), Cls k l → j ≤ k → Cls j (l.take (tk j l))
  | [], k, j, h, hj => by
    have hk : k = 0 := h
    rw [List.take_nil]
    show j = 0
    omega
  | d :: r, k, j, h, hj => by
    by_cases z : j = 0
    · subst z
      rw [tk_zero]
      rfl
    · rw [tk_cons (by omega), show 1 + tk (j - 1 + arN d) r = tk (j - 1 + arN d) r + 1 by omega, List.take_succ_cons]
      exact ⟨by omega, cls_take r (k - 1 + arN d) (j - 1 + arN d) h.2 (by omega)⟩
theorem tk_take : ∀ (l : List PyData) (i j : Nat), i ≤ j → tk i (l.take (tk j l)) = tk i l
  | [], i, j, _ => by rw [List.take_nil]
  | d :: r, i, j, h => by
    by_cases z : i = 0
    · subst z
      rw [tk_zero, tk_zero]
    · rw [tk_cons (m := j) (by omega), show 1 + tk (j - 1 + arN d) r = tk (j - 1 + arN d) r + 1 by omega, List.take_succ_cons, tk_cons (by omega), tk_cons (by omega), tk_take r _ _ (by omega)]
theorem take_full : ∀ (l : List PyData) (k : Nat), Cls k l → l.take (tk k l) = l
  | [], _, _ => List.take_nil
  | d :: r, k, h => by
    rw [tk_cons h.1, show 1 + tk (k - 1 + arN d) r = tk (k - 1 + arN d) r + 1 by omega, List.take_succ_cons, take_full r _ h.2]
theorem cls_map : ∀ (ds es : List PyData) (m : Nat), es.map arN = ds.map arN → Cls m ds → Cls m es
  | [], [], m, _, h => h
  | [], e :: es, m, h, _ => by cases h
  | d :: ds, [], m, h, _ => by cases h
  | d :: ds, e :: es, m, h, hc => by
    rw [List.map_cons, List.map_cons] at h
    obtain ⟨h1, h2⟩ := List.cons.inj h
    exact ⟨hc.1, by rw [h1]; exact cls_map ds es _ h2 hc.2⟩
/-! ### nodes can be compared -/
theorem okName_cps {x : Str} (h : okName x = true) : PyData.strOk x = true := by
  unfold okName at h
  rw [Bool.and_eq_true] at h
  unfold PyData.strOk
  rw [← Array.all_toList]
  refine List.all_eq_true.mpr fun c hc => ?_
  have := List.all_eq_true.mp h.2 c hc
  unfold okSign at this
  simp only [Bool.and_eq_true, decide_eq_true_eq] at this
  exact decide_eq_true (by omega)
theorem nd_lay {d : PyData} (h : NdA d) : d.canLay0 = true ∧ d.depth ≤ 1 ∧ d.eqv d = true := by
  obtain ⟨wd, h⟩ := h
  cases h with
  | v n _ _ => exact ⟨by simp only [PyData.canLay0, PyData.canLayAll0]; decide +kernel, by simp [PyData.depth, PyData.depthAll], by simp only [PyData.eqv, PyData.eqvAll, beq_self_eq_true, Bool.and_self]⟩
  | i n _ _ => exact ⟨by simp only [PyData.canLay0], by simp [PyData.depth], by simp only [PyData.eqv, beq_self_eq_true]⟩
  | f x n hx _ _ => exact ⟨by simp only [PyData.canLay0, PyData.canLayAll0]; rw [okName_cps hx]; decide +kernel, by simp [PyData.depth, PyData.depthAll], by simp only [PyData.eqv, PyData.eqvAll, beq_self_eq_true, Bool.and_self]⟩
theorem nds_lay : ∀ {ds : List PyData}, (∀ d ∈ ds, NdA d) → PyData.canLayAll0 ds = true ∧ PyData.depthAll ds ≤ 1 ∧ PyData.eqvAll ds ds = true
  | [], _ => ⟨by simp only [PyData.canLayAll0], by simp [PyData.depthAll], by simp only [PyData.eqvAll]⟩
  | d :: r, h => by
    obtain ⟨a1, a2, a3⟩ := nd_lay (h d List.mem_cons_self)
    obtain ⟨b1, b2, b3⟩ := nds_lay (ds := r) fun e he => h e (List.mem_cons_of_mem _ he)
    refine ⟨by simp only [PyData.canLayAll0, a1, b1, Bool.and_self], ?_, by simp only [PyData.eqvAll, a3, b3, Bool.and_self]⟩
    simp only [PyData.depthAll]
    omega
theorem nd_shaped {d : PyData} (h : NdA d) : SeqAt.shaped d = true := by
  obtain ⟨a1, a2, _⟩ := nd_lay h
  show (d.canLay0 && decide (d.depth ≤ 64)) = true
  rw [a1, decide_eq_true (by omega)]
  rfl
theorem tup_shaped {ds : List PyData} (h : ∀ d ∈ ds, NdA d) : SeqAt.shaped (.tuple ds) = true := by
  obtain ⟨a1, a2, _⟩ := nds_lay h
  have hd : (PyData.tuple ds).depth ≤ 64 := by
    simp only [PyData.depth]
    omega
  have hc : (PyData.tuple ds).canLay0 = true := by
    simp only [PyData.canLay0]
    exact a1
  show ((PyData.tuple ds).canLay0 && decide ((PyData.tuple ds).depth ≤ 64)) = true
  rw [hc, decide_eq_true hd]
  rfl
theorem tup_eqv {ds : List PyData} (h : ∀ d ∈ ds, NdA d) : PyData.eqv (.tuple ds) (.tuple ds) = true := by
  simp only [PyData.eqv]
  exact (nds_lay h).2.2
/-- name = {k: v for ..} on one line, the name a local -/
theorem ps_setDc {X : Cx} {i : Nat} {y : Str} {py : Pos} {kx vx tg iter : Expr} {ifs : List Expr} {scope : Scope} {own : List (Str × Nat)} {pos spos : Pos} {wi : TI} {g : TG} {tt : TT} {tk tv : TE} (c1 : X.calm = true) (c2 : X.N.Nodup) (c3 : X.N[i]? = some y) (c4 : X.env.scope.names.lookup y = some .local)
    (c5 : swapsWith (.DictComp kx vx [⟨tg, iter, ifs, 0⟩] scope pos) (some (.Name y py)) spos.line X.env = pure true) (c6 : PI X tg iter wi) (c7 : BlkOk X.N X.env.scope scope own)
    (c8 : ∀ (z : Shared) (H : Hp) (C : Addr) (cl : List (Str × Addr)) (fp : List Addr), PG (X.blk z H scope (compEnvC scope cl C X.env) fp) tg g) (c9 : ∀ (z : Shared) (H : Hp) (C : Addr) (cl : List (Str × Addr)) (fp : List Addr), PTs (X.blk z H scope (compEnvC scope cl C X.env) fp) ifs tt)
    (d1 : ∀ (z : Shared) (H : Hp) (C : Addr) (cl : List (Str × Addr)) (fp : List Addr), PE (X.blk z H scope (compEnvC scope cl C X.env) fp) kx tk)
    (d2 : ∀ (z : Shared) (H : Hp) (C : Addr) (cl : List (Str × Addr)) (fp : List Addr), PE (X.blk z H scope (compEnvC scope cl C X.env) fp) vx tv) (d3 : ∀ x, foldedSetIterable iter X.env x = pure x := by intro _; rfl) :
    PS X (.Assign [.Name y py] (.DictComp kx vx [⟨tg, iter, ifs, 0⟩] scope pos) spos) (tAsg (tDc wi g tt tk tv (own.map (·.2))) (gName i)) := by
  refine ⟨fun pins st0 σ H D inv hyp => ?_⟩
  have hyp' : tDc wi g tt tk tv (own.map (·.2)) σ H (fun v Hq => gName i v σ Hq D.nx) := hyp
  rw [exec_Assign_Name_used _ _ _ _ c5]
  refine wpAny_bind <| wpAny_standAt <| wpAny_bind ?_
  show wpAny _ X.A (do let _ ← comprehension (.DictComp kx vx [⟨tg, iter, ifs, 0⟩] scope pos) scope X.env (firstIterPos [⟨tg, iter, ifs, 0⟩] pos) newDict false (eval iter X.env) (some (assign (.Name y py) X.env))) _ _ st0
  have core := dc_core (Qf := fun _ fin => SP X pins D .next fin) (pos := pos) (pos' := firstIterPos [⟨tg, iter, ifs, 0⟩] pos) (use := some (assign (.Name y py) X.env)) c1 c2 inv c6 c7 c8 c9 d1 d2 d3 hyp' fun L C fin mm Hf inv' qf nsC fp => by
    show wpAny _ _ (assign (.Name y py) X.env (.ref L)) _ _ _
    obtain ⟨e0, e1, e2, e3, e4, e5⟩ := fp
    refine wpAny_assign_Name (store_ok2 (v := V.ref L) inv' c2 c3 (.inl c4) rfl (fun fin2 inv2 ⟨w, same, hw⟩ => ?_) (.inr c4))
    have cw : C ≠ w := by
      intro z
      cases hw with
      | inl hw => exact e1 (z.trans hw)
      | inr hw => exact e4 y w hw z.symm
    exact ⟨mm, nsC.sameBut same cw, fun h3 sb3 => ⟨_, Hf, inv2.turned (t' := fin2.toks) (fun b o hb e => (sb3.2 b hb).trans e) e0 e1 e3 e4 e5, qf⟩⟩
  exact wpAny_bind (thn core fun _ fin hq => wpAny_pure (wpAny_pure hq))
theorem seq_via {t u : TS} {D : Ends} {σ : L2.St} {H : Hp} (P : L2.St → Hp → Prop) (hu : ∀ σ H, P σ H → u D σ H) (ht : (∀ σ H, P σ H → u D σ H) → t { D with nx := u D } σ H) : tSeq t u D σ H := ht hu
def isVarN : PyData → Bool
  | .tuple [_, _] => true | _ => false
def numN : PyData → Int
  | .tuple [_, .int n] => n | _ => 0
theorem var_arN {d : PyData} (h : isVarN d = true) : arN d = 0 := by
  cases d with
  | tuple ds =>
    rcases ds with _ | ⟨a, _ | ⟨b, _ | ⟨c, r⟩⟩⟩
    · rfl
    · rfl
    · rfl
    · cases h
  | _ => rfl
theorem nd_eq {d e : PyData} (h : NdA d) (h2 : NdA e) (q : PyData.eqv d e = true) : d = e := by
  obtain ⟨wd, h⟩ := h
  obtain ⟨we, h2⟩ := h2
  cases h with
  | v n _ _ =>
    cases h2 with
    | v m _ _ =>
      simp only [PyData.eqv, PyData.eqvAll, Bool.and_eq_true, beq_iff_eq] at q
      rw [q.2.1]
    | i m _ _ => simp [PyData.eqv] at q
    | f x m _ _ _ => simp [PyData.eqv, PyData.eqvAll] at q
  | i n _ _ =>
    cases h2 with
    | v m _ _ => simp [PyData.eqv] at q
    | i m _ _ =>
      simp only [PyData.eqv, beq_iff_eq] at q
      rw [q]
    | f x m _ _ _ => simp [PyData.eqv] at q
  | f x n _ _ _ =>
    cases h2 with
    | v m _ _ => simp [PyData.eqv, PyData.eqvAll] at q
    | i m _ _ => simp [PyData.eqv] at q
    | f y m _ _ _ =>
      simp only [PyData.eqv, PyData.eqvAll, Bool.and_eq_true, beq_iff_eq] at q
      rw [q.2.1, q.2.2.1]
theorem nds_eq : ∀ {ds es : List PyData}, (∀ d ∈ ds, NdA d) → (∀ e ∈ es, NdA e) → PyData.eqvAll ds es = true → ds = es
  | [], [], _, _, _ => rfl
  | [], _ :: _, _, _, h => by simp [PyData.eqvAll] at h
  | _ :: _, [], _, _, h => by simp [PyData.eqvAll] at h
  | d :: ds, e :: es, h1, h2, h => by
    simp only [PyData.eqvAll, Bool.and_eq_true] at h
    rw [nd_eq (h1 d List.mem_cons_self) (h2 e List.mem_cons_self) h.1, nds_eq (fun x hx => h1 x (List.mem_cons_of_mem _ hx)) (fun x hx => h2 x (List.mem_cons_of_mem _ hx)) h.2]
theorem tup_eq {ds es : List PyData} (h1 : ∀ d ∈ ds, NdA d) (h2 : ∀ e ∈ es, NdA e) (h : PyData.eqv (.tuple ds) (.tuple es) = true) : ds = es := by
  simp only [PyData.eqv] at h
  exact nds_eq h1 h2 h
theorem cls_app : ∀ (l r : List PyData) (j k : Nat), Cls j l → Cls k r → Cls (j + k) (l ++ r)
  | [], r, j, k, h, h2 => by
    have e : j = 0 := h
    rw [e, Nat.zero_add]
    exact h2
  | d :: l, r, j, k, h, h2 => by
    refine ⟨by have := h.1; omega, ?_⟩
    have := cls_app l r (j - 1 + arN d) k h.2 h2
    have e := h.1
    rwa [show j - 1 + arN d + k = j + k - 1 + arN d by omega] at this
/-- at each place of what is closed so many terms are missing -/
theorem cls_split : ∀ (ds : List PyData) (m i : Nat), Cls m ds → i ≤ ds.length → ∃ k, Cls k (ds.drop i) ∧ ∀ t, Cls k t → Cls m (ds.take i ++ t)
  | ds, m, 0, h, _ => ⟨m, h, fun t ht => ht⟩
  | [], m, i + 1, h, hi => absurd hi (by simp)
  | d :: ds, m, i + 1, h, hi => by
    obtain ⟨k, h1, h2⟩ := cls_split ds (m - 1 + arN d) i h.2 (by simpa using hi)
    exact ⟨k, h1, fun t ht => ⟨h.1, h2 t ht⟩⟩
abbrev Tab := List (Int × List PyData)
def valT (t : Tab) (n : Int) : Option (List PyData) := (t.find? fun p => decide (p.1 = n)).map (·.2)
/-- a dict with this table -/
def TabK (K : PySem.W.Frag) (H : Hp) : List (Key × V) → Tab → Prop
  | [], [] => True
  | p :: kvs, q :: t => p.1 = Sum.inl q.1 ∧ Dp K H p.2 (.tuple q.2) ∧ TabK K H kvs t
  | _, _ => False
def TabN (t : Tab) : Prop := ∀ p ∈ t, (∀ d ∈ p.2, NdA d)
theorem TabK.len {K : PySem.W.Frag} {H : Hp} : ∀ {kvs : List (Key × V)} {t : Tab}, TabK K H kvs t → kvs.length = t.length
  | [], [], _ => rfl
  | [], _ :: _, h => h.elim
  | _ :: _, [], h => h.elim
  | p :: kvs, q :: t, h => congrArg (· + 1) (TabK.len h.2.2)
theorem TabK.mono {K : PySem.W.Frag} {H H' : Hp} (f : ∀ v ds, (∀ d ∈ ds, NdA d) → Dp K H v (.tuple ds) → Dp K H' v (.tuple ds)) : ∀ {kvs : List (Key × V)} {t : Tab}, TabN t → TabK K H kvs t → TabK K H' kvs t
  | [], [], _, _ => True.intro
  | [], _ :: _, _, h => h.elim
  | _ :: _, [], _, h => h.elim
  | p :: kvs, q :: t, n, h => ⟨h.1, f _ _ (n q List.mem_cons_self) h.2.1, TabK.mono f (fun x hx => n x (List.mem_cons_of_mem _ hx)) h.2.2⟩
theorem TabK.val {K : PySem.W.Frag} {H : Hp} (n : Int) : ∀ {kvs : List (Key × V)} {t : Tab}, TabK K H kvs t → (valV kvs (Sum.inl n) = none ∧ valT t n = none) ∨ ∃ v ds, valV kvs (Sum.inl n) = some v ∧ valT t n = some ds ∧ Dp K H v (.tuple ds)
  | [], [], _ => .inl ⟨rfl, rfl⟩
  | [], _ :: _, h => h.elim
  | _ :: _, [], h => h.elim
  | p :: kvs, q :: t, h => by
    by_cases e : q.1 = n
    · refine .inr ⟨p.2, q.2, valV_pos (by rw [h.1, e]), ?_, h.2.1⟩
      unfold valT
      rw [List.find?_cons, decide_eq_true e]
      rfl
    · have e1 : ¬ p.1 = Sum.inl n := fun z => e (Sum.inl.inj (h.1.symm.trans z))
      have e2 : valT (q :: t) n = valT t n := by
        unfold valT
        rw [List.find?_cons, decide_eq_false e]
      rw [valV_neg e1, e2]
      exact TabK.val n h.2.2
theorem TabK.snoc {K : PySem.W.Frag} {H : Hp} {n : Int} {v : V} {ds : List PyData} (hd : Dp K H v (.tuple ds)) : ∀ {kvs : List (Key × V)} {t : Tab}, TabK K H kvs t → TabK K H (kvs ++ [(Sum.inl n, v)]) (t ++ [(n, ds)])
  | [], [], _ => ⟨rfl, hd, True.intro⟩
  | [], _ :: _, h => h.elim
  | _ :: _, [], h => h.elim
  | p :: kvs, q :: t, h => ⟨h.1, h.2.1, TabK.snoc hd h.2.2⟩
theorem valT_snoc (t : Tab) (n m : Int) (ds : List PyData) (h : valT t n = none) : valT (t ++ [(n, ds)]) m = if m = n then some ds else valT t m := by
  unfold valT at *
  rw [List.find?_append]
  cases e : t.find? fun p => decide (p.1 = m) with
  | some p =>
    have hm : ¬ m = n := fun z => by rw [z] at e; rw [e] at h; cases h
    rw [if_neg hm]
    rfl
  | none =>
    by_cases hm : m = n
    · rw [if_pos hm, Option.none_or]
      rw [List.find?_cons, decide_eq_true hm.symm]
      rfl
    · rw [if_neg hm, Option.none_or]
      rw [List.find?_cons, decide_eq_false (fun z => hm z.symm)]
      rfl
theorem valT_none {t : Tab} {n : Int} (h : valT t n = none) : ∀ q ∈ t, q.1 ≠ n := by
  intro q hq e
  unfold valT at h
  rw [Option.map_eq_none_iff, List.find?_eq_none] at h
  exact h q hq (decide_eq_true e)
mutual
def noL : PyData → Bool
  | .none => true
  | .bool _ => true
  | .int _ => true
  | .str _ => true
  | .tuple ds => noLA ds
  | .list _ => false
  | .dict _ => false
def noLA : List PyData → Bool
  | [] => true
  | d :: ds => noL d && noLA ds
end
def notTup (H : Hp) (p : Addr) : Prop := (∃ ys, H p = some (.lst ys)) ∨ (∃ kvs, H p = some (.dK kvs)) ∨ ∃ o kvs, H p = some (.frz o (.dK kvs))
theorem sqT_put {K : PySem.W.Frag} {H : Hp} {p b : Addr} {o : HO} {xs : List V} (hp : notTup H p) (h : SqT K H b xs) : SqT K (upd H p o) b xs := by
  rcases h with (h | ⟨q, h⟩) | h
  · exact .inl (.inl (by rw [upd_ne (fun z => by rw [z] at h; rcases hp with ⟨_, hp⟩ | ⟨_, hp⟩ | ⟨_, _, hp⟩ <;> (rw [hp] at h; cases h))]; exact h))
  · exact .inl (.inr ⟨q, by rw [upd_ne (fun z => by rw [z] at h; rcases hp with ⟨_, hp⟩ | ⟨_, hp⟩ | ⟨_, _, hp⟩ <;> (rw [hp] at h; cases h))]; exact h⟩)
  · exact .inr h
section
variable {K : PySem.W.Frag} {H : Hp} {p : Addr} {o : HO}
mutual
theorem dp_put (hp : notTup H p) : ∀ (d : PyData) (v : V), noL d = true → Dp K H v d → Dp K (upd H p o) v d
  | .none, _, _, h => by cases h; exact .non
  | .bool b, _, _, h => by cases h; exact .bl b
  | .int i, _, _, h => by cases h; exact .int i
  | .str x, _, _, h => by cases h; exact .str x
  | .list ds, _, n, h => by simp [noL] at n
  | .tuple ds, _, n, h => by
    cases h with
    | tup g ha => exact .tup (sqT_put hp g) (dp_putAll hp ds _ (by simpa [noL] using n) ha)
  | .dict _, _, n, h => by cases h
theorem dp_putAll (hp : notTup H p) : ∀ (ds : List PyData) (vs : List V), noLA ds = true → DpAll K H vs ds → DpAll K (upd H p o) vs ds
  | [], _, _, h => by cases h; exact .nil
  | d :: ds, _, n, h => by
    rw [noLA, Bool.and_eq_true] at n
    cases h with
    | cons h1 h2 => exact .cons (dp_put hp d _ n.1 h1) (dp_putAll hp ds _ n.2 h2)
end
end
theorem nd_noL {d : PyData} (h : NdA d) : noL d = true := by
  obtain ⟨wd, h⟩ := h
  cases h <;> simp [noL, noLA]
theorem nds_noL : ∀ {ds : List PyData}, (∀ d ∈ ds, NdA d) → noLA ds = true
  | [], _ => by simp [noLA]
  | d :: r, h => by rw [noLA, nd_noL (h d List.mem_cons_self), nds_noL fun e he => h e (List.mem_cons_of_mem _ he)]; rfl
theorem tup_noL {ds : List PyData} (h : ∀ d ∈ ds, NdA d) : noL (.tuple ds) = true := by rw [noL]; exact nds_noL h
theorem tab_put {K : PySem.W.Frag} {H : Hp} {p : Addr} {o : HO} {kvs : List (Key × V)} {t : Tab} (hp : notTup H p) (n : TabN t) (h : TabK K H kvs t) : TabK K (upd H p o) kvs t := TabK.mono (fun v ds hn hd => dp_put hp _ _ (tup_noL hn) hd) n h
theorem tab_same {K : PySem.W.Frag} {H H' : Hp} {kvs : List (Key × V)} {t : Tab} (s : Same H H') (n : TabN t) (h : TabK K H kvs t) : TabK K H' kvs t := TabK.mono (fun v ds _ hd => dp_same s _ _ hd) n h
section
variable {K : PySem.W.Frag} {H H' : Hp}
mutual
theorem dp_map (f : ∀ b xs, SqT K H b xs → SqT K H' b xs) : ∀ (d : PyData) (v : V), noL d = true → Dp K H v d → Dp K H' v d
  | .none, _, _, h => by cases h; exact .non
  | .bool b, _, _, h => by cases h; exact .bl b
  | .int i, _, _, h => by cases h; exact .int i
  | .str x, _, _, h => by cases h; exact .str x
  | .list ds, _, n, h => by simp [noL] at n
  | .tuple ds, _, n, h => by
    cases h with
    | tup g ha => exact .tup (f _ _ g) (dp_mapAll f ds _ (by simpa [noL] using n) ha)
  | .dict _, _, n, h => by cases h
theorem dp_mapAll (f : ∀ b xs, SqT K H b xs → SqT K H' b xs) : ∀ (ds : List PyData) (vs : List V), noLA ds = true → DpAll K H vs ds → DpAll K H' vs ds
  | [], _, _, h => by cases h; exact .nil
  | d :: ds, _, n, h => by
    rw [noLA, Bool.and_eq_true] at n
    cases h with
    | cons h1 h2 => exact .cons (dp_map f d _ n.1 h1) (dp_mapAll f ds _ n.2 h2)
end
theorem sqT_but {p b : Addr} {xs : List V} (hp : notTup H p) (hb : But p H H') (h : SqT K H b xs) : SqT K H' b xs := by
  rcases h with (h | ⟨q, h⟩) | h
  · exact .inl (.inl (hb _ _ (fun z => by rw [z] at h; rcases hp with ⟨_, hp⟩ | ⟨_, hp⟩ | ⟨_, _, hp⟩ <;> (rw [hp] at h; cases h)) h))
  · exact .inl (.inr ⟨q, hb _ _ (fun z => by rw [z] at h; rcases hp with ⟨_, hp⟩ | ⟨_, hp⟩ | ⟨_, _, hp⟩ <;> (rw [hp] at h; cases h)) h⟩)
  · exact .inr h
/-- draws change the stream alone -/
theorem dp_but {s l : Addr} {v : V} {ds : List PyData} (S : Stm H s l) (b : But s H H') (n : ∀ d ∈ ds, NdA d) (h : Dp K H v (.tuple ds)) : Dp K H' v (.tuple ds) := by
  obtain ⟨x, y, m, ns, e, _⟩ := S.ex
  exact dp_map (fun c xs g => sqT_but (.inl ⟨_, e⟩) b g) _ _ (tup_noL n) h
end
theorem TabK.rep {K : PySem.W.Frag} {H : Hp} {n : Int} {v : V} {ds : List PyData} (hd : Dp K H v (.tuple ds)) : ∀ {kvs : List (Key × V)} {t : Tab}, TabK K H kvs t → TabK K H (kvs.map fun kv => if kv.1 = Sum.inl n then (kv.1, v) else kv) (t.map fun q => if q.1 = n then (q.1, ds) else q)
  | [], [], _ => True.intro
  | [], _ :: _, h => h.elim
  | _ :: _, [], h => h.elim
  | p :: kvs, q :: t, h => by
    have i : p.1 = Sum.inl n ↔ q.1 = n := by rw [h.1]; exact ⟨fun z => Sum.inl.inj z, fun z => congrArg _ z⟩
    refine ⟨?_, ?_, TabK.rep hd h.2.2⟩
    · by_cases e : q.1 = n
      · simp only [if_pos e, if_pos (i.mpr e)]; exact h.1
      · simp only [if_neg e, if_neg (fun z => e (i.mp z))]; exact h.1
    · by_cases e : q.1 = n
      · simp only [if_pos e, if_pos (i.mpr e)]; exact hd
      · simp only [if_neg e, if_neg (fun z => e (i.mp z))]; exact h.2.1
theorem TabK.put {K : PySem.W.Frag} {H : Hp} {n : Int} {v : V} {ds : List PyData} (hd : Dp K H v (.tuple ds)) {kvs : List (Key × V)} {t : Tab} (h : TabK K H kvs t) : ∃ t', TabK K H (putK kvs (Sum.inl n) v) t' ∧ (∀ q ∈ t', q ∈ t ∨ q.2 = ds) ∧ t'.length ≤ t.length + 1 := by
  unfold putK
  split
  · refine ⟨_, TabK.rep hd h, fun q hq => ?_, by rw [List.length_map]; exact Nat.le_succ _⟩
    obtain ⟨q', h1, h2⟩ := List.mem_map.mp hq
    split at h2
    · right; rw [← h2]
    · left; rw [← h2]; exact h1
  · refine ⟨_, TabK.snoc hd h, fun q hq => ?_, by rw [List.length_append]; exact Nat.le_refl _⟩
    rcases List.mem_append.mp hq with z | z
    · exact .inl z
    · right; rw [List.mem_singleton.mp z]
theorem TabK.at_ {K : PySem.W.Frag} {H : Hp} : ∀ {kvs : List (Key × V)} {t : Tab} {i : Nat} {k : Key} {v : V}, TabK K H kvs t → kvs[i]? = some (k, v) → ∃ q, q ∈ t ∧ k = Sum.inl q.1
  | [], [], i, k, v, _, h => by simp at h
  | [], _ :: _, _, _, _, h, _ => h.elim
  | _ :: _, [], _, _, _, h, _ => h.elim
  | p :: kvs, q :: t, 0, k, v, h, e => by
    rw [List.getElem?_cons_zero] at e
    cases e
    exact ⟨q, List.mem_cons_self, h.1⟩
  | p :: kvs, q :: t, i + 1, k, v, h, e => by
    rw [List.getElem?_cons_succ] at e
    obtain ⟨q', h1, h2⟩ := TabK.at_ h.2.2 e
    exact ⟨q', List.mem_cons_of_mem _ h1, h2⟩
theorem valT_of {t : Tab} {q : Int × List PyData} (h : q ∈ t) : ∃ ds, valT t q.1 = some ds := by
  cases e : valT t q.1 with
  | some ds => exact ⟨ds, rfl⟩
  | none => exact absurd rfl (valT_none e q h)
theorem putK_old {kvs : List (Key × V)} {k : Key} {v w : V} (h : valV kvs k = some w) : putK kvs k v = kvs.map fun kv => if kv.1 = k then (kv.1, v) else kv := by
  unfold putK
  rw [if_pos (by rw [valV_any, h]; rfl)]
theorem valT_mem {t : Tab} {n : Int} {ds : List PyData} (h : valT t n = some ds) : ∃ q ∈ t, q.2 = ds := by
  unfold valT at h
  cases e : t.find? fun p => decide (p.1 = n) with
  | none => rw [e] at h; cases h
  | some p =>
    rw [e] at h
    exact ⟨p, List.mem_of_find?_eq_some e, Option.some.inj h⟩
/-- a dict comprehension over what is walked -/
theorem dc_it {J : It} {n : Nat} {G : Hp → Prop} {Y : Nat → Hp → V → Hp → Prop} (wk : Walk J n G Y) {g : TG} {tt : TT} {tk tv : TE} {vs : List Nat} {σ : L2.St} {H1 : Hp} {D : Addr} {Qd : Hp → Prop} (Pv : Nat → Hp → Prop) (p0 : Pv 0 (upd H1 D (.dK []))) (pG : ∀ i H, i ≤ n → Pv i H → G H)
    (turn : ∀ i x H H', i < n → Pv i H → Y i H x H' → g x (wipe σ vs) H' fun σ2 H2 => wipe σ2 vs = wipe σ vs ∧ tt σ2 H2 fun b H3 =>
      if b = true then tk σ2 H3 fun y H4 => tv σ2 H4 fun z H5 => ∃ kvs k, y = kV k ∧ H5 D = some (.dK kvs) ∧ kvs.length < sizeLine ∧ Pv (i + 1) (upd H5 D (.dK (putK kvs k z))) else Pv (i + 1) H3) (pd : ∀ H, Pv n H → Qd H) :
    ∃ W : Nat → Nat → Hp → Prop, (∃ m, W 0 m (upd H1 D (.dK []))) ∧ ∀ i m H, W i m H →
      (J.stop i H ∧ Qd H) ∨ (J.go i H ∧ ∃ Nx : Hp → Prop, (∀ H', Nx H' → ∃ m', m' < m ∧ W (i + 1) m' H') ∧ ∀ x H', J.yld i H x H' → g x (wipe σ vs) H' fun σ2 H2 => wipe σ2 vs = wipe σ vs ∧ tt σ2 H2 fun b H3 =>
        if b = true then tk σ2 H3 fun y H4 => tv σ2 H4 fun z H5 => ∃ kvs k, y = kV k ∧ H5 D = some (.dK kvs) ∧ kvs.length < sizeLine ∧ Nx (upd H5 D (.dK (putK kvs k z))) else Nx H3) := by
  refine ⟨fun i m H => m = n - i ∧ i ≤ n ∧ Pv i H, ⟨n, by simp, Nat.zero_le _, p0⟩, ?_⟩
  rintro i m H ⟨rfl, hi, hp⟩
  have hg := pG i H hi hp
  rcases Nat.lt_or_ge i n with hlt | hge
  · exact .inr ⟨wk.goes i H hlt hg, Pv (i + 1), fun σ' p' => ⟨n - (i + 1), by omega, rfl, hlt, p'⟩, fun x H' y => turn i x H H' hlt hp (wk.yields i H x H' hlt hg y)⟩
  · obtain rfl : i = n := by omega
    exact .inl ⟨wk.stops H hg, pd H hp⟩
theorem TabK.get {K : PySem.W.Frag} {H : Hp} : ∀ {kvs : List (Key × V)} {t : Tab} {i : Nat} {kv : Key × V}, TabK K H kvs t → kvs[i]? = some kv → ∃ q, t[i]? = some q ∧ kv.1 = Sum.inl q.1 ∧ Dp K H kv.2 (.tuple q.2)
  | [], [], i, kv, _, h => by simp at h
  | [], _ :: _, _, _, h, _ => h.elim
  | _ :: _, [], _, _, h, _ => h.elim
  | p :: kvs, q :: t, 0, kv, h, e => by
    rw [List.getElem?_cons_zero] at e
    cases e
    exact ⟨q, rfl, h.1, h.2.1⟩
  | p :: kvs, q :: t, i + 1, kv, h, e => by
    rw [List.getElem?_cons_succ] at e
    obtain ⟨q', h1, h2⟩ := TabK.get h.2.2 e
    exact ⟨q', by rw [List.getElem?_cons_succ]; exact h1, h2⟩
theorem valT_notin {t : Tab} {n : Int} (h : n ∉ t.map (·.1)) : valT t n = none := by
  unfold valT
  rw [Option.map_eq_none_iff, List.find?_eq_none]
  exact fun q hq e => h (List.mem_map.mpr ⟨q, hq, of_decide_eq_true e⟩)
theorem TabK.none {K : PySem.W.Frag} {H : Hp} {kvs : List (Key × V)} {t : Tab} {n : Int} (T : TabK K H kvs t) (h : n ∉ t.map (·.1)) : valV kvs (Sum.inl n) = Option.none := by
  rcases TabK.val n T with ⟨w, _⟩ | ⟨v, ds, _, w, _⟩
  · exact w
  · rw [valT_notin h] at w; cases w
theorem TabK.some {K : PySem.W.Frag} {H : Hp} {kvs : List (Key × V)} {t : Tab} {n : Int} (T : TabK K H kvs t) (h : n ∈ t.map (·.1)) : (valV kvs (Sum.inl n)).isSome = true := by
  obtain ⟨q, hq, rfl⟩ := List.mem_map.mp h
  rcases TabK.val q.1 T with ⟨_, w⟩ | ⟨v, ds, w, _, _⟩
  · exact absurd rfl (valT_none w q hq)
  · rw [w]; rfl
/-- a key that is new goes to the end -/
theorem TabK.add {K : PySem.W.Frag} {H : Hp} {kvs : List (Key × V)} {t : Tab} {n : Int} {v : V} {ds : List PyData} (T : TabK K H kvs t) (h : n ∉ t.map (·.1)) (hd : Dp K H v (.tuple ds)) : TabK K H (putK kvs (Sum.inl n) v) (t ++ [(n, ds)]) := by
  rw [putK_new _ (T.none h)]
  exact TabK.snoc hd T
/-- the i-th key is none of those before -/
theorem nodup_new {t : Tab} {i : Nat} {q : Int × List PyData} (h : (t.map (·.1)).Nodup) (hq : t[i]? = some q) : q.1 ∉ (t.take i).map (·.1) := by
  intro hm
  obtain ⟨x, hx, e⟩ := List.mem_map.mp hm
  obtain ⟨j, hj⟩ := List.getElem?_of_mem hx
  have hji : j < i := by
    have := (List.getElem?_eq_some_iff.mp hj).1
    rw [List.length_take] at this
    omega
  rw [List.getElem?_take_of_lt hji] at hj
  have a1 : (t.map (·.1))[j]? = some q.1 := by rw [List.getElem?_map, hj, ← e]; rfl
  have a2 : (t.map (·.1))[i]? = some q.1 := by rw [List.getElem?_map, hq]; rfl
  have b1 := (List.getElem?_eq_some_iff.mp a1).1
  have := (List.getElem?_inj b1 h).mp (a1.trans a2.symm)
  omega
/-! ### substitutions -/
def varN (n : Int) : List PyData := [.tuple [.str "v", .int n]]
def appN (t : Tab) (d : PyData) : List PyData := if isVarN d = true then (match valT t (numN d) with | some w => w | none => [d]) else [d]
def appM (t : Tab) (ds : List PyData) : List PyData := ds.flatMap (appN t)
/-- a value that is the key itself falls out -/
def keepN (n : Int) (w : List PyData) : Option (List PyData) := if PyData.eqv (.tuple w) (.tuple (varN n)) = true then none else some w
def compV (t u : Tab) (n : Int) : Option (List PyData) :=
  match valT t n with
  | some w => keepN n (appM u w)
  | none => (match valT u n with | some w => keepN n w | none => none)
theorem var_form {d : PyData} (h : NdA d) (v : isVarN d = true) : ∃ n, d = .tuple [.str "v", .int n] := by
  obtain ⟨wd, nd⟩ := h
  cases nd with
  | v n _ _ => exact ⟨n, rfl⟩
  | i n _ _ => cases v
  | f x n _ _ _ => cases v
theorem var_nd {n : Int} (h : 0 ≤ n) : ∀ d ∈ varN n, NdA d := fun d hd => ⟨n + 1, by rw [List.mem_singleton.mp hd]; exact .v n h (by omega)⟩
theorem valT_nd {t : Tab} {n : Int} {w : List PyData} (ht : TabN t) (h : valT t n = some w) : ∀ d ∈ w, NdA d := by
  obtain ⟨q, hq, e⟩ := valT_mem h
  rw [← e]
  exact ht q hq
theorem appN_nd {t : Tab} (ht : TabN t) {d : PyData} (hd : NdA d) : ∀ e ∈ appN t d, NdA e := by
  unfold appN
  by_cases v : isVarN d = true
  · rw [if_pos v]
    cases e : valT t (numN d) with
    | some w => exact valT_nd ht e
    | none => exact fun e he => by rw [List.mem_singleton.mp he]; exact hd
  · rw [if_neg v]
    exact fun e he => by rw [List.mem_singleton.mp he]; exact hd
theorem appM_nd {t : Tab} (ht : TabN t) {ds : List PyData} (hd : ∀ d ∈ ds, NdA d) : ∀ e ∈ appM t ds, NdA e := fun e he => by
  obtain ⟨d, h1, h2⟩ := List.mem_flatMap.mp he
  exact appN_nd ht (hd d h1) e h2
theorem var_num {d : PyData} (h : NdA d) (v : isVarN d = true) : ∃ n, 0 ≤ n ∧ d = .tuple [.str "v", .int n] := by
  obtain ⟨wd, nd⟩ := h
  cases nd with
  | v n h1 _ => exact ⟨n, h1, rfl⟩
  | i n _ _ => cases v
  | f x n _ _ _ => cases v
theorem comp_app {t u c : Tab} (nt : TabN t) (nu : TabN u) (hc : ∀ n, valT c n = compV t u n) {ds : List PyData} (nd : ∀ d ∈ ds, NdA d) : appM c ds = appM u (appM t ds) := by
  unfold appM
  rw [List.flatMap_assoc]
  have h : ∀ d ∈ ds, appN c d = (appN t d).flatMap (appN u) := by
    intro d hd
    by_cases v : isVarN d = true
    · obtain ⟨n, n0, rfl⟩ := var_num (nd d hd) v
      have e1 : ∀ s : Tab, appN s (.tuple [.str "v", .int n]) = (match valT s n with | some w => w | none => varN n) := fun s => by
        unfold appN
        rw [if_pos v]
        rfl
      rw [e1, e1, hc n]
      unfold compV
      cases ht : valT t n with
      | some w =>
        simp only
        unfold keepN
        by_cases hk : PyData.eqv (.tuple (appM u w)) (.tuple (varN n)) = true
        · rw [if_pos hk]
          exact (tup_eq (appM_nd nu (valT_nd nt ht)) (var_nd n0) hk).symm
        · rw [if_neg hk]
          rfl
      | none =>
        simp only
        have e2 : (varN n).flatMap (appN u) = (match valT u n with | some w => w | none => varN n) := by
          unfold varN
          rw [List.flatMap_cons, List.flatMap_nil, List.append_nil]
          exact e1 u
        rw [e2]
        cases hu : valT u n with
        | some w =>
          simp only
          unfold keepN
          by_cases hk : PyData.eqv (.tuple w) (.tuple (varN n)) = true
          · rw [if_pos hk]
            exact (tup_eq (valT_nd nu hu) (var_nd n0) hk).symm
          · rw [if_neg hk]
        | none => rfl
    · have e3 : ∀ s : Tab, appN s d = [d] := fun s => if_neg v
      rw [e3, e3, List.flatMap_cons, List.flatMap_nil, List.append_nil, e3]
  clear hc
  induction ds with
  | nil => rfl
  | cons d r ih =>
    rw [List.flatMap_cons, List.flatMap_cons, h d List.mem_cons_self, ih (fun x hx => nd x (List.mem_cons_of_mem _ hx)) fun x hx => h x (List.mem_cons_of_mem _ hx)]
theorem appM_take {t : Tab} {ds : List PyData} {i : Nat} {d : PyData} (h : ds[i]? = some d) : appM t (ds.take (i + 1)) = appM t (ds.take i) ++ appN t d := by
  unfold appM
  rw [List.take_add_one, h, List.flatMap_append]
  show _ ++ (appN t d ++ []) = _
  rw [List.append_nil]
theorem appN_non {t : Tab} {d : PyData} (v : ¬ isVarN d = true) : appN t d = [d] := if_neg v
theorem appN_out {t : Tab} {n : Int} (h : valT t n = none) : appN t (.tuple [.str "v", .int n]) = [.tuple [.str "v", .int n]] := by
  unfold appN
  rw [if_pos (show isVarN (.tuple [.str "v", .int n]) = true from rfl), show numN (.tuple [.str "v", .int n]) = n from rfl, h]
theorem appN_in {t : Tab} {n : Int} {w : List PyData} (h : valT t n = some w) : appN t (.tuple [.str "v", .int n]) = w := by
  unfold appN
  rw [if_pos (show isVarN (.tuple [.str "v", .int n]) = true from rfl), show numN (.tuple [.str "v", .int n]) = n from rfl, h]
/-- the composed table: the first one's values with the second applied, then what the second adds, without a key that is its own value -/
def comp1 (t u : Tab) : Tab := t.map fun x => (x.1, appM u x.2)
def newK (t : Tab) (x : Int × List PyData) : Bool := !(decide (x.1 ∈ t.map (·.1)))
def notOwn (x : Int × List PyData) : Bool := !PyData.eqv (.tuple x.2) (.tuple (varN x.1))
def compT (t u : Tab) : Tab := (comp1 t u ++ u.filter (newK t)).filter notOwn
theorem comp1_keys (t u : Tab) : (comp1 t u).map (·.1) = t.map (·.1) := by unfold comp1; rw [List.map_map]; rfl
theorem comp1_nd {t u : Tab} (ht : TabN t) (hu : TabN u) : TabN (comp1 t u) := fun x hx => by
  obtain ⟨q, h1, rfl⟩ := List.mem_map.mp hx
  exact appM_nd hu (ht q h1)
/-! ### unification, eagerly -/
def vN (n : Int) : PyData := .tuple [.str "v", .int n]
def sub1 (ds : List PyData) : List PyData := ds.take (tk 1 ds)
def bindM : List PyData → List PyData → Option (Int × List PyData)
  | a :: l, b :: r => if isVarN a = true then (if isVarN b = true then some (if numN b < numN a then (numN a, varN (numN b)) else (numN b, varN (numN a))) else some (numN a, sub1 (b :: r))) else if isVarN b = true then some (numN b, sub1 (a :: l)) else none
  | _, _ => none
inductive Res
  | non | big | tab (t : Tab)
def up1 (n : Int) (v : List PyData) (t : Tab) : Tab := t.map (fun x => (x.1, appM [(n, v)] x.2)) ++ [(n, v)]
inductive Eg (B : Nat) : Nat → List PyData → List PyData → Tab → Res → Prop
  | done (L : List PyData) (T : Tab) : Eg B 0 L L T (.tab T)
  | clash {p l r : List PyData} {a b : PyData} {T : Tab} : a ≠ b → bindM (a :: l) (b :: r) = none → Eg B 0 (p ++ a :: l) (p ++ b :: r) T .non
  | occ {p l r v : List PyData} {a b : PyData} {T : Tab} {n : Int} : a ≠ b → bindM (a :: l) (b :: r) = some (n, v) → vN n ∈ v → Eg B 0 (p ++ a :: l) (p ++ b :: r) T .non
  | big {p l r v : List PyData} {a b : PyData} {T : Tab} {n : Int} : a ≠ b → bindM (a :: l) (b :: r) = some (n, v) → vN n ∉ v → B < max (appM [(n, v)] (p ++ a :: l)).length (appM [(n, v)] (p ++ b :: r)).length → Eg B 0 (p ++ a :: l) (p ++ b :: r) T .big
  | step {p l r v : List PyData} {a b : PyData} {T : Tab} {n : Int} {k : Nat} {s : Res} : a ≠ b → bindM (a :: l) (b :: r) = some (n, v) → vN n ∉ v → max (appM [(n, v)] (p ++ a :: l)).length (appM [(n, v)] (p ++ b :: r)).length ≤ B →
      Eg B k (appM [(n, v)] (p ++ a :: l)) (appM [(n, v)] (p ++ b :: r)) (up1 n v T) s → Eg B (k + 1) (p ++ a :: l) (p ++ b :: r) T s
theorem first_dif : ∀ {p p' : List PyData} {a b a' b' : PyData} {l r l' r' : List PyData}, a ≠ b → a' ≠ b' → p ++ a :: l = p' ++ a' :: l' → p ++ b :: r = p' ++ b' :: r' → p = p' ∧ a = a' ∧ l = l' ∧ b = b' ∧ r = r'
  | [], [], _, _, _, _, _, _, _, _, _, _, e1, e2 => ⟨rfl, (List.cons.inj e1).1, (List.cons.inj e1).2, (List.cons.inj e2).1, (List.cons.inj e2).2⟩
  | [], x :: p', _, _, _, _, _, _, _, _, h, _, e1, e2 => absurd ((List.cons.inj e1).1.trans (List.cons.inj e2).1.symm) h
  | x :: p, [], _, _, _, _, _, _, _, _, _, h, e1, e2 => absurd ((List.cons.inj e1).1.symm.trans (List.cons.inj e2).1) h
  | x :: p, y :: p', _, _, _, _, _, _, _, _, h, h', e1, e2 => by
    obtain ⟨i1, i2, i3, i4, i5⟩ := first_dif h h' (List.cons.inj e1).2 (List.cons.inj e2).2
    exact ⟨by rw [(List.cons.inj e1).1, i1], i2, i3, i4, i5⟩
theorem no_dif {p : List PyData} {a b : PyData} {l r : List PyData} (h : a ≠ b) (e : p ++ a :: l = p ++ b :: r) : False :=
  h (List.cons.inj (List.append_cancel_left e)).1
theorem eg_same {B k : Nat} {L R : List PyData} {T : Tab} {s : Res} (h : Eg B k L R T s) (e : L = R) : s = .tab T := by
  cases h with
  | done => rfl
  | clash h _ => exact (no_dif h e).elim
  | occ h _ _ => exact (no_dif h e).elim
  | big h _ _ _ => exact (no_dif h e).elim
  | step h _ _ _ _ => exact (no_dif h e).elim
theorem eg_dif {B k : Nat} {L R : List PyData} {T : Tab} {s : Res} (h : Eg B k L R T s) : ∀ {p l r : List PyData} {a b : PyData}, a ≠ b → L = p ++ a :: l → R = p ++ b :: r →
    (bindM (a :: l) (b :: r) = none ∧ s = .non) ∨ ∃ n v, bindM (a :: l) (b :: r) = some (n, v) ∧ ((vN n ∈ v ∧ s = .non) ∨ (vN n ∉ v ∧ ((B < max (appM [(n, v)] L).length (appM [(n, v)] R).length ∧ s = .big) ∨
      (max (appM [(n, v)] L).length (appM [(n, v)] R).length ≤ B ∧ ∃ j, k = j + 1 ∧ Eg B j (appM [(n, v)] L) (appM [(n, v)] R) (up1 n v T) s)))) := by
  cases h with
  | done => intro p l r a b h e1 e2; exact (no_dif h (e1.symm.trans e2)).elim
  | clash h h1 =>
    intro p l r a b g e1 e2
    obtain ⟨rfl, rfl, rfl, rfl, rfl⟩ := first_dif h g e1 e2
    exact .inl ⟨h1, rfl⟩
  | occ h h1 h2 =>
    intro p l r a b g e1 e2
    obtain ⟨rfl, rfl, rfl, rfl, rfl⟩ := first_dif h g e1 e2
    exact .inr ⟨_, _, h1, .inl ⟨h2, rfl⟩⟩
  | big h h1 h2 h3 =>
    intro p l r a b g e1 e2
    obtain ⟨rfl, rfl, rfl, rfl, rfl⟩ := first_dif h g e1 e2
    exact .inr ⟨_, _, h1, .inr ⟨h2, .inl ⟨h3, rfl⟩⟩⟩
  | step h h1 h2 h3 h4 =>
    intro p l r a b g e1 e2
    obtain ⟨rfl, rfl, rfl, rfl, rfl⟩ := first_dif h g e1 e2
    exact .inr ⟨_, _, h1, .inr ⟨h2, .inr ⟨h3, _, rfl, h4⟩⟩⟩
/-! ### what holds of the applied terms -/
/-- a list of nodes that is so many terms -/
def Tms (m : Nat) (ds : List PyData) : Prop := Cls m ds ∧ ∀ d ∈ ds, NdA d
theorem Tms.ne {m : Nat} {ds : List PyData} (h : Tms (m + 1) ds) : ds ≠ [] := fun z => by
  rw [z] at h
  exact absurd h.1 (by show ¬ (m + 1 = 0); omega)
theorem Tms.app {m k : Nat} {ds es : List PyData} (h : Tms m ds) (h2 : Tms k es) : Tms (m + k) (ds ++ es) :=
  ⟨cls_app _ _ _ _ h.1 h2.1, fun d hd => (List.mem_append.mp hd).elim (h.2 d) (h2.2 d)⟩
def TabT (t : Tab) : Prop := ∀ q ∈ t, Tms 1 q.2
theorem TabT.nd {t : Tab} (h : TabT t) : TabN t := fun q hq => (h q hq).2
theorem valT_tm {t : Tab} {n : Int} {w : List PyData} (ht : TabT t) (h : valT t n = some w) : Tms 1 w := by
  obtain ⟨q, hq, e⟩ := valT_mem h
  rw [← e]
  exact ht q hq
theorem appM_cls {t : Tab} (ht : TabT t) : ∀ (ds : List PyData) (m : Nat), (∀ d ∈ ds, NdA d) → Cls m ds → Cls m (appM t ds)
  | [], _, _, h => h
  | d :: ds, m, hn, h => by
    have ih := appM_cls ht ds (m - 1 + arN d) (fun x hx => hn x (.tail _ hx)) h.2
    show Cls m (appN t d ++ appM t ds)
    by_cases v : isVarN d = true
    · rw [var_arN v, Nat.add_zero] at ih
      have h1 : Cls 1 (appN t d) := by
        unfold appN
        rw [if_pos v]
        cases e : valT t (numN d) with
        | some w => exact (valT_tm ht e).1
        | none => exact ⟨by decide, by rw [var_arN v]; rfl⟩
      have := cls_app _ _ _ _ h1 ih
      rwa [show 1 + (m - 1) = m by have := h.1; omega] at this
    · rw [appN_non v]
      exact ⟨h.1, ih⟩
theorem appM_tms {t : Tab} (ht : TabT t) {m : Nat} {ds : List PyData} (h : Tms m ds) : Tms m (appM t ds) := ⟨appM_cls ht ds m h.2 h.1, appM_nd ht.nd h.2⟩
theorem appM_app (t : Tab) (ds es : List PyData) : appM t (ds ++ es) = appM t ds ++ appM t es := List.flatMap_append
theorem appM_cons (t : Tab) (d : PyData) (es : List PyData) : appM t (d :: es) = appN t d ++ appM t es := rfl
theorem appM_nil (t : Tab) : appM t [] = [] := rfl
theorem appN_ne {t : Tab} (ht : TabT t) (d : PyData) : appN t d ≠ [] := by
  unfold appN
  by_cases v : isVarN d = true
  · rw [if_pos v]
    cases e : valT t (numN d) with
    | some w => exact (valT_tm ht e).ne
    | none => exact fun z => nomatch z
  · rw [if_neg v]; exact fun z => nomatch z
theorem appM_len {t : Tab} (ht : TabT t) : ∀ ds : List PyData, ds.length ≤ (appM t ds).length
  | [] => Nat.le_refl 0
  | d :: ds => by
    have := appM_len ht ds
    have h2 : 0 < (appN t d).length := List.length_pos_iff.mpr (appN_ne ht d)
    rw [appM_cons, List.length_append, List.length_cons]
    omega
theorem vN_var (n : Int) : isVarN (vN n) = true := rfl
theorem vN_num (n : Int) : numN (vN n) = n := rfl
theorem var_vN {d : PyData} (h : NdA d) (v : isVarN d = true) : d = vN (numN d) := by
  obtain ⟨n, rfl⟩ := var_form h v
  rfl
/-- no key of the table stands in the nodes -/
def Free (t : Tab) (ds : List PyData) : Prop := ∀ q ∈ t, vN q.1 ∉ ds
theorem appM_free {t : Tab} : ∀ {ds : List PyData}, (∀ d ∈ ds, NdA d) → Free t ds → appM t ds = ds
  | [], _, _ => rfl
  | d :: ds, hn, h => by
    rw [appM_cons, appM_free (fun x hx => hn x (.tail _ hx)) fun q hq m => h q hq (.tail _ m)]
    by_cases v : isVarN d = true
    · have e := var_vN (hn d (.head _)) v
      rw [e]
      have : valT t (numN d) = none := by
        cases g : valT t (numN d) with
        | none => rfl
        | some w =>
          exfalso
          unfold valT at g
          cases f : t.find? fun p => decide (p.1 = numN d) with
          | none => rw [f] at g; cases g
          | some q =>
            have hq := List.mem_of_find?_eq_some f
            have hk : q.1 = numN d := of_decide_eq_true (List.find?_some (p := fun p : Int × List PyData => decide (p.1 = numN d)) f)
            exact h q hq (by rw [hk, ← e]; exact .head _)
      unfold vN
      rw [appN_out this]
      rfl
    · rw [appN_non v]
      rfl
theorem val_one (n m : Int) (v : List PyData) : valT [(n, v)] m = if n = m then some v else none := by
  unfold valT
  by_cases e : n = m
  · rw [List.find?_cons, decide_eq_true e, if_pos e]; rfl
  · rw [List.find?_cons, decide_eq_false e, if_neg e]; rfl
theorem app_own (n : Int) (v : List PyData) : appN [(n, v)] (vN n) = v := appN_in (by rw [val_one, if_pos rfl])
theorem app_else {n : Int} {v : List PyData} {d : PyData} (hd : NdA d) (h : d ≠ vN n) : appN [(n, v)] d = [d] := by
  by_cases x : isVarN d = true
  · have e := var_vN hd x
    rw [e]
    refine appN_out ?_
    rw [val_one, if_neg fun z => h (by rw [e, ← z])]
  · exact appN_non x
/-- what is bound stands in no term any more -/
theorem gone {n : Int} {v : List PyData} (hv : vN n ∉ v) : ∀ {ds : List PyData}, (∀ d ∈ ds, NdA d) → vN n ∉ appM [(n, v)] ds
  | [], _, h => nomatch h
  | d :: ds, hn, h => by
    rw [appM_cons] at h
    rcases List.mem_append.mp h with h | h
    · by_cases e : d = vN n
      · rw [e, app_own] at h; exact hv h
      · rw [app_else (hn d (.head _)) e] at h
        exact e (List.mem_singleton.mp h).symm
    · exact gone hv (fun x hx => hn x (.tail _ hx)) h
theorem kept_out {t : Tab} {n : Int} {v : List PyData} {x : Int} (hv : vN x ∉ v) : ∀ {ds : List PyData}, (∀ d ∈ ds, NdA d) → vN x ∉ ds → vN x ∉ appM [(n, v)] ds
  | [], _, _, h => nomatch h
  | d :: ds, hn, h0, h => by
    rw [appM_cons] at h
    rcases List.mem_append.mp h with h | h
    · by_cases e : d = vN n
      · rw [e, app_own] at h; exact hv h
      · rw [app_else (hn d (.head _)) e] at h
        exact h0 (by rw [List.mem_singleton.mp h]; exact .head _)
    · exact kept_out (t := t) hv (fun y hy => hn y (.tail _ hy)) (fun m => h0 (.tail _ m)) h
/-- the terms, and the table so far -/
structure Sol (L R : List PyData) (T : Tab) : Prop where
  l : Tms 1 L
  r : Tms 1 R
  t : TabT T
  nd : (T.map (·.1)).Nodup
  fl : Free T L
  fr : Free T R
  ft : ∀ q ∈ T, Free T q.2
  pos : ∀ q ∈ T, 0 ≤ q.1
  inf : ∀ q ∈ T, q.2 <:+: L ∨ q.2 <:+: R
theorem infix_app {t : Tab} {a b : List PyData} (h : a <:+: b) : appM t a <:+: appM t b := by
  obtain ⟨x, y, rfl⟩ := h
  exact ⟨appM t x, appM t y, by rw [appM_app, appM_app]⟩
theorem tms_sub {k : Nat} {ds : List PyData} (h : Tms (k + 1) ds) : Tms 1 (sub1 ds) ∧ Tms k (ds.drop (tk 1 ds)) ∧ ds = sub1 ds ++ ds.drop (tk 1 ds) :=
  ⟨⟨cls_take ds (k + 1) 1 h.1 (by omega), fun d hd => h.2 d (List.mem_of_mem_take hd)⟩, ⟨cls_drop ds (k + 1) 1 h.1 (by omega), fun d hd => h.2 d (List.mem_of_mem_drop hd)⟩, (List.take_append_drop _ _).symm⟩
theorem sub_var {n : Int} {r : List PyData} : sub1 (vN n :: r) = [vN n] := by
  unfold sub1
  rw [tk_cons (by decide), show 1 - 1 + arN (vN n) = 0 from rfl, tk_zero]
  rfl
theorem bind_cases {a b : PyData} {l r v : List PyData} {n : Int} (ha : NdA a) (hb : NdA b) (h : bindM (a :: l) (b :: r) = some (n, v)) : (a = vN n ∧ v = sub1 (b :: r)) ∨ (b = vN n ∧ v = sub1 (a :: l)) := by
  simp only [bindM] at h
  by_cases va : isVarN a = true
  · rw [if_pos va] at h
    have ea := var_vN ha va
    by_cases vb : isVarN b = true
    · rw [if_pos vb] at h
      have eb := var_vN hb vb
      split at h
      · have h2 := Option.some.inj h
        rw [← (Prod.mk.inj h2).1, ← (Prod.mk.inj h2).2]
        exact .inl ⟨ea, by rw [eb, sub_var]; rfl⟩
      · have h2 := Option.some.inj h
        rw [← (Prod.mk.inj h2).1, ← (Prod.mk.inj h2).2]
        exact .inr ⟨eb, by rw [ea, sub_var]; rfl⟩
    · rw [if_neg vb] at h
      have h2 := Option.some.inj h
      rw [← (Prod.mk.inj h2).1, ← (Prod.mk.inj h2).2]
      exact .inl ⟨ea, rfl⟩
  · rw [if_neg va] at h
    by_cases vb : isVarN b = true
    · rw [if_pos vb] at h
      have h2 := Option.some.inj h
      rw [← (Prod.mk.inj h2).1, ← (Prod.mk.inj h2).2]
      exact .inr ⟨var_vN hb vb, rfl⟩
    · rw [if_neg vb] at h; cases h
/-- from a place in a list of terms on there is a term at least -/
theorem tms_mid {p : List PyData} {a : PyData} {l : List PyData} {m : Nat} (h : Tms m (p ++ a :: l)) : ∃ k, Tms (k + 1) (a :: l) := by
  obtain ⟨k, h1, _⟩ := cls_split (p ++ a :: l) m p.length h.1 (by rw [List.length_append]; omega)
  rw [List.drop_left] at h1
  have h1' := h1
  obtain ⟨h2, _⟩ := h1'
  exact ⟨k - 1, by rw [Nat.sub_add_cancel h2]; exact h1, fun d hd => h.2 d (List.mem_append_right _ hd)⟩
theorem vN_inj {n m : Int} (h : vN n = vN m) : n = m := by
  unfold vN at h
  injection h with h
  injection h with _ h
  injection h with h _
  injection h
theorem vN_pos {n : Int} (h : NdA (vN n)) : 0 ≤ n := by
  obtain ⟨w, h⟩ := h
  cases h with
  | v _ h1 _ => exact h1
structure Bnd (L R : List PyData) (T : Tab) (n : Int) (v : List PyData) : Prop where
  pos : 0 ≤ n
  tm : Tms 1 v
  at_ : vN n ∈ L ∨ vN n ∈ R
  inf : v <:+: L ∨ v <:+: R
  own : vN n ∉ v
theorem bind_ok {p l r v : List PyData} {a b : PyData} {n : Int} {T : Tab} (hl : Tms 1 (p ++ a :: l)) (hr : Tms 1 (p ++ b :: r)) (h : bindM (a :: l) (b :: r) = some (n, v)) (hv : vN n ∉ v) : Bnd (p ++ a :: l) (p ++ b :: r) T n v := by
  have na := hl.2 a (List.mem_append_right _ (.head _))
  have nb := hr.2 b (List.mem_append_right _ (.head _))
  obtain ⟨k, ka⟩ := tms_mid hl
  obtain ⟨j, kb⟩ := tms_mid hr
  obtain ⟨s1, s2, s3⟩ := tms_sub ka
  obtain ⟨t1, t2, t3⟩ := tms_sub kb
  rcases bind_cases na nb h with ⟨e1, e2⟩ | ⟨e1, e2⟩
  · subst e1 e2
    refine ⟨vN_pos na, t1, .inl (List.mem_append_right _ (.head _)), .inr ⟨p, (b :: r).drop (tk 1 (b :: r)), ?_⟩, hv⟩
    rw [List.append_assoc, ← t3]
  · subst e1 e2
    refine ⟨vN_pos nb, s1, .inr (List.mem_append_right _ (.head _)), .inl ⟨p, (a :: l).drop (tk 1 (a :: l)), ?_⟩, hv⟩
    rw [List.append_assoc, ← s3]
theorem tab_one {n : Int} {v : List PyData} (h : Tms 1 v) : TabT [(n, v)] := fun q hq => by rw [List.mem_singleton.mp hq]; exact h
theorem infix_mem {a b : List PyData} {d : PyData} (h : a <:+: b) (hd : d ∈ a) : d ∈ b := by
  obtain ⟨x, y, rfl⟩ := h
  exact List.mem_append_left _ (List.mem_append_right _ hd)
theorem in_app {n : Int} {v : List PyData} : ∀ {ds : List PyData}, vN n ∈ ds → v <:+: appM [(n, v)] ds
  | d :: ds, h => by
    rw [appM_cons]
    rcases List.mem_cons.mp h with h | h
    · rw [← h, app_own]
      exact ⟨[], appM [(n, v)] ds, rfl⟩
    · obtain ⟨x, y, e⟩ := in_app (v := v) h
      exact ⟨appN [(n, v)] d ++ x, y, by rw [← e]; simp⟩
theorem up1_keys (n : Int) (v : List PyData) (T : Tab) : (up1 n v T).map (·.1) = T.map (·.1) ++ [n] := by
  unfold up1
  rw [List.map_append, List.map_map]
  rfl
theorem Sol.next {L R : List PyData} {T : Tab} {n : Int} {v : List PyData} (S : Sol L R T) (b : Bnd L R T n v) : Sol (appM [(n, v)] L) (appM [(n, v)] R) (up1 n v T) := by
  have t1 := tab_one (n := n) b.tm
  have nk : n ∉ T.map (·.1) := fun h => by
    obtain ⟨q, hq, rfl⟩ := List.mem_map.mp h
    exact b.at_.elim (S.fl q hq) (S.fr q hq)
  have fv : Free T v := fun q hq h => b.inf.elim (fun i => S.fl q hq (infix_mem i h)) fun i => S.fr q hq (infix_mem i h)
  have split : ∀ q ∈ up1 n v T, (∃ x ∈ T, q = (x.1, appM [(n, v)] x.2)) ∨ q = (n, v) := fun q hq => by
    unfold up1 at hq
    rcases List.mem_append.mp hq with h | h
    · obtain ⟨x, hx, rfl⟩ := List.mem_map.mp h
      exact .inl ⟨x, hx, rfl⟩
    · exact .inr (List.mem_singleton.mp h)
  have free : ∀ {ds : List PyData}, (∀ d ∈ ds, NdA d) → Free T ds → Free (up1 n v T) (appM [(n, v)] ds) := fun {ds} hn hf q hq => by
    rcases split q hq with ⟨x, hx, rfl⟩ | rfl
    · exact kept_out (t := T) (fv x hx) hn (hf x hx)
    · exact gone b.own hn
  refine ⟨appM_tms t1 S.l, appM_tms t1 S.r, fun q hq => ?_, ?_, free S.l.2 S.fl, free S.r.2 S.fr, fun q hq => ?_, fun q hq => ?_, fun q hq => ?_⟩
  · rcases split q hq with ⟨x, hx, rfl⟩ | rfl
    · exact appM_tms t1 (S.t x hx)
    · exact b.tm
  · rw [up1_keys]
    refine List.nodup_append.mpr ⟨S.nd, List.nodup_cons.mpr ⟨(fun h => nomatch h), List.nodup_nil⟩, fun x hx y hy e => nk (by rw [List.mem_singleton.mp hy] at e; rw [← e]; exact hx)⟩
  · rcases split q hq with ⟨x, hx, rfl⟩ | rfl
    · exact free (S.t x hx).2 (S.ft x hx)
    · intro y hy
      rcases split y hy with ⟨x, hx, rfl⟩ | rfl
      · exact fv x hx
      · exact b.own
  · rcases split q hq with ⟨x, hx, rfl⟩ | rfl
    · exact S.pos x hx
    · exact b.pos
  · rcases split q hq with ⟨x, hx, rfl⟩ | rfl
    · exact (S.inf x hx).elim (fun i => .inl (infix_app i)) fun i => .inr (infix_app i)
    · exact b.at_.elim (fun i => .inl (in_app i)) fun i => .inr (in_app i)
open Classical in
noncomputable def mu (U : List Int) (L R : List PyData) : Nat := (U.filter fun n => decide (vN n ∈ L ∨ vN n ∈ R)).length
theorem filter_less {U : List Int} {f g : Int → Bool} (h : ∀ x ∈ U, g x = true → f x = true) {n : Int} (hn : n ∈ U) (h1 : f n = true) (h2 : g n = false) : (U.filter g).length < (U.filter f).length := by
  induction U with
  | nil => cases hn
  | cons x U ih =>
    have le : (U.filter g).length ≤ (U.filter f).length := by
      clear ih hn
      induction U with
      | nil => exact Nat.le_refl _
      | cons y U ih2 =>
        have i := ih2 fun z hz => h z (by rcases List.mem_cons.mp hz with rfl | hz; exact .head _; exact .tail _ (.tail _ hz))
        have hy := h y (.tail _ (.head _))
        cases gy : g y with
        | true => rw [List.filter_cons_of_pos gy, List.filter_cons_of_pos (hy gy)]; simpa using i
        | false =>
          rw [List.filter_cons_of_neg (by rw [gy]; exact Bool.false_ne_true)]
          cases fy : f y with
          | true => rw [List.filter_cons_of_pos fy]; simp; omega
          | false => rw [List.filter_cons_of_neg (by rw [fy]; exact Bool.false_ne_true)]; exact i
    rcases List.mem_cons.mp hn with rfl | hn
    · rw [List.filter_cons_of_pos h1, List.filter_cons_of_neg (by rw [h2]; exact Bool.false_ne_true), List.length_cons]
      omega
    · have i := ih (fun y hy => h y (.tail _ hy)) hn
      have hx := h x (.head _)
      cases gx : g x with
      | true => rw [List.filter_cons_of_pos gx, List.filter_cons_of_pos (hx gx)]; simpa using i
      | false =>
        rw [List.filter_cons_of_neg (by rw [gx]; exact Bool.false_ne_true)]
        cases fx : f x with
        | true => rw [List.filter_cons_of_pos fx, List.length_cons]; omega
        | false => rw [List.filter_cons_of_neg (by rw [fx]; exact Bool.false_ne_true)]; exact i
/-- two closed lists are alike or differ somewhere -/
theorem alike_or : ∀ {m : Nat} {L R : List PyData}, Cls m L → Cls m R → L = R ∨ ∃ p a b l r, L = p ++ a :: l ∧ R = p ++ b :: r ∧ a ≠ b
  | m, [], [], _, _ => .inl rfl
  | m, [], y :: r, h, h2 => by
    have e : m = 0 := h
    exact absurd h2.1 (by omega)
  | m, x :: l, [], h, h2 => by
    have e : m = 0 := h2
    exact absurd h.1 (by omega)
  | m, x :: l, y :: r, h, h2 => by
    by_cases e : x = y
    · subst e
      rcases alike_or h.2 h2.2 with e | ⟨p, a, b, l', r', e1, e2, e3⟩
      · exact .inl (by rw [e])
      · exact .inr ⟨x :: p, a, b, l', r', by rw [e1]; rfl, by rw [e2]; rfl, e3⟩
    · exact .inr ⟨[], x, y, l, r, rfl, rfl, e⟩
theorem mem_app_var {n m : Int} {v : List PyData} : ∀ {ds : List PyData}, (∀ d ∈ ds, NdA d) → vN m ∈ appM [(n, v)] ds → vN m ∈ v ∨ vN m ∈ ds
  | [], _, h => nomatch h
  | d :: ds, hn, h => by
    rw [appM_cons] at h
    rcases List.mem_append.mp h with h | h
    · by_cases e : d = vN n
      · rw [e, app_own] at h; exact .inl h
      · rw [app_else (hn d (.head _)) e] at h
        exact .inr (by rw [List.mem_singleton.mp h]; exact .head _)
    · exact (mem_app_var (fun x hx => hn x (.tail _ hx)) h).imp id (.tail _)
open Classical in
theorem eg_ex (B : Nat) (U : List Int) : ∀ (m : Nat) (L R : List PyData) (T : Tab), Sol L R T → (∀ n, vN n ∈ L ∨ vN n ∈ R → n ∈ U) → mu U L R ≤ m → ∃ k s, Eg B k L R T s ∧ k ≤ m
  | m, L, R, T, S, hU, hm => by
    rcases alike_or S.l.1 S.r.1 with e | ⟨p, a, b, l, r, e1, e2, e3⟩
    · subst e; exact ⟨0, _, .done L T, Nat.zero_le _⟩
    · subst e1 e2
      cases hb : bindM (a :: l) (b :: r) with
      | none => exact ⟨0, _, .clash e3 hb, Nat.zero_le _⟩
      | some nv =>
        obtain ⟨n, v⟩ := nv
        by_cases ho : vN n ∈ v
        · exact ⟨0, _, .occ e3 hb ho, Nat.zero_le _⟩
        · by_cases hB : B < max (appM [(n, v)] (p ++ a :: l)).length (appM [(n, v)] (p ++ b :: r)).length
          · exact ⟨0, _, .big e3 hb ho hB, Nat.zero_le _⟩
          · have bo : Bnd (p ++ a :: l) (p ++ b :: r) T n v := bind_ok S.l S.r hb ho
            have less : mu U (appM [(n, v)] (p ++ a :: l)) (appM [(n, v)] (p ++ b :: r)) < mu U (p ++ a :: l) (p ++ b :: r) := by
              unfold mu
              refine filter_less (fun x _ hx => ?_) (hU n bo.at_) (decide_eq_true bo.at_) (decide_eq_false fun z => z.elim (gone bo.own S.l.2) (gone bo.own S.r.2))
              have hx := of_decide_eq_true hx
              refine decide_eq_true ?_
              have vv : vN x ∈ v → vN x ∈ p ++ a :: l ∨ vN x ∈ p ++ b :: r := fun h => bo.inf.imp (fun i => infix_mem i h) fun i => infix_mem i h
              rcases hx with hx | hx
              · exact (mem_app_var S.l.2 hx).elim vv .inl
              · exact (mem_app_var S.r.2 hx).elim vv .inr
            match m, hm with
            | 0, hm => exact absurd less (by omega)
            | m + 1, hm =>
              obtain ⟨k, s, h, hk⟩ := eg_ex B U m _ _ _ (S.next bo) (fun x hx => by
                have vv : vN x ∈ v → x ∈ U := fun h => hU x (bo.inf.imp (fun i => infix_mem i h) fun i => infix_mem i h)
                rcases hx with hx | hx
                · exact (mem_app_var S.l.2 hx).elim vv fun h => hU x (.inl h)
                · exact (mem_app_var S.r.2 hx).elim vv fun h => hU x (.inr h)) (by omega)
              exact ⟨k + 1, s, .step e3 hb ho (by omega) h, by omega⟩
theorem sol_zero {L R : List PyData} (h : Tms 1 L) (h2 : Tms 1 R) : Sol L R [] :=
  ⟨h, h2, fun _ h => (nomatch h), List.nodup_nil, fun _ h => (nomatch h), fun _ h => (nomatch h), fun _ h => (nomatch h), fun _ h => (nomatch h), fun _ h => (nomatch h)⟩
theorem mu_le (U : List Int) (L R : List PyData) : mu U L R ≤ U.length := List.length_filter_le _ _
/-- there is a result -/
theorem eg_any (B : Nat) {L R : List PyData} (h : Tms 1 L) (h2 : Tms 1 R) : ∃ k s, Eg B k L R [] s ∧ k ≤ L.length + R.length := by
  obtain ⟨k, s, h3, h4⟩ := eg_ex B ((L ++ R).map numN) (mu ((L ++ R).map numN) L R) L R [] (sol_zero h h2) (fun n hn => List.mem_map.mpr ⟨vN n, List.mem_append.mpr hn, rfl⟩) (Nat.le_refl _)
  have := mu_le ((L ++ R).map numN) L R
  rw [List.length_map, List.length_append] at this
  exact ⟨k, s, h3, by omega⟩
/-! ### the table as the program keeps it: no value is touched behind its binding -/
def TriR : Tab → Prop
  | [] => True
  | q :: t => (∀ x ∈ q :: t, vN q.1 ∉ x.2) ∧ TriR t
def rkT : Tab → Int → Nat
  | [], _ => 0
  | q :: t, n => if q.1 = n then t.length + 1 else rkT t n
theorem rk_le : ∀ (t : Tab) (n : Int), rkT t n ≤ t.length
  | [], _ => Nat.le_refl 0
  | q :: t, n => by
    have := rk_le t n
    unfold rkT
    split
    · exact Nat.le_refl _
    · rw [List.length_cons]; omega
theorem valT_cons (q : Int × List PyData) (t : Tab) (n : Int) : valT (q :: t) n = if q.1 = n then some q.2 else valT t n := by
  unfold valT
  by_cases e : q.1 = n
  · rw [List.find?_cons, decide_eq_true e, if_pos e]; rfl
  · rw [List.find?_cons, decide_eq_false e, if_neg e]
theorem rk_pos : ∀ {t : Tab} {n : Int} {w : List PyData}, valT t n = some w → 0 < rkT t n
  | [], _, _, h => nomatch h
  | q :: t, n, w, h => by
    rw [valT_cons] at h
    unfold rkT
    by_cases e : q.1 = n
    · rw [if_pos e]; omega
    · rw [if_neg e] at h ⊢
      exact rk_pos h
theorem rk_none : ∀ {t : Tab} {n : Int}, valT t n = none → rkT t n = 0
  | [], _, _ => rfl
  | q :: t, n, h => by
    rw [valT_cons] at h
    unfold rkT
    by_cases e : q.1 = n
    · rw [if_pos e] at h; cases h
    · rw [if_neg e] at h ⊢
      exact rk_none h
theorem rk_less : ∀ {t : Tab} {n m : Int} {w : List PyData}, TriR t → valT t n = some w → vN m ∈ w → rkT t m < rkT t n
  | [], _, _, _, _, h, _ => nomatch h
  | q :: t, n, m, w, hT, h, hm => by
    rw [valT_cons] at h
    by_cases e : q.1 = n
    · rw [if_pos e] at h
      have hw := Option.some.inj h
      have ne : ¬ q.1 = m := fun z => hT.1 q (.head _) (by rw [hw, z]; exact hm)
      unfold rkT
      rw [if_pos e, if_neg ne]
      have := rk_le t m
      omega
    · rw [if_neg e] at h
      have ne : ¬ q.1 = m := fun z => by
        obtain ⟨x, hx, ex⟩ := valT_mem h
        exact hT.1 x (.tail _ hx) (by rw [ex, z]; exact hm)
      unfold rkT
      rw [if_neg e, if_neg ne]
      exact rk_less hT.2 h hm
theorem tri_snoc {n : Int} {v : List PyData} (hn : vN n ∉ v) : ∀ {t : Tab}, TriR t → (∀ q ∈ t, vN q.1 ∉ v) → TriR (t ++ [(n, v)])
  | [], _, _ => ⟨fun x hx => by rw [List.mem_singleton.mp hx]; exact hn, True.intro⟩
  | q :: t, h, h2 => ⟨fun x hx => by
      rcases List.mem_append.mp (show x ∈ (q :: t) ++ [(n, v)] from hx) with hx | hx
      · exact h.1 x hx
      · rw [List.mem_singleton.mp hx]; exact h2 q (.head _), tri_snoc hn h.2 fun x hx => h2 x (.tail _ hx)⟩
structure Tri (F T : Tab) : Prop where
  keys : F.map (·.1) = T.map (·.1)
  val : ∀ q ∈ F, valT T q.1 = some (appM T q.2)
  tri : TriR F
  tm : TabT F
theorem valT_app (t u : Tab) (n : Int) : valT (t ++ u) n = match valT t n with | some w => some w | none => valT u n := by
  induction t with
  | nil => rfl
  | cons q t ih =>
    rw [List.cons_append, valT_cons, valT_cons]
    by_cases e : q.1 = n
    · rw [if_pos e, if_pos e]
    · rw [if_neg e, if_neg e]
      exact ih
theorem valT_map (f : List PyData → List PyData) (t : Tab) (n : Int) : valT (t.map fun x => (x.1, f x.2)) n = (valT t n).map f := by
  induction t with
  | nil => rfl
  | cons q t ih =>
    rw [List.map_cons, valT_cons, valT_cons]
    by_cases e : q.1 = n
    · rw [if_pos e, if_pos e]; rfl
    · rw [if_neg e, if_neg e]; exact ih
theorem valT_up1 (n : Int) (v : List PyData) (T : Tab) (m : Int) : valT (up1 n v T) m = match valT T m with | some w => some (appM [(n, v)] w) | none => if n = m then some v else none := by
  unfold up1
  rw [valT_app, valT_map, val_one]
  cases valT T m <;> rfl
theorem app_up1 {n : Int} {v : List PyData} {T : Tab} : ∀ {ds : List PyData}, (∀ d ∈ ds, NdA d) → appM (up1 n v T) ds = appM [(n, v)] (appM T ds)
  | [], _ => rfl
  | d :: ds, hn => by
    rw [appM_cons, appM_cons, appM_app, app_up1 fun x hx => hn x (.tail _ hx)]
    congr 1
    by_cases x : isVarN d = true
    · have e := var_vN (hn d (.head _)) x
      have e1 : ∀ s : Tab, appN s d = (match valT s (numN d) with | some w => w | none => [d]) := fun s => by unfold appN; rw [if_pos x]
      rw [e1, e1, valT_up1]
      cases valT T (numN d) with
      | some w => rfl
      | none =>
        show (match (if n = numN d then some v else none) with | some w => w | none => [d]) = appM [(n, v)] [d]
        rw [appM_cons, appM_nil, List.append_nil, e1, val_one]
    · rw [appN_non x, appN_non x, appM_cons, appM_nil, List.append_nil, appN_non x]
theorem tri_zero : Tri [] [] := ⟨rfl, fun _ h => (nomatch h), True.intro, fun _ h => (nomatch h)⟩
theorem Tri.key {F T : Tab} (h : Tri F T) (n : Int) : n ∈ F.map (·.1) ↔ n ∈ T.map (·.1) := by rw [h.keys]
theorem free_keys {t : Tab} {ds : List PyData} : Free t ds ↔ ∀ n ∈ t.map (·.1), vN n ∉ ds :=
  ⟨fun h n hn => by obtain ⟨q, hq, rfl⟩ := List.mem_map.mp hn; exact h q hq, fun h q hq => h q.1 (List.mem_map.mpr ⟨q, hq, rfl⟩)⟩
theorem Tri.next {L R : List PyData} {F T : Tab} {n : Int} {v : List PyData} (h : Tri F T) (S : Sol L R T) (b : Bnd L R T n v) : Tri (F ++ [(n, v)]) (up1 n v T) := by
  have S2 := S.next b
  have fv : Free T v := fun q hq m => b.inf.elim (fun i => S.fl q hq (infix_mem i m)) fun i => S.fr q hq (infix_mem i m)
  have nk : n ∉ T.map (·.1) := fun m => by
    obtain ⟨q, hq, rfl⟩ := List.mem_map.mp m
    exact b.at_.elim (S.fl q hq) (S.fr q hq)
  have ff : ∀ q ∈ F, vN q.1 ∉ v := fun q hq => free_keys.mp fv q.1 ((h.key q.1).mp (List.mem_map.mpr ⟨q, hq, rfl⟩))
  refine ⟨by rw [up1_keys, List.map_append, h.keys]; rfl, fun q hq => ?_, tri_snoc b.own h.tri ff, fun q hq => ?_⟩
  · rcases List.mem_append.mp hq with hq | hq
    · rw [valT_up1, h.val q hq, app_up1 (h.tm q hq).2]
    · rw [List.mem_singleton.mp hq, valT_up1, valT_notin nk]
      show (if n = n then some v else none) = some (appM (up1 n v T) v)
      rw [if_pos rfl, appM_free b.tm.2 (free_keys.mpr fun m hm => ?_)]
      rw [up1_keys] at hm
      rcases List.mem_append.mp hm with hm | hm
      · exact free_keys.mp fv m hm
      · rw [List.mem_singleton.mp hm]; exact b.own
  · rcases List.mem_append.mp hq with hq | hq
    · exact h.tm q hq
    · rw [List.mem_singleton.mp hq]; exact b.tm
/-- a bound variable gives way to its value -/
theorem Tri.open {F T : Tab} (h : Tri F T) {n : Int} {w : List PyData} (e : valT F n = some w) (ds : List PyData) : appM T (vN n :: ds) = appM T (w ++ ds) := by
  have hq : ∃ q ∈ F, q.1 = n ∧ q.2 = w := by
    unfold valT at e
    cases f : F.find? fun p => decide (p.1 = n) with
    | none => rw [f] at e; cases e
    | some q =>
      rw [f] at e
      exact ⟨q, List.mem_of_find?_eq_some f, of_decide_eq_true (List.find?_some (p := fun p : Int × List PyData => decide (p.1 = n)) f), Option.some.inj e⟩
  obtain ⟨q, hq, e1, e2⟩ := hq
  rw [appM_cons, appM_app]
  congr 1
  have := h.val q hq
  rw [e1, e2] at this
  exact appN_in this
/-- one that is not bound stays -/
theorem Tri.stay {F T : Tab} (h : Tri F T) {d : PyData} (hd : NdA d) (e : isVarN d = true → valT F (numN d) = none) (ds : List PyData) : appM T (d :: ds) = d :: appM T ds := by
  rw [appM_cons]
  by_cases v : isVarN d = true
  · have e2 : valT T (numN d) = none := valT_notin fun m => by
      obtain ⟨q, hq, e3⟩ := List.mem_map.mp ((h.key _).mpr m)
      exact valT_none (e v) q hq e3
    have e4 := var_vN hd v
    rw [e4]
    unfold vN
    rw [appN_out e2]
    rfl
  · rw [appN_non v]; rfl
/-! ### how often a variable stands in the nodes -/
def cntN (n : Int) : List PyData → Nat
  | [] => 0
  | d :: r => (if isVarN d = true ∧ numN d = n then 1 else 0) + cntN n r
theorem cnt_app (n : Int) (a b : List PyData) : cntN n (a ++ b) = cntN n a + cntN n b := by
  induction a with
  | nil => simp [cntN]
  | cons d a ih => rw [List.cons_append]; simp only [cntN]; rw [ih]; omega
theorem cnt_zero {n : Int} : ∀ {ds : List PyData}, (∀ d ∈ ds, NdA d) → (cntN n ds = 0 ↔ vN n ∉ ds)
  | [], _ => ⟨fun _ h => (nomatch h), fun _ => rfl⟩
  | d :: ds, hn => by
    have ih := cnt_zero (n := n) fun x hx => hn x (.tail _ hx)
    simp only [cntN]
    by_cases e : isVarN d = true ∧ numN d = n
    · rw [if_pos e]
      refine ⟨fun z => by omega, fun z => absurd ?_ z⟩
      rw [← e.2, ← var_vN (hn d (.head _)) e.1]
      exact .head _
    · rw [if_neg e, Nat.zero_add, ih]
      refine ⟨fun z m => ?_, fun z m => z (.tail _ m)⟩
      rcases List.mem_cons.mp m with m | m
      · exact e (by rw [← m]; exact ⟨rfl, rfl⟩)
      · exact z m
theorem cnt_bind {n m : Int} {v : List PyData} (hm : m ≠ n) : ∀ {ds : List PyData}, (∀ d ∈ ds, NdA d) → cntN m (appM [(n, v)] ds) = cntN m ds + cntN n ds * cntN m v
  | [], _ => by simp [appM, cntN]
  | d :: ds, hn => by
    rw [appM_cons, cnt_app, cnt_bind hm fun x hx => hn x (.tail _ hx)]
    simp only [cntN]
    by_cases e : d = vN n
    · subst e
      rw [app_own, if_neg (fun z => hm (by rw [← z.2]; rfl)), if_pos ⟨vN_var n, vN_num n⟩, Nat.add_mul, Nat.one_mul]
      omega
    · rw [app_else (hn d (.head _)) e, if_neg (c := isVarN d = true ∧ numN d = n) fun z => e (by rw [← z.2]; exact var_vN (hn d (.head _)) z.1), Nat.zero_add (cntN n ds)]
      simp only [cntN]
      omega
theorem len_bind {n : Int} {v : List PyData} : ∀ {ds : List PyData}, (∀ d ∈ ds, NdA d) → ((appM [(n, v)] ds).length : Int) = (ds.length : Int) + (cntN n ds : Int) * ((v.length : Int) - 1)
  | [], _ => by simp [appM, cntN]
  | d :: ds, hn => by
    have ih := len_bind (n := n) (v := v) fun x hx => hn x (.tail _ hx)
    rw [appM_cons, List.length_append]
    simp only [cntN, List.length_cons]
    by_cases e : d = vN n
    · subst e
      rw [app_own, if_pos ⟨vN_var n, vN_num n⟩]
      have e1 : ((v.length + (appM [(n, v)] ds).length : Nat) : Int) = (v.length : Int) + ((appM [(n, v)] ds).length : Int) := by omega
      have e2 : ((1 + cntN n ds : Nat) : Int) * ((v.length : Int) - 1) = ((v.length : Int) - 1) + (cntN n ds : Int) * ((v.length : Int) - 1) := by
        rw [show ((1 + cntN n ds : Nat) : Int) = 1 + (cntN n ds : Int) by omega, Int.add_mul, Int.one_mul]
      rw [e1, ih, e2]
      omega
    · rw [app_else (hn d (.head _)) e, if_neg fun z => e (by rw [← z.2]; exact var_vN (hn d (.head _)) z.1), Nat.zero_add]
      have e1 : (([d].length + (appM [(n, v)] ds).length : Nat) : Int) = 1 + ((appM [(n, v)] ds).length : Int) := by rw [List.length_singleton]; omega
      rw [e1, ih]
      omega
/-- a dict that counts -/
def CntK (kvs : List (Key × V)) (f : Int → Nat) : Prop := ∀ n, (valV kvs (Sum.inl n) = some (.int (f n)) ∨ (valV kvs (Sum.inl n) = none ∧ f n = 0))
theorem valT_at : ∀ {t : Tab} {q : Int × List PyData}, (t.map (·.1)).Nodup → q ∈ t → valT t q.1 = some q.2
  | x :: t, q, h, hq => by
    obtain ⟨h1, h2⟩ := List.nodup_cons.mp h
    rw [valT_cons]
    rcases List.mem_cons.mp hq with rfl | hq
    · rw [if_pos rfl]
    · rw [if_neg fun z => h1 (by show x.1 ∈ _; rw [z]; exact List.mem_map.mpr ⟨q, hq, rfl⟩)]
      exact valT_at h2 hq
def stl (T F : Tab) : Tab := F.map fun q => (q.1, appM T q.2)
theorem stl_keys (T F : Tab) : (stl T F).map (·.1) = F.map (·.1) := by unfold stl; rw [List.map_map]; rfl
theorem Tri.list {F T : Tab} (h : Tri F T) (nd : (T.map (·.1)).Nodup) : stl T F = T := by
  have hl : F.length = T.length := by have := congrArg List.length h.keys; simpa using this
  refine List.ext_getElem? fun i => ?_
  unfold stl
  rw [List.getElem?_map]
  cases e : F[i]? with
  | none =>
    have := List.getElem?_eq_none_iff.mp e
    exact (List.getElem?_eq_none_iff.mpr (by omega)).symm
  | some q =>
    have hi := (List.getElem?_eq_some_iff.mp e).1
    have e2 : T[i]? = some T[i] := List.getElem?_eq_getElem (by omega)
    have k : q.1 = T[i].1 := by
      have a1 : (F.map (·.1))[i]? = some q.1 := by rw [List.getElem?_map, e]; rfl
      rw [h.keys, List.getElem?_map, e2] at a1
      exact (Option.some.inj a1).symm
    have v := valT_at nd (List.getElem_mem (show i < T.length by omega))
    rw [← k, h.val q (List.mem_of_getElem? e)] at v
    rw [e2]
    show some (q.1, appM T q.2) = some T[i]
    rw [Option.some.inj v, k]
theorem valT_rev {t : Tab} (h : (t.map (·.1)).Nodup) (n : Int) : valT t.reverse n = valT t n := by
  cases e : valT t n with
  | none =>
    refine valT_notin fun m => ?_
    obtain ⟨q, hq, rfl⟩ := List.mem_map.mp m
    exact valT_none e q (List.mem_reverse.mp hq) rfl
  | some w =>
    have hr : (t.reverse.map (·.1)).Nodup := by rw [List.map_reverse]; exact List.pairwise_reverse.mpr (List.Pairwise.imp Ne.symm h)
    have hq : ∃ q ∈ t, q.1 = n ∧ q.2 = w := by
      unfold valT at e
      cases f : t.find? fun p => decide (p.1 = n) with
      | none => rw [f] at e; cases e
      | some q =>
        rw [f] at e
        exact ⟨q, List.mem_of_find?_eq_some f, of_decide_eq_true (List.find?_some (p := fun p : Int × List PyData => decide (p.1 = n)) f), Option.some.inj e⟩
    obtain ⟨q, hq, rfl, rfl⟩ := hq
    exact valT_at hr (List.mem_reverse.mpr hq)
theorem app_congr {t u : Tab} : ∀ {ds : List PyData}, (∀ d ∈ ds, NdA d) → (∀ n, vN n ∈ ds → valT t n = valT u n) → appM t ds = appM u ds
  | [], _, _ => rfl
  | d :: ds, hn, h => by
    rw [appM_cons, appM_cons, app_congr (fun x hx => hn x (.tail _ hx)) fun n m => h n (.tail _ m)]
    congr 1
    by_cases v : isVarN d = true
    · unfold appN
      rw [if_pos v, if_pos v, h (numN d) (by rw [← var_vN (hn d (.head _)) v]; exact .head _)]
    · rw [appN_non v, appN_non v]
theorem Tri.valM {F T : Tab} (h : Tri F T) (n : Int) : valT T n = (valT F n).map (appM T) := by
  cases e : valT F n with
  | none =>
    refine valT_notin fun m => ?_
    obtain ⟨q, hq, rfl⟩ := List.mem_map.mp ((h.key _).mpr m)
    exact valT_none e q hq rfl
  | some w =>
    have hq : ∃ q ∈ F, q.1 = n ∧ q.2 = w := by
      unfold valT at e
      cases f : F.find? fun p => decide (p.1 = n) with
      | none => rw [f] at e; cases e
      | some q =>
        rw [f] at e
        exact ⟨q, List.mem_of_find?_eq_some f, of_decide_eq_true (List.find?_some (p := fun p : Int × List PyData => decide (p.1 = n)) f), Option.some.inj e⟩
    obtain ⟨q, hq, rfl, rfl⟩ := hq
    exact h.val q hq
theorem tri_at : ∀ {F : Tab} {i : Nat} {q : Int × List PyData}, TriR F → F[i]? = some q → ∀ x ∈ F.take (i + 1), vN x.1 ∉ q.2
  | [], _, _, _, e, _, _ => by simp at e
  | y :: F, 0, q, h, e, x, hx => by
    have e' : y = q := by simpa using e
    have hx' : x = y := by simpa using hx
    rw [hx', ← e']
    exact h.1 y (.head _)
  | y :: F, i + 1, q, h, e, x, hx => by
    have e' : F[i]? = some q := by simpa using e
    rw [List.take_succ_cons] at hx
    rcases List.mem_cons.mp hx with rfl | hx
    · exact h.1 q (.tail _ (List.mem_of_getElem? e'))
    · exact tri_at h.2 e' x hx
/-- settled from the last binding on -/
theorem settle_at {F T : Tab} (h : Tri F T) (nd : (T.map (·.1)).Nodup) {i : Nat} {q : Int × List PyData} (e : F[i]? = some q) : appM (stl T (F.drop (i + 1))).reverse q.2 = appM T q.2 := by
  have ndF : (F.map (·.1)).Nodup := by rw [h.keys]; exact nd
  refine app_congr (h.tm q (List.mem_of_getElem? e)).2 fun n m => ?_
  have nd2 : ((stl T (F.drop (i + 1))).map (·.1)).Nodup := by
    rw [stl_keys, List.map_drop]
    exact List.Nodup.sublist (List.drop_sublist _ _) ndF
  rw [valT_rev nd2, h.valM n]
  unfold stl
  rw [valT_map]
  congr 1
  have out : n ∉ (F.take (i + 1)).map (·.1) := fun z => by
    obtain ⟨x, hx, rfl⟩ := List.mem_map.mp z
    exact tri_at h.tri e x hx m
  have : valT F n = valT (F.take (i + 1) ++ F.drop (i + 1)) n := by rw [List.take_append_drop]
  rw [this, valT_app, valT_notin out]
theorem valV_get {K : PySem.W.Frag} {H : Hp} : ∀ {kvs : List (Key × V)} {t : Tab} {i : Nat} {kv : Key × V}, TabK K H kvs t → (t.map (·.1)).Nodup → kvs[i]? = some kv → valV kvs kv.1 = some kv.2
  | [], _, _, _, _, _, e => by simp at e
  | _ :: _, [], _, _, h, _, _ => h.elim
  | p :: kvs, q :: t, 0, kv, h, _, e => by
    rw [List.getElem?_cons_zero] at e
    cases e
    exact valV_pos rfl
  | p :: kvs, q :: t, i + 1, kv, h, nd, e => by
    rw [List.getElem?_cons_succ] at e
    obtain ⟨n1, n2⟩ := List.nodup_cons.mp nd
    obtain ⟨x, hx, hx1, _⟩ := TabK.get h.2.2 e
    rw [valV_neg fun z => n1 ?_]
    · exact valV_get h.2.2 n2 e
    · rw [h.1, hx1] at z
      have z2 := Sum.inl.inj z
      show q.1 ∈ _
      rw [z2]
      exact List.mem_map.mpr ⟨x, List.mem_of_getElem? hx, rfl⟩
theorem sqT_ins {K : PySem.W.Frag} {H : Hp} {p b C dx : Addr} {fs : List (Str × V)} {o : HO} {xs : List V} (hp : H p = some (.ins C dx fs)) (h : SqT K H b xs) : SqT K (upd H p o) b xs := by
  rcases h with (h | ⟨u, h⟩) | h
  · exact .inl (.inl (by rw [upd_ne (ne_of h hp (by intro z; cases z))]; exact h))
  · exact .inl (.inr ⟨u, by rw [upd_ne (ne_of h hp (by intro z; cases z))]; exact h⟩)
  · exact .inr h
theorem max3_int (a b c : Int) : nuMax3 (.int a) (.int b) (.int c) = some (.int (max (max a b) c)) := by
  show (nuMax2 (.int a) (.int b)).bind (fun m => nuMax2 m (.int c)) = _
  have h : ∀ x y : Int, nuMax2 (.int x) (.int y) = some (.int (max x y)) := fun x y => by
    show some (if decide (x < y) = true then V.int y else V.int x) = _
    by_cases q : x < y
    · rw [if_pos (decide_eq_true q), Int.max_eq_right (Int.le_of_lt q)]
    · rw [if_neg (fun z => q (of_decide_eq_true z)), Int.max_eq_left (Int.not_lt.mp q)]
  rw [h]
  exact h _ _
theorem dp_tup {K : PySem.W.Frag} {H : Hp} {v : V} {ds : List PyData} (h : Dp K H v (.tuple ds)) : ∃ a xs, v = .ref a ∧ SqT K H a xs ∧ DpAll K H xs ds := by
  cases h with
  | tup s a => exact ⟨_, _, rfl, s, a⟩
/-! ### the promises of unification -/
def sp_is_variable (K : PySem.W.Frag) : Sp := fun vs H Q _ => ∃ (x : V) (d : PyData), vs = [x] ∧ Dp K H x d ∧ NdA d ∧ Q (.bl (isVarN d)) H
def sp_is_symbol (K : PySem.W.Frag) : Sp := fun vs H Q _ => ∃ (x : V) (d : PyData), vs = [x] ∧ Dp K H x d ∧ NdA d ∧ Q (.bl (isSymN d)) H
def sp_arity_of (K : PySem.W.Frag) : Sp := fun vs H Q _ => ∃ (x : V) (d : PyData), vs = [x] ∧ Dp K H x d ∧ NdA d ∧ Q (.int (arN d : Nat)) H
/-- a Side: the stack at r, the dict that counts at c -/
structure SideA (K : PySem.W.Frag) (H : Hp) (p r c : Addr) (n : Int) : Prop where
  ob : ∃ dx, H p = some (.ins (clsA K "Side") dx (fs_Side (.ref r) (.int n) (.ref c)))
/-- the stack holds these nodes, the first on top -/
structure StkA (K : PySem.W.Frag) (H : Hp) (r : Addr) (ds : List PyData) : Prop where
  at_ : ∃ xs, H r = some (.lst xs) ∧ DpAll K H xs ds.reverse
  nd : ∀ d ∈ ds, NdA d
structure CntA (H : Hp) (c : Addr) (f : Int → Nat) (m : Nat) : Prop where
  at_ : ∃ kvs, H c = some (.dK kvs) ∧ CntK kvs f ∧ kvs.length ≤ m
structure FndA (K : PySem.W.Frag) (H : Hp) (d : Addr) (F : Tab) : Prop where
  at_ : ∃ kvs, H d = some (.dK kvs) ∧ TabK K H kvs F
def notKey (F : Tab) (d : PyData) : Prop := isVarN d = true → valT F (numN d) = none
def sp_Side_take (K : PySem.W.Frag) : Sp := fun vs H Q _ => ∃ (p r c d : Addr) (n : Int) (ds : List PyData) (F T : Tab), vs = [.ref p, .ref d] ∧ SideA K H p r c n ∧ StkA K H r ds ∧ FndA K H d F ∧ Tri F T ∧ TabT T ∧ ds ≠ [] ∧ (appM T ds).length ≤ 100000 ∧
  ∀ v e ds' H', NdA e → notKey F e → appM T ds = e :: appM T ds' → StkA K H' r ds' → Dp K H' v e → But r H H' → Q v H'
def sp_Side_take_rest (K : PySem.W.Frag) : Sp := fun vs H Q _ => ∃ (p r c d : Addr) (n : Int) (x : V) (e : PyData) (ds : List PyData) (F T : Tab) (k : Nat), vs = [.ref p, x, .ref d] ∧ SideA K H p r c n ∧ StkA K H r ds ∧ FndA K H d F ∧ Tri F T ∧ TabT T ∧ Dp K H x e ∧ NdA e ∧ Tms (k + 1) (e :: appM T ds) ∧ (appM T ds).length ≤ 90000 ∧
  ∀ v ds' H', appM T ds' = (e :: appM T ds).drop (tk 1 (e :: appM T ds)) → StkA K H' r ds' → Dp K H' v (.tuple (sub1 (e :: appM T ds))) → But r H H' → Q v H'
def sp_Side_add_variables (K : PySem.W.Frag) : Sp := fun vs H Q _ => ∃ (p r c : Addr) (n : Int) (x : V) (ds : List PyData) (t : Int) (f : Int → Nat) (m : Nat), vs = [.ref p, x, .int t] ∧ SideA K H p r c n ∧ CntA H c f m ∧ Dp K H x (.tuple ds) ∧ (∀ d ∈ ds, NdA d) ∧ 0 ≤ t ∧ m + ds.length ≤ 10000000 ∧ t ≤ 100000 ∧
  ∀ H', CntA H' c (fun n => f n + t.toNat * cntN n ds) (m + ds.length) → But c H H' → Q .non H'
def sp_Side_bind (K : PySem.W.Frag) : Sp := fun vs H Q _ => ∃ (p r c : Addr) (n : Int) (x : V) (ds : List PyData) (y : Int) (f : Int → Nat) (m : Nat), vs = [.ref p, .int y, x] ∧ SideA K H p r c n ∧ CntA H c f m ∧ Dp K H x (.tuple ds) ∧ (∀ d ∈ ds, NdA d) ∧ m + ds.length ≤ 10000000 ∧ f y ≤ 100000 ∧ ds.length ≤ 100000 ∧
  ∀ H', SideA K H' p r c (n + (f y : Int) * ((ds.length : Int) - 1)) → CntA H' c (fun z => (if z = y then 0 else f z) + f y * cntN z ds) (m + ds.length) → (∀ b o, b ≠ p → b ≠ c → H b = some o → H' b = some o) → Q .non H'
def sp_Side___init__ (K : PySem.W.Frag) : Sp := fun vs H Q _ => ∃ (p dx : Addr) (x : V) (ds : List PyData), vs = [.ref p, x] ∧ H p = some (.ins (clsA K "Side") dx []) ∧ Dp K H x (.tuple ds) ∧ (∀ d ∈ ds, NdA d) ∧ ds.length ≤ 100000 ∧
  ∀ r c H', H r = Option.none → H c = Option.none → SideA K H' p r c (ds.length : Int) → StkA K H' r ds → CntA H' c (fun n => cntN n ds) ds.length → r ≠ p → c ≠ p → r ≠ c → But p H H' → Q .non H'
theorem appM_none (ds : List PyData) : appM [] ds = ds := by
  induction ds with
  | nil => rfl
  | cons d ds ih =>
    rw [appM_cons, ih]
    show (if isVarN d = true then [d] else [d]) ++ ds = _
    rw [ite_self]
    rfl
theorem eq_nd {d e : PyData} (h : NdA d) (h2 : NdA e) : PyData.eqv d e = true ↔ d = e := ⟨nd_eq h h2, fun w => by
  subst w
  obtain ⟨wd, h⟩ := h
  cases h <;> simp [PyData.eqv, PyData.eqvAll]⟩
theorem any_nd {ds : List PyData} {x : PyData} (h : ∀ d ∈ ds, NdA d) (hx : NdA x) : (ds.any fun z => PyData.eqv z x) = true ↔ x ∈ ds := by
  rw [List.any_eq_true]
  exact ⟨fun ⟨d, hd, q⟩ => by rw [← nd_eq (h d hd) hx q]; exact hd, fun q => ⟨x, q, (eq_nd hx hx).mpr rfl⟩⟩
theorem none_back {H H' : Hp} (s : Same H H') {a : Addr} (h : H' a = Option.none) : H a = Option.none := by
  cases e : H a with
  | none => rfl
  | some o => rw [s _ _ e] at h; cases h
def toA (a b : PyData) : Bool := isVarN a && !(isVarN b && decide (numN a < numN b))
theorem bind_A {a b : PyData} {l r : List PyData} (ha : NdA a) (hb : NdA b) (ne : a ≠ b) (h : toA a b = true) : bindM (a :: l) (b :: r) = some (numN a, sub1 (b :: r)) := by
  unfold toA at h
  rw [Bool.and_eq_true] at h
  simp only [bindM]
  rw [if_pos h.1]
  by_cases vb : isVarN b = true
  · rw [if_pos vb]
    rw [vb, Bool.true_and] at h
    have h2 : ¬ numN a < numN b := fun w => by rw [decide_eq_true w] at h; exact absurd h.2 (by decide)
    have h3 : numN a ≠ numN b := fun w => ne (by rw [var_vN ha h.1, var_vN hb vb, w])
    rw [if_pos (by omega)]
    have e := var_vN hb vb
    rw [show sub1 (b :: r) = [vN (numN b)] by rw [e, sub_var]; rfl]
    rfl
  · rw [if_neg vb]
theorem bind_B {a b : PyData} {l r : List PyData} (ha : NdA a) (hb : NdA b) (h : toA a b = false) (vb : isVarN b = true) : bindM (a :: l) (b :: r) = some (numN b, sub1 (a :: l)) := by
  unfold toA at h
  simp only [bindM]
  by_cases va : isVarN a = true
  · rw [va, vb, Bool.true_and, Bool.true_and] at h
    have h2 : numN a < numN b := by
      by_cases w : numN a < numN b
      · exact w
      · rw [decide_eq_false w] at h; exact absurd h (by decide)
    rw [if_pos va, if_pos vb, if_neg (by omega)]
    have e := var_vN ha va
    rw [show sub1 (a :: l) = [vN (numN a)] by rw [e, sub_var]; rfl]
    rfl
  · rw [if_neg va, if_pos vb]
theorem bind_C {a b : PyData} {l r : List PyData} (h : toA a b = false) (vb : isVarN b = false) : bindM (a :: l) (b :: r) = none := by
  unfold toA at h
  rw [vb, Bool.false_and, Bool.not_false, Bool.and_true] at h
  simp only [bindM]
  rw [h, vb]
  rfl
theorem app_self {n : Int} {v : List PyData} (hv : ∀ d ∈ v, NdA d) (h : vN n ∉ v) : appM [(n, v)] v = v := appM_free hv fun q hq => by rw [List.mem_singleton.mp hq]; exact h
theorem app_sing (n : Int) (v : List PyData) : appM [(n, v)] [vN n] = v := by rw [appM_cons, app_own, appM_nil, List.append_nil]
theorem cnt_le (n : Int) : ∀ ds : List PyData, cntN n ds ≤ ds.length
  | [] => Nat.le_refl _
  | d :: ds => by
    have := cnt_le n ds
    unfold cntN
    rw [List.length_cons]
    split <;> omega
theorem cnt_after {n : Int} {v ds : List PyData} (hv : ∀ d ∈ v, NdA d) (hd : ∀ d ∈ ds, NdA d) (own : vN n ∉ v) (z : Int) : (if z = n then 0 else cntN z ds) + cntN n ds * cntN z v = cntN z (appM [(n, v)] ds) := by
  by_cases e : z = n
  · subst e
    rw [if_pos rfl, (cnt_zero hv).mpr own, Nat.mul_zero, (cnt_zero (appM_nd (fun q hq => by rw [List.mem_singleton.mp hq]; exact hv) hd)).mpr (gone own hd)]
  · rw [if_neg e, cnt_bind e hd]
/-- two sides and the dict that was found -/
structure UH (K : PySem.W.Frag) (H : Hp) (o1 r1 c1 o2 r2 c2 z : Addr) (n1 n2 : Int) (ds1 ds2 : List PyData) (f1 f2 : Int → Nat) (M1 M2 : Nat) (F : Tab) : Prop where
  s1 : SideA K H o1 r1 c1 n1
  s2 : SideA K H o2 r2 c2 n2
  k1 : StkA K H r1 ds1
  k2 : StkA K H r2 ds2
  t1 : CntA H c1 f1 M1
  t2 : CntA H c2 f2 M2
  fd : FndA K H z F
  fn : TabN F
  oo : o1 ≠ o2
  rr : r1 ≠ r2
  cc : c1 ≠ c2
  z1 : z ≠ c1
  z2 : z ≠ c2
def KpP (a b : Addr) (H H' : Hp) : Prop := ∀ x o, x ≠ a → x ≠ b → H x = some o → H' x = some o
def nTup (H : Hp) (a : Addr) : Prop := ∃ o, H a = some o ∧ (∀ xs, o ≠ .tup xs) ∧ ∀ u xs, o ≠ .frz u (.tup xs)
theorem KpP.sqT {K : PySem.W.Frag} {a b : Addr} {H H' : Hp} (h : KpP a b H H') (na : nTup H a) (nb : nTup H b) {p : Addr} {xs : List V} (q : SqT K H p xs) : SqT K H' p xs := by
  obtain ⟨o, e, n1, n2⟩ := na
  obtain ⟨u, g, m1, m2⟩ := nb
  rcases q with (q | ⟨y, q⟩) | q
  · exact .inl (.inl (h _ _ (fun z => by rw [z, e] at q; exact n1 _ (Option.some.inj q)) (fun z => by rw [z, g] at q; exact m1 _ (Option.some.inj q)) q))
  · exact .inl (.inr ⟨y, h _ _ (fun z => by rw [z, e] at q; exact n2 _ _ (Option.some.inj q)) (fun z => by rw [z, g] at q; exact m2 _ _ (Option.some.inj q)) q⟩)
  · exact .inr q
theorem KpP.sqL {a : Addr} {H H' : Hp} (h : But a H H') : KpP a a H H' := fun x o n _ e => h x o n e
theorem CntA.cong {H : Hp} {c : Addr} {f g : Int → Nat} {m : Nat} (h : CntA H c f m) (e : ∀ z, f z = g z) : CntA H c g m := by rw [← show f = g from funext e]; exact h
section
variable {K : PySem.W.Frag} {H H' : Hp} {o1 r1 c1 o2 r2 c2 z a b : Addr} {n1 n2 : Int} {ds1 ds2 : List PyData} {f1 f2 : Int → Nat} {M1 M2 : Nat} {F : Tab}
theorem SideA.kp {p r c : Addr} {n : Int} (h : SideA K H p r c n) (k : KpP a b H H') (ha : p ≠ a) (hb : p ≠ b) : SideA K H' p r c n := by
  obtain ⟨dx, e⟩ := h.ob
  exact ⟨dx, k _ _ ha hb e⟩
theorem StkA.kp {r : Addr} {ds : List PyData} (h : StkA K H r ds) (k : KpP a b H H') (na : nTup H a) (nb : nTup H b) (ha : r ≠ a) (hb : r ≠ b) : StkA K H' r ds := by
  obtain ⟨xs, e, d⟩ := h.at_
  exact ⟨⟨xs, k _ _ ha hb e, dp_mapAll (fun _ _ q => k.sqT na nb q) _ _ (nds_noL fun x hx => h.nd x (List.mem_reverse.mp hx)) d⟩, h.nd⟩
theorem CntA.kp {c : Addr} {f : Int → Nat} {m : Nat} (h : CntA H c f m) (k : KpP a b H H') (ha : c ≠ a) (hb : c ≠ b) : CntA H' c f m := by
  obtain ⟨kvs, e, d⟩ := h.at_
  exact ⟨kvs, k _ _ ha hb e, d⟩
theorem FndA.kp {d : Addr} (h : FndA K H d F) (n : TabN F) (k : KpP a b H H') (na : nTup H a) (nb : nTup H b) (ha : d ≠ a) (hb : d ≠ b) : FndA K H' d F := by
  obtain ⟨kvs, e, t⟩ := h.at_
  exact ⟨kvs, k _ _ ha hb e, TabK.mono (fun _ _ hn hd => dp_map (fun _ _ q => k.sqT na nb q) _ _ (tup_noL hn) hd) n t⟩
theorem SideA.nt {p r c : Addr} {n : Int} (h : SideA K H p r c n) : nTup H p := by
  obtain ⟨dx, e⟩ := h.ob
  exact ⟨_, e, (fun _ w => by cases w), (fun _ _ w => by cases w)⟩
theorem StkA.nt {r : Addr} {ds : List PyData} (h : StkA K H r ds) : nTup H r := by
  obtain ⟨xs, e, d⟩ := h.at_
  exact ⟨_, e, (fun _ w => by cases w), (fun _ _ w => by cases w)⟩
theorem CntA.nt {c : Addr} {f : Int → Nat} {m : Nat} (h : CntA H c f m) : nTup H c := by
  obtain ⟨kvs, e, d⟩ := h.at_
  exact ⟨_, e, (fun _ w => by cases w), (fun _ _ w => by cases w)⟩
theorem FndA.nt {d : Addr} (h : FndA K H d F) : nTup H d := by
  obtain ⟨kvs, e, t⟩ := h.at_
  exact ⟨_, e, (fun _ w => by cases w), (fun _ _ w => by cases w)⟩
theorem ne_sk {p r c r' : Addr} {n : Int} {ds : List PyData} (h : SideA K H p r c n) (k : StkA K H r' ds) : p ≠ r' := by
  obtain ⟨dx, e⟩ := h.ob
  obtain ⟨xs, g, _⟩ := k.at_
  exact ne_of e g (by intro w; cases w)
theorem ne_sc {p r c c' : Addr} {n : Int} {f : Int → Nat} {m : Nat} (h : SideA K H p r c n) (k : CntA H c' f m) : p ≠ c' := by
  obtain ⟨dx, e⟩ := h.ob
  obtain ⟨xs, g, _⟩ := k.at_
  exact ne_of e g (by intro w; cases w)
theorem ne_sf {p r c d : Addr} {n : Int} (h : SideA K H p r c n) (k : FndA K H d F) : p ≠ d := by
  obtain ⟨dx, e⟩ := h.ob
  obtain ⟨xs, g, _⟩ := k.at_
  exact ne_of e g (by intro w; cases w)
theorem ne_kc {r c : Addr} {ds : List PyData} {f : Int → Nat} {m : Nat} (h : StkA K H r ds) (k : CntA H c f m) : r ≠ c := by
  obtain ⟨dx, e, _⟩ := h.at_
  obtain ⟨xs, g, _⟩ := k.at_
  exact ne_of e g (by intro w; cases w)
theorem ne_kf {r d : Addr} {ds : List PyData} (h : StkA K H r ds) (k : FndA K H d F) : r ≠ d := by
  obtain ⟨dx, e, _⟩ := h.at_
  obtain ⟨xs, g, _⟩ := k.at_
  exact ne_of e g (by intro w; cases w)
theorem UH.same (u : UH K H o1 r1 c1 o2 r2 c2 z n1 n2 ds1 ds2 f1 f2 M1 M2 F) (s : Same H H') : UH K H' o1 r1 c1 o2 r2 c2 z n1 n2 ds1 ds2 f1 f2 M1 M2 F := by
  obtain ⟨x1, e1, d1⟩ := u.k1.at_
  obtain ⟨x2, e2, d2⟩ := u.k2.at_
  obtain ⟨y1, g1, m1⟩ := u.t1.at_
  obtain ⟨y2, g2, m2⟩ := u.t2.at_
  obtain ⟨y3, g3, m3⟩ := u.fd.at_
  obtain ⟨d3, i1⟩ := u.s1.ob
  obtain ⟨d4, i2⟩ := u.s2.ob
  exact ⟨⟨d3, s _ _ i1⟩, ⟨d4, s _ _ i2⟩, ⟨⟨x1, s _ _ e1, dp_sameAll s _ _ d1⟩, u.k1.nd⟩, ⟨⟨x2, s _ _ e2, dp_sameAll s _ _ d2⟩, u.k2.nd⟩, ⟨y1, s _ _ g1, m1⟩, ⟨y2, s _ _ g2, m2⟩, ⟨y3, s _ _ g3, tab_same s u.fn m3⟩, u.fn, u.oo, u.rr, u.cc, u.z1, u.z2⟩
theorem UH.stk1 {ds : List PyData} (u : UH K H o1 r1 c1 o2 r2 c2 z n1 n2 ds1 ds2 f1 f2 M1 M2 F) (h : But r1 H H') (k : StkA K H' r1 ds) : UH K H' o1 r1 c1 o2 r2 c2 z n1 n2 ds ds2 f1 f2 M1 M2 F := by
  have kp := KpP.sqL h
  have n := u.k1.nt
  have a1 := ne_sk u.s1 u.k1
  have a2 := ne_sk u.s2 u.k1
  have a3 := (ne_kc u.k1 u.t1).symm
  have a4 := (ne_kc u.k1 u.t2).symm
  have a5 := (ne_kf u.k1 u.fd).symm
  exact ⟨u.s1.kp kp a1 a1, u.s2.kp kp a2 a2, k, u.k2.kp kp n n u.rr.symm u.rr.symm, u.t1.kp kp a3 a3, u.t2.kp kp a4 a4, u.fd.kp u.fn kp n n a5 a5, u.fn, u.oo, u.rr, u.cc, u.z1, u.z2⟩
theorem UH.stk2 {ds : List PyData} (u : UH K H o1 r1 c1 o2 r2 c2 z n1 n2 ds1 ds2 f1 f2 M1 M2 F) (h : But r2 H H') (k : StkA K H' r2 ds) : UH K H' o1 r1 c1 o2 r2 c2 z n1 n2 ds1 ds f1 f2 M1 M2 F := by
  have kp := KpP.sqL h
  have n := u.k2.nt
  have a1 := ne_sk u.s1 u.k2
  have a2 := ne_sk u.s2 u.k2
  have a3 := (ne_kc u.k2 u.t1).symm
  have a4 := (ne_kc u.k2 u.t2).symm
  have a5 := (ne_kf u.k2 u.fd).symm
  exact ⟨u.s1.kp kp a1 a1, u.s2.kp kp a2 a2, u.k1.kp kp n n u.rr u.rr, k, u.t1.kp kp a3 a3, u.t2.kp kp a4 a4, u.fd.kp u.fn kp n n a5 a5, u.fn, u.oo, u.rr, u.cc, u.z1, u.z2⟩
theorem UH.bnd1 {n : Int} {f : Int → Nat} {m : Nat} (u : UH K H o1 r1 c1 o2 r2 c2 z n1 n2 ds1 ds2 f1 f2 M1 M2 F) (kp : KpP o1 c1 H H') (s : SideA K H' o1 r1 c1 n) (t : CntA H' c1 f m) : UH K H' o1 r1 c1 o2 r2 c2 z n n2 ds1 ds2 f f2 m M2 F := by
  have n := u.s1.nt
  have n' := u.t1.nt
  exact ⟨s, u.s2.kp kp u.oo.symm (ne_sc u.s2 u.t1), u.k1.kp kp n n' (ne_sk u.s1 u.k1).symm (ne_kc u.k1 u.t1), u.k2.kp kp n n' (ne_sk u.s1 u.k2).symm (ne_kc u.k2 u.t1), t, u.t2.kp kp (ne_sc u.s1 u.t2).symm u.cc.symm, u.fd.kp u.fn kp n n' (ne_sf u.s1 u.fd).symm u.z1, u.fn, u.oo, u.rr, u.cc, u.z1, u.z2⟩
theorem UH.bnd2 {n : Int} {f : Int → Nat} {m : Nat} (u : UH K H o1 r1 c1 o2 r2 c2 z n1 n2 ds1 ds2 f1 f2 M1 M2 F) (kp : KpP o2 c2 H H') (s : SideA K H' o2 r2 c2 n) (t : CntA H' c2 f m) : UH K H' o1 r1 c1 o2 r2 c2 z n1 n ds1 ds2 f1 f M1 m F := by
  have n := u.s2.nt
  have n' := u.t2.nt
  exact ⟨u.s1.kp kp u.oo (ne_sc u.s1 u.t2), s, u.k1.kp kp n n' (ne_sk u.s2 u.k1).symm (ne_kc u.k1 u.t2), u.k2.kp kp n n' (ne_sk u.s2 u.k2).symm (ne_kc u.k2 u.t2), u.t1.kp kp (ne_sc u.s2 u.t1).symm u.cc, t, u.fd.kp u.fn kp n n' (ne_sf u.s2 u.fd).symm u.z2, u.fn, u.oo, u.rr, u.cc, u.z1, u.z2⟩
theorem UH.put {kvs : List (Key × V)} {n : Int} {x : V} {v : List PyData} (u : UH K H o1 r1 c1 o2 r2 c2 z n1 n2 ds1 ds2 f1 f2 M1 M2 F) (hz : H z = some (.dK kvs)) (nk : n ∉ F.map (·.1)) (nv : ∀ d ∈ v, NdA d) (dv : Dp K H x (.tuple v)) : UH K (upd H z (.dK (putK kvs (Sum.inl n) x))) o1 r1 c1 o2 r2 c2 z n1 n2 ds1 ds2 f1 f2 M1 M2 (F ++ [(n, v)]) := by
  have kp : KpP z z H (upd H z (.dK (putK kvs (Sum.inl n) x))) := fun b o hb _ e => by rw [upd_ne hb]; exact e
  have nt : nTup H z := u.fd.nt
  have ntz : notTup H z := .inr (.inl ⟨_, hz⟩)
  obtain ⟨kvs', e, tk⟩ := u.fd.at_
  rw [hz] at e
  cases e
  have a1 := ne_sf u.s1 u.fd
  have a2 := ne_sf u.s2 u.fd
  have a3 := ne_kf u.k1 u.fd
  have a4 := ne_kf u.k2 u.fd
  exact ⟨u.s1.kp kp a1 a1, u.s2.kp kp a2 a2, u.k1.kp kp nt nt a3 a3, u.k2.kp kp nt nt a4 a4, u.t1.kp kp u.z1.symm u.z1.symm, u.t2.kp kp u.z2.symm u.z2.symm,
    ⟨_, upd_same, TabK.add (tab_put ntz u.fn tk) nk (dp_put ntz _ _ (tup_noL nv) dv)⟩, fun q hq => (List.mem_append.mp hq).elim (u.fn q) fun w => by rw [List.mem_singleton.mp w]; exact nv, u.oo, u.rr, u.cc, u.z1, u.z2⟩
end
/-- a term's beginning that is a term itself is the whole of it -/
theorem cls_pre : ∀ (p l : List PyData) (m : Nat), Cls m p → Cls m (p ++ l) → l = []
  | [], [], _, _, _ => rfl
  | [], d :: l, m, h1, h2 => by
    have h1 : m = 0 := h1
    have := h2.1
    omega
  | d :: p, l, m, h1, h2 => cls_pre p l _ h1.2 h2.2
theorem same_len {p l r : List PyData} (hl : Tms 1 (p ++ l)) (hr : Tms 1 (p ++ r)) (h : r = []) : l = [] := by
  subst h
  rw [List.append_nil] at hr
  exact cls_pre _ _ _ hr.1 hl.1
def sp_apply (K : PySem.W.Frag) : Sp := fun vs H Q _ => ∃ (p : Addr) (F : Tab) (x : V) (ds : List PyData), vs = [.ref p, x] ∧ FndA K H p F ∧ TabT F ∧ Dp K H x (.tuple ds) ∧ (∀ d ∈ ds, NdA d) ∧ (appM F ds).length ≤ 2000000 ∧ ∀ v H', Same H H' → Dp K H' v (.tuple (appM F ds)) → Q v H'
def sp_settle (K : PySem.W.Frag) : Sp := fun vs H Q _ => ∃ (d : Addr) (F T : Tab), vs = [.ref d] ∧ FndA K H d F ∧ Tri F T ∧ (T.map (·.1)).Nodup ∧ TabT T ∧ (∀ q ∈ T, q.2.length ≤ 100000) ∧ F.length ≤ 100000 ∧ ∀ p H', Same H H' → H p = Option.none → FndA K H' p T → Q (.ref p) H'
def uniQ (K : PySem.W.Frag) (H : Hp) (Q : VK) (E : XK) : Res → Prop
  | .non => ∀ H', Same H H' → Q .non H'
  | .big => ∀ H', Same H H' → E (.ref (clsA K "TooLarge")) Option.none H'
  | .tab T => ∀ d H', Same H H' → H d = Option.none → FndA K H' d T → Q (.ref d) H'
def sp_unify_within (K : PySem.W.Frag) : Sp := fun vs H Q E => ∃ (x y : V) (L R : List PyData) (m : Int) (k : Nat) (s : Res), vs = [x, y, .int m] ∧ Dp K H x (.tuple L) ∧ Dp K H y (.tuple R) ∧ Tms 1 L ∧ Tms 1 R ∧ L.length ≤ 1000 ∧ R.length ≤ 1000 ∧ 0 ≤ m ∧ m ≤ 1000 ∧
  Eg (max m.toNat (max L.length R.length)) k L R [] s ∧ k ≤ 2000 ∧ uniQ K H Q E s
def sp_unify (K : PySem.W.Frag) : Sp := fun vs H Q E => ∃ (x y : V) (L R : List PyData) (k : Nat) (s : Res), vs = [x, y] ∧ Dp K H x (.tuple L) ∧ Dp K H y (.tuple R) ∧ Tms 1 L ∧ Tms 1 R ∧ L.length ≤ 1000 ∧ R.length ≤ 1000 ∧
  Eg (max 200 (max L.length R.length)) k L R [] s ∧ k ≤ 2000 ∧ uniQ K H Q E s
/-! ### the law's own unification -/
def sy (x : Str) (n : Int) : PyData := .tuple [.str "f", .str x, .int n]
def dotN : PyData := sy "." 2
def nilN : PyData := sy "[]" 0
def lstR (rs : List (List PyData)) : List PyData := (rs.flatMap fun r => dotN :: r) ++ [nilN]
def Vf (d : PyData) : Prop := isVarN d = true ∨ isSymN d = true
theorem same_sqL {K : PySem.W.Frag} {H H' : Hp} {a : Addr} {xs : List V} (e : Same H H') (h : SqL K H a xs) : SqL K H' a xs := by
  rcases h with (h | ⟨p, h⟩) | h
  · exact .inl (.inl (e _ _ h))
  · exact .inl (.inr ⟨p, e _ _ h⟩)
  · exact .inr h
theorem sub1_cons (a : PyData) (l : List PyData) : ∃ t, sub1 (a :: l) = a :: t := by
  unfold sub1
  rw [tk_cons (by decide), Nat.add_comm, List.take_succ_cons]
  exact ⟨_, rfl⟩
theorem sub1_var {a : PyData} {l : List PyData} (ha : NdA a) (h : isVarN a = true) : sub1 (a :: l) = [a] := by
  rw [var_vN ha h, sub_var]
def vfS (e : PyData) : Str := if isVarN e = true then Str.ofString "v" else Str.ofString "f"
theorem dec_nm (e : PyData) : decide (vfS e = Str.ofString "v") = isVarN e := by
  unfold vfS
  by_cases h : isVarN e = true
  · rw [if_pos h, h]; exact decide_eq_true rfl
  · rw [if_neg h, Bool.eq_false_iff.mpr h]; decide +kernel
theorem dec_nv (e : PyData) : decide (V.str (vfS e) = V.str (Str.ofString "v")) = isVarN e := by
  unfold vfS
  by_cases h : isVarN e = true
  · rw [if_pos h, h]; exact decide_eq_true rfl
  · rw [if_neg h, Bool.eq_false_iff.mpr h]; decide +kernel
theorem FndA.same' {K : PySem.W.Frag} {H H' : Hp} {d : Addr} {F : Tab} (h : FndA K H d F) (n : TabN F) (s : Same H H') : FndA K H' d F := by
  obtain ⟨kvs, e, t⟩ := h.at_
  exact ⟨kvs, s _ _ e, tab_same s n t⟩
theorem keep_frz {H H' : Hp} {p : Addr} {k : List (Key × V)} (hp : H p = some (.dK k)) {o : HO} (s : Same (upd H p o) H') : Same H (upd H' p (.dK k)) := fun b o e => by
  by_cases z : b = p
  · subst z
    rw [hp] at e
    rw [upd_same]
    exact e
  · rw [upd_ne z]
    exact s _ _ (by rw [upd_ne z]; exact e)
/-! ### the promises -/
theorem drw {K : PySem.W.Frag} {H : Hp} {Q : VK} {E : XK} {s l : Addr} {n : Int} (S : Stm H s l) (h0 : 0 < n) (h1 : n ≤ 10 ^ 41) (q : ∀ r H', 0 ≤ r → r < n → But s H H' → Stm H' s l → Q (.int r) H') : sp__law_draw K ([V.ref s, .int n] ++ []) H Q E := ⟨s, l, n, rfl, S, h0, nine (by omega) h1, q⟩
/-- the two lists of rows, while they are made -/
def pp (k : Nat) : List PyData := [sy "p" 2, vN ((k : Int) + 1), vN ((k : Int) + 1)]
def cl (n : Nat) : List (List PyData) := (List.range n).map fun k => [vN (k : Nat)]
def cr (n : Nat) : List (List PyData) := (List.range n).map pp
def RowL (K : PySem.W.Frag) (H : Hp) (r : Addr) (rs : List (List PyData)) : Prop := ∃ xs, H r = some (.lst xs) ∧ DpAll K H xs (rs.map PyData.tuple)
structure RowsA (K : PySem.W.Frag) (H : Hp) (r1 r2 : Addr) (ls rs : List (List PyData)) : Prop where
  ne : r1 ≠ r2
  l : RowL K H r1 ls
  r : RowL K H r2 rs
theorem RowL.same {K : PySem.W.Frag} {H H' : Hp} {r : Addr} {rs : List (List PyData)} (h : RowL K H r rs) (s : Same H H') : RowL K H' r rs := by
  obtain ⟨xs, e, d⟩ := h
  exact ⟨xs, s _ _ e, dp_sameAll s _ _ d⟩
theorem RowsA.same {K : PySem.W.Frag} {H H' : Hp} {r1 r2 : Addr} {ls rs : List (List PyData)} (h : RowsA K H r1 r2 ls rs) (s : Same H H') : RowsA K H' r1 r2 ls rs := ⟨h.ne, h.l.same s, h.r.same s⟩
def NdR (rs : List (List PyData)) : Prop := ∀ r ∈ rs, ∀ d ∈ r, NdA d
theorem rows_noL' {rs : List (List PyData)} (h : NdR rs) : noLA (rs.map PyData.tuple) = true := by
  induction rs with
  | nil => rfl
  | cons r rs ih =>
    rw [List.map_cons, noLA, tup_noL (h r (.head _)), ih fun x hx => h x (.tail _ hx)]
    rfl
theorem NdR.snoc {rs : List (List PyData)} {r : List PyData} (h : NdR rs) (n : ∀ d ∈ r, NdA d) : NdR (rs ++ [r]) := fun x hx => by
  rcases List.mem_append.mp hx with hx | hx
  · exact h x hx
  · rw [List.mem_singleton.mp hx]; exact n
theorem RowL.add {K : PySem.W.Frag} {H : Hp} {r : Addr} {xs : List V} {v : V} {rs : List (List PyData)} {row : List PyData} (e : H r = some (.lst xs)) (d : DpAll K H xs (rs.map PyData.tuple)) (n : NdR rs) (dv : Dp K H v (.tuple row)) (nr : ∀ d ∈ row, NdA d) : RowL K (upd H r (.lst (xs ++ [v]))) r (rs ++ [row]) := by
  have nt : notTup H r := .inl ⟨_, e⟩
  refine ⟨_, upd_same, ?_⟩
  rw [List.map_append]
  exact dpAll_end (dp_putAll nt _ _ (rows_noL' n) d) (dp_put nt _ _ (tup_noL nr) dv)
theorem RowL.put {K : PySem.W.Frag} {H : Hp} {r p : Addr} {o : HO} {rs : List (List PyData)} (h : RowL K H r rs) (n : NdR rs) (nt : notTup H p) (ne : r ≠ p) : RowL K (upd H p o) r rs := by
  obtain ⟨xs, e, d⟩ := h
  exact ⟨xs, by rw [upd_ne ne]; exact e, dp_putAll nt _ _ (rows_noL' n) d⟩
theorem cl_succ (n : Nat) : cl (n + 1) = cl n ++ [[vN (n : Nat)]] := by
  unfold cl
  rw [List.range_succ, List.map_append]
  rfl
theorem cr_succ (n : Nat) : cr (n + 1) = cr n ++ [pp n] := by
  unfold cr
  rw [List.range_succ, List.map_append]
  rfl
theorem vN_nd (n : Nat) : NdA (vN (n : Nat)) := ⟨(n : Int) + 1, .v _ (by omega) (by omega)⟩
theorem sy_nd {x : Str} {n : Int} (h : Nd 10 (.tuple [.str "f", .str x, .int n])) : NdA (.tuple [.str "f", .str x, .int n]) := ⟨10, h⟩
theorem vN_row (n : Nat) : ∀ d ∈ [vN (n : Nat)], NdA d := fun d h => by rw [List.mem_singleton.mp h]; exact vN_nd n
theorem pp_nd (n : Nat) : ∀ d ∈ pp n, NdA d := fun d h => by
  rcases List.mem_cons.mp h with rfl | h
  · exact ⟨10, .f "p" 2 (by decide) (by decide) (by decide)⟩
  · rcases List.mem_cons.mp h with rfl | h
    · exact vN_nd (n + 1)
    · rw [List.mem_singleton.mp h]; exact vN_nd (n + 1)
theorem cl_nd (n : Nat) : NdR (cl n) := fun r hr => by
  obtain ⟨k, _, rfl⟩ := List.mem_map.mp hr
  exact vN_row k
theorem cr_nd (n : Nat) : NdR (cr n) := fun r hr => by
  obtain ⟨k, _, rfl⟩ := List.mem_map.mp hr
  exact pp_nd k
/-- rows that can be listed -/
structure Gd (m : Nat) (ls rs : List (List PyData)) : Prop where
  le : ls.length = rs.length
  len : ls.length ≤ m
  nl : ∀ r ∈ ls, Tms 1 r ∧ r.length ≤ 3 ∧ ∀ d ∈ r, Vf d
  nr : ∀ r ∈ rs, Tms 1 r ∧ r.length ≤ 3 ∧ ∀ d ∈ r, Vf d
theorem Gd.ndl {m : Nat} {ls rs : List (List PyData)} (h : Gd m ls rs) : NdR ls := fun r hr => (h.nl r hr).1.2
theorem Gd.ndr {m : Nat} {ls rs : List (List PyData)} (h : Gd m ls rs) : NdR rs := fun r hr => (h.nr r hr).1.2
theorem one_row {d : PyData} (n : NdA d) (a : arN d = 0) (v : Vf d) : Tms 1 [d] ∧ [d].length ≤ 3 ∧ ∀ e ∈ [d], Vf e :=
  ⟨⟨⟨Nat.le_refl _, by show 1 - 1 + arN d = 0; rw [a]⟩, fun e he => by rw [List.mem_singleton.mp he]; exact n⟩, by show 1 ≤ 3; decide, fun e he => by rw [List.mem_singleton.mp he]; exact v⟩
theorem pp_row (k : Nat) : Tms 1 (pp k) ∧ (pp k).length ≤ 3 ∧ ∀ e ∈ pp k, Vf e :=
  ⟨⟨⟨Nat.le_refl _, (by show 1 ≤ 2; decide), (by show 1 ≤ 1; decide), rfl⟩, pp_nd k⟩, Nat.le_refl _, fun e he => by
    rcases List.mem_cons.mp he with rfl | he
    · exact .inr rfl
    · rcases List.mem_cons.mp he with rfl | he
      · exact .inl rfl
      · rw [List.mem_singleton.mp he]; exact .inl rfl⟩
theorem rows_base (n : Nat) (h : n ≤ 12) : Gd 12 (cl n) (cr n) := ⟨by unfold cl cr; rw [List.length_map, List.length_map], by unfold cl; rw [List.length_map, List.length_range]; exact h, fun r hr => by
  obtain ⟨k, _, rfl⟩ := List.mem_map.mp hr
  exact one_row (vN_nd k) rfl (.inl rfl), fun r hr => by
  obtain ⟨k, _, rfl⟩ := List.mem_map.mp hr
  exact pp_row k⟩
theorem Gd.add {m : Nat} {ls rs : List (List PyData)} {x y : List PyData} (h : Gd m ls rs) (hx : Tms 1 x ∧ x.length ≤ 3 ∧ ∀ d ∈ x, Vf d) (hy : Tms 1 y ∧ y.length ≤ 3 ∧ ∀ d ∈ y, Vf d) : Gd (m + 1) (ls ++ [x]) (rs ++ [y]) :=
  ⟨by rw [List.length_append, List.length_append, h.le]; rfl, by rw [List.length_append]; exact Nat.add_le_add_right h.len 1, fun r hr => by
    rcases List.mem_append.mp hr with hr | hr
    · exact h.nl r hr
    · rw [List.mem_singleton.mp hr]; exact hx, fun r hr => by
    rcases List.mem_append.mp hr with hr | hr
    · exact h.nr r hr
    · rw [List.mem_singleton.mp hr]; exact hy⟩
theorem Gd.rev {m : Nat} {ls rs : List (List PyData)} (h : Gd m ls rs) : Gd m ls.reverse rs.reverse :=
  ⟨by rw [List.length_reverse, List.length_reverse]; exact h.le, by rw [List.length_reverse]; exact h.len, fun r hr => h.nl r (List.mem_reverse.mp hr), fun r hr => h.nr r (List.mem_reverse.mp hr)⟩
theorem Gd.up {m k : Nat} {ls rs : List (List PyData)} (h : Gd m ls rs) (e : m ≤ k) : Gd k ls rs := ⟨h.le, Nat.le_trans h.len e, h.nl, h.nr⟩
theorem Gd.pad {m k : Nat} {ls rs : List (List PyData)} {x : List PyData} (h : Gd m ls rs) (hx : Tms 1 x ∧ x.length ≤ 3 ∧ ∀ d ∈ x, Vf d) : Gd (k + m) (List.replicate k x ++ ls) (List.replicate k x ++ rs) :=
  ⟨by rw [List.length_append, List.length_append, h.le], by rw [List.length_append, List.length_replicate]; exact Nat.add_le_add_left h.len k, fun r hr => by
    rcases List.mem_append.mp hr with hr | hr
    · rw [(List.mem_replicate.mp hr).2]; exact hx
    · exact h.nl r hr, fun r hr => by
    rcases List.mem_append.mp hr with hr | hr
    · rw [(List.mem_replicate.mp hr).2]; exact hx
    · exact h.nr r hr⟩
/-- the stream's own list is no row -/
theorem RowL.but {K : PySem.W.Frag} {H H' : Hp} {s l r : Addr} {rs : List (List PyData)} (h : RowL K H r rs) (n : NdR rs) (S : Stm H s l) (b : But s H H') (ne : r ≠ s) : RowL K H' r rs := by
  obtain ⟨xs, e, d⟩ := h
  obtain ⟨x, y, m, ns, g, _⟩ := S.ex
  exact ⟨xs, b _ _ ne e, dp_mapAll (fun _ _ q => sqT_but (.inl ⟨_, g⟩) b q) _ _ (rows_noL' n) d⟩
theorem RowsA.but {K : PySem.W.Frag} {H H' : Hp} {s l r1 r2 : Addr} {ls rs : List (List PyData)} (h : RowsA K H r1 r2 ls rs) (n1 : NdR ls) (n2 : NdR rs) (S : Stm H s l) (b : But s H H') (ne1 : r1 ≠ s) (ne2 : r2 ≠ s) : RowsA K H' r1 r2 ls rs := ⟨h.ne, h.l.but n1 S b ne1, h.r.but n2 S b ne2⟩
theorem RowsA.add1 {K : PySem.W.Frag} {H : Hp} {r1 r2 : Addr} {ls rs : List (List PyData)} {xs : List V} {v : V} {row : List PyData} (h : RowsA K H r1 r2 ls rs) (n1 : NdR ls) (n2 : NdR rs) (e : H r1 = some (.lst xs)) (dv : Dp K H v (.tuple row)) (nr : ∀ d ∈ row, NdA d) : RowsA K (upd H r1 (.lst (xs ++ [v]))) r1 r2 (ls ++ [row]) rs :=
  ⟨h.ne, RowL.add e (by obtain ⟨ys, g, d⟩ := h.l; rw [e] at g; cases g; exact d) n1 dv nr, h.r.put n2 (.inl ⟨_, e⟩) h.ne.symm⟩
theorem RowsA.add2 {K : PySem.W.Frag} {H : Hp} {r1 r2 : Addr} {ls rs : List (List PyData)} {xs : List V} {v : V} {row : List PyData} (h : RowsA K H r1 r2 ls rs) (n1 : NdR ls) (n2 : NdR rs) (e : H r2 = some (.lst xs)) (dv : Dp K H v (.tuple row)) (nr : ∀ d ∈ row, NdA d) : RowsA K (upd H r2 (.lst (xs ++ [v]))) r1 r2 ls (rs ++ [row]) :=
  ⟨h.ne, h.l.put n1 (.inl ⟨_, e⟩) h.ne, RowL.add e (by obtain ⟨ys, g, d⟩ := h.r; rw [e] at g; cases g; exact d) n2 dv nr⟩
structure GdT (L : List PyData) : Prop where
  tm : Tms 1 L
  len : L.length ≤ 700
  vf : ∀ d ∈ L, Vf d
theorem lstR_cons (r : List PyData) (rs : List (List PyData)) : lstR (r :: rs) = dotN :: (r ++ lstR rs) := by
  unfold lstR
  rw [List.flatMap_cons, List.append_assoc]
  rfl
theorem lst_one : ∀ {rs : List (List PyData)}, (∀ r ∈ rs, Tms 1 r ∧ r.length ≤ 3 ∧ ∀ d ∈ r, Vf d) → Tms 1 (lstR rs) ∧ (lstR rs).length ≤ 4 * rs.length + 1 ∧ ∀ d ∈ lstR rs, Vf d
  | [], _ => ⟨⟨⟨Nat.le_refl _, rfl⟩, fun d hd => by rw [List.mem_singleton.mp hd]; exact ⟨10, .f "[]" 0 (by decide) (by decide) (by decide)⟩⟩, Nat.le_refl _, fun d hd => by rw [List.mem_singleton.mp hd]; exact .inr rfl⟩
  | r :: rs, h => by
    obtain ⟨h1, h2, h3⟩ := lst_one fun x hx => h x (.tail _ hx)
    obtain ⟨g1, g2, g3⟩ := h r (.head _)
    rw [lstR_cons]
    have ap := g1.app h1
    refine ⟨⟨⟨Nat.le_refl _, ap.1⟩, fun d hd => ?_⟩, ?_, fun d hd => ?_⟩
    · rcases List.mem_cons.mp hd with rfl | hd
      · exact ⟨10, .f "." 2 (by decide) (by decide) (by decide)⟩
      · exact ap.2 d hd
    · rw [List.length_cons, List.length_append, List.length_cons]; omega
    · rcases List.mem_cons.mp hd with rfl | hd
      · exact .inr rfl
      · exact (List.mem_append.mp hd).elim (g3 d) (h3 d)
theorem lst_gd {rs : List (List PyData)} (hl : rs.length ≤ 160) (h : ∀ r ∈ rs, Tms 1 r ∧ r.length ≤ 3 ∧ ∀ d ∈ r, Vf d) : GdT (lstR rs) :=
  ⟨(lst_one h).1, by have := (lst_one h).2.1; omega, (lst_one h).2.2⟩
theorem eg_tab {B : Nat} {k : Nat} {L R : List PyData} {T : Tab} {s : Res} (h : Eg B k L R T s) : Sol L R T → ∀ T', s = .tab T' → TabT T' ∧ (T'.map (·.1)).Nodup := by
  induction h with
  | done L T => intro S T' e; cases e; exact ⟨S.t, S.nd⟩
  | clash _ _ => intro _ _ e; cases e
  | occ _ _ _ => intro _ _ e; cases e
  | big _ _ _ _ => intro _ _ e; cases e
  | step _ h1 h2 _ _ ih => intro S T' e; exact ih (S.next (bind_ok S.l S.r h1 h2)) T' e
theorem nds_rf : ∀ {ds : List PyData}, (∀ d ∈ ds, NdA d) → PyData.eqvAll ds ds = true
  | [], _ => by simp [PyData.eqvAll]
  | d :: ds, h => by simp only [PyData.eqvAll, (eq_nd (h d (.head _)) (h d (.head _))).mpr rfl, nds_rf fun x hx => h x (.tail _ hx), Bool.and_self]
theorem tab_small {B : Nat} {k : Nat} {L R : List PyData} {T : Tab} {s : Res} (h : Eg B k L R T s) : Sol L R T → ∀ T', s = .tab T' → T'.length = T.length + k := by
  induction h with
  | done L T => intro S T' e; cases e; rfl
  | clash _ _ => intro _ _ e; cases e
  | occ _ _ _ => intro _ _ e; cases e
  | big _ _ _ _ => intro _ _ e; cases e
  | step _ h1 h2 _ _ ih =>
    intro S T' e
    rw [ih (S.next (bind_ok S.l S.r h1 h2)) T' e]
    unfold up1
    rw [List.length_append, List.length_map, List.length_singleton]
    omega
structure Fst (K : PySem.W.Frag) (H : Hp) (x : V) (e : PyData) (t : List PyData) (a b : Addr) (xs ys : List V) : Prop where
  eq : x = .ref a
  s1 : SqT K H a xs
  h1 : xs[0]? = some (.ref b)
  len : xs.length = t.length + 1
  s2 : SqT K H b ys
  nm : ys[0]? = some (.str (vfS e))
  num : isVarN e = true → ys[1]? = some (.int (numN e))
  dp : Dp K H (.ref b) e
theorem fst_of {K : PySem.W.Frag} {H : Hp} {x : V} {e : PyData} {t : List PyData} (h : Dp K H x (.tuple (e :: t))) (n : NdA e) (vf : Vf e) : ∃ a b xs ys, Fst K H x e t a b xs ys := by
  obtain ⟨a, xs, rfl, s1, d1⟩ := dp_tup h
  obtain ⟨w, hw, dw⟩ := DpAll.get (i := 0) d1 rfl
  have lx := DpAll.len d1
  obtain ⟨wd, nn⟩ := n
  cases nn with
  | i n _ _ => rcases vf with v | v <;> cases v
  | v n _ _ =>
    obtain ⟨b, ys, rfl, s2, d2⟩ := dp_tup dw
    obtain ⟨w0, hw0, dw0⟩ := DpAll.get (i := 0) d2 rfl
    obtain ⟨w1, hw1, dw1⟩ := DpAll.get (i := 1) d2 rfl
    cases dw0
    cases dw1
    exact ⟨a, b, xs, ys, rfl, s1, hw, lx, s2, hw0, fun _ => hw1, dw⟩
  | f y n _ _ _ =>
    obtain ⟨b, ys, rfl, s2, d2⟩ := dp_tup dw
    obtain ⟨w0, hw0, dw0⟩ := DpAll.get (i := 0) d2 rfl
    cases dw0
    exact ⟨a, b, xs, ys, rfl, s1, hw, lx, s2, hw0, (fun z => nomatch z), dw⟩
def halfT (f : List PyData → List PyData) (T : Tab) (i : Nat) : Tab := ((T.take i).map fun q => (q.1, f q.2)) ++ T.drop i
theorem half_step {f : List PyData → List PyData} {T : Tab} {i : Nat} {q : Int × List PyData} (nd : (T.map (·.1)).Nodup) (h : T[i]? = some q) : (halfT f T i).map (fun x => if x.1 = q.1 then (x.1, f q.2) else x) = halfT f T (i + 1) := by
  obtain ⟨hi, e⟩ := List.getElem?_eq_some_iff.mp h
  have eT : T = T.take i ++ q :: T.drop (i + 1) := by rw [← e, ← List.drop_eq_getElem_cons hi, List.take_append_drop]
  have ed : T.drop i = q :: T.drop (i + 1) := by rw [List.drop_eq_getElem_cons hi, e]
  have et : T.take (i + 1) = T.take i ++ [q] := by rw [List.take_add_one, h]; rfl
  have nA : ∀ x ∈ T.take i, x.1 ≠ q.1 := fun x hx w => by
    rw [eT, List.map_append, List.map_cons] at nd
    have := (List.nodup_append.mp nd).2.2 x.1 (List.mem_map.mpr ⟨x, hx, rfl⟩) q.1 (.head _)
    exact this w
  have nB : ∀ x ∈ T.drop (i + 1), x.1 ≠ q.1 := fun x hx w => by
    rw [eT, List.map_append, List.map_cons] at nd
    have := (List.nodup_cons.mp (List.nodup_append.mp nd).2.1).1
    exact this (by rw [← w]; exact List.mem_map.mpr ⟨x, hx, rfl⟩)
  unfold halfT
  rw [ed, et, List.map_append, List.map_map, List.map_cons, if_pos rfl, List.map_append, List.append_assoc]
  congr 1
  · refine List.map_congr_left fun x hx => ?_
    show (if x.1 = q.1 then _ else _) = _
    rw [if_neg (nA x hx)]
  · show _ = [(q.1, f q.2)] ++ _
    rw [show (T.drop (i + 1)).map (fun x => if x.1 = q.1 then (x.1, f q.2) else x) = T.drop (i + 1) from by
      rw [show T.drop (i + 1) = (T.drop (i + 1)).map id from (List.map_id _).symm]
      rw [List.map_map]
      refine List.map_congr_left fun x hx => ?_
      show (if x.1 = q.1 then _ else _) = _
      rw [if_neg (nB x hx)]]
    rfl
theorem half_keys (f : List PyData → List PyData) (T : Tab) (i : Nat) : (halfT f T i).map (·.1) = T.map (·.1) := by
  unfold halfT
  rw [List.map_append, List.map_map]
  show ((T.take i).map (·.1)) ++ _ = _
  rw [← List.map_append, List.take_append_drop]
theorem half_get {f : List PyData → List PyData} {T : Tab} {i : Nat} {q : Int × List PyData} (h : T[i]? = some q) : (halfT f T i)[i]? = some q := by
  unfold halfT
  have hi := (List.getElem?_eq_some_iff.mp h).1
  rw [List.getElem?_append_right (by rw [List.length_map, List.length_take]; omega), List.length_map, List.length_take, Nat.min_eq_left (by omega), Nat.sub_self, List.getElem?_drop]
  exact h
theorem half_all (f : List PyData → List PyData) (T : Tab) : halfT f T T.length = T.map fun q => (q.1, f q.2) := by
  unfold halfT
  rw [List.take_length, List.drop_length, List.append_nil]
theorem half_mem {f : List PyData → List PyData} {T : Tab} {i : Nat} {x : Int × List PyData} (h : x ∈ halfT f T i) : x ∈ T ∨ ∃ q ∈ T, x = (q.1, f q.2) := by
  rcases List.mem_append.mp h with h | h
  · obtain ⟨q, hq, e⟩ := List.mem_map.mp h
    exact .inr ⟨q, List.mem_of_mem_take hq, e.symm⟩
  · exact .inl (List.mem_of_mem_drop h)
theorem vf_bind {n : Int} {v ds : List PyData} (hv : ∀ d ∈ v, Vf d) (hd : ∀ d ∈ ds, Vf d) : ∀ d ∈ appM [(n, v)] ds, Vf d := fun d h => by
  obtain ⟨x, hx, h⟩ := List.mem_flatMap.mp h
  unfold appN at h
  split at h
  · split at h
    · rename_i w e
      rw [val_one] at e
      split at e
      · cases e; exact hv d h
      · cases e
    · rw [List.mem_singleton.mp h]; exact hd x hx
  · rw [List.mem_singleton.mp h]; exact hd x hx
theorem len_app {n : Int} {v ds : List PyData} (h1 : v.length ≤ 1000) (h2 : ds.length ≤ 1000) (hd : ∀ d ∈ ds, NdA d) : (appM [(n, v)] ds).length ≤ 2000000 := by
  have e := len_bind (n := n) (v := v) hd
  have c := cnt_le n ds
  have : (cntN n ds : Int) * ((v.length : Int) - 1) ≤ 1000 * 1000 := by
    rcases Int.le_total 0 ((v.length : Int) - 1) with w | w
    · exact Int.mul_le_mul (by omega) (by omega) w (by decide)
    · exact Int.le_trans (Int.mul_nonpos_of_nonneg_of_nonpos (by omega) w) (by decide)
  omega
def sp__law_apply (K : PySem.W.Frag) : Sp := sp_apply K
def sp__law_end (K : PySem.W.Frag) : Sp := fun vs H Q _ => ∃ (x : V) (ds : List PyData) (i k : Nat), vs = [x, .int i] ∧ Dp K H x (.tuple ds) ∧ (∀ d ∈ ds, NdA d) ∧ Cls (k + 1) (ds.drop i) ∧ Q (.int ((i + tk 1 (ds.drop i) : Nat) : Int)) H
def sp__law_list (K : PySem.W.Frag) : Sp := fun vs H Q E => ∃ (a : Addr) (xs : List V) (rs : List (List PyData)), vs = [.ref a] ∧ SqL K H a xs ∧ DpAll K H xs (rs.map PyData.tuple) ∧ (∀ r ∈ rs, ∀ d ∈ r, NdA d) ∧ (lstR rs).length ≤ 1000 ∧ ∀ v H', Same H H' → Dp K H' v (.tuple (lstR rs)) → Q v H'
def dueQ (K : PySem.W.Frag) (H : Hp) (Q : VK) : Res → Prop
  | .non => ∀ H', Same H H' → Q .non H'
  | .big => ∀ H', Same H H' → Q (.str "large") H'
  | .tab T => ∀ d H', Same H H' → H d = Option.none → FndA K H' d T → Q (.ref d) H'
def sp__law_due (K : PySem.W.Frag) : Sp := fun vs H Q E => ∃ (x y : V) (L R : List PyData) (k : Nat) (s : Res), vs = [x, y] ∧ Dp K H x (.tuple L) ∧ Dp K H y (.tuple R) ∧ Tms 1 L ∧ Tms 1 R ∧ L.length ≤ 1000 ∧ R.length ≤ 1000 ∧ (∀ d ∈ L, Vf d) ∧ (∀ d ∈ R, Vf d) ∧
  Eg (max 200 (max L.length R.length)) k L R [] s ∧ k ≤ 2000 ∧ dueQ K H Q s
def sp__law_unify (K : PySem.W.Frag) : Sp := fun vs H Q E => ∃ (x y : V) (L R : List PyData) (k : Nat) (s : Res), vs = [x, y] ∧ Dp K H x (.tuple L) ∧ Dp K H y (.tuple R) ∧ Tms 1 L ∧ Tms 1 R ∧ L.length ≤ 1000 ∧ R.length ≤ 1000 ∧
  Eg (max 200 (max L.length R.length)) k L R [] s ∧ k ≤ 2000 ∧ dueQ K H Q s
def sp_law (K : PySem.W.Frag) : Sp := fun vs H Q _ => ∃ (a : Addr) (ns : List Int), vs = [.ref a] ∧ SqL K H a (ns.map V.int) ∧ ns.length ≤ 63 ∧ ∀ H', Q (.bl true) H'

local macro_rules | `(tactic| walk_at "lits") => `(tactic| repeat' (first | exact lit_int | exact lit_str | exact lit_bl | exact lit_non | exact litA_nil | refine litA_cons ?_ ?_ | refine lit_tup ?_ (by decide) | refine lit_lst ?_ (by decide) | refine lit_neg ?_ | refine lit_sub ?_ ?_ | refine lit_pow ?_ ?_ ⟨by decide, by decide, by decide⟩ | refine lit_mulS ?_ ?_ ⟨by decide, by decide, by decide⟩))
local macro_rules | `(tactic| walk_at "gn") => `(tactic| with_reducible first | refine g_n0 ?_ | refine g_n1 ?_ | refine g_n2 ?_ | refine g_n3 ?_ | refine g_n4 ?_ | refine g_n5 ?_ | refine g_n6 ?_ | refine g_n7 ?_ | refine g_n8 ?_ | refine g_n9 ?_ | refine g_n10 ?_ | refine g_n11 ?_ | refine g_n12 ?_ | refine g_n13 ?_ | refine g_n14 ?_ | refine g_n15 ?_ | refine g_n16 ?_ | refine g_n17 ?_ | refine g_n18 ?_ | refine g_n19 ?_ | refine g_n20 ?_ | refine g_n21 ?_ | refine g_n22 ?_ | refine g_n23 ?_ | refine g_n24 ?_ | refine g_n25 ?_)
local macro_rules | `(tactic| walk_at "go") => `(tactic| repeat with_reducible first | refine g_var (by with_unfolding_all exact rfl) ?_ | refine g_c ?_ | refine g_cons ?_ | refine g_nil ?_ | refine g_seq ?_ | refine g_asg ?_ | refine g_op ?_ | refine g_i0 ?_ | refine g_call ?_ | refine g_cb ?_ | refine g_test ?_ | refine g_b ?_ | refine g_bl ?_ | refine g_in ?_ | refine g_ifS ?_ | refine g_next ?_ | refine nxp ?_ | refine g_ret ?_ | refine g_rt ?_ | refine g_bk ?_ | refine g_ct ?_ | refine g_drop ?_ | refine g_eqi ?_ | refine g_nei ?_ | refine g_eqs ?_ | refine g_nes ?_ | refine g_not ?_ | refine g_and ?_ | refine g_or ?_ | refine g_andV ?_ | refine g_orV ?_ | refine g_notV ?_ | refine g_if ?_ | refine g_brk ?_ | refine g_cont ?_ | refine g_retN ?_ | refine g_par ?_ | refine g_two ?_ | refine g_aug (by with_unfolding_all exact rfl) ?_ | refine g_callN ?_ | refine g_kw ?_ | refine g_tup ?_ | refine g_lst ?_ | refine g_sl ?_ | refine g_np ?_ | refine g_part ?_ | refine g_bm ?_ | refine g_bm0 ?_ | refine g_un ?_ | refine g_iu ?_ | refine g_sub ?_ | refine g_yes ?_ | refine iteT ?_ | refine iteF ?_ | refine iteNf ?_ | refine iteNt ?_ | refine iteSs ?_ | refine iteSn ?_ | refine g_for ?_ | refine g_iL ?_ | refine g_iT ?_ | refine g_iR1 ?_ | refine g_iR2 ?_ | refine g_iZ ?_ | refine g_gcons ?_ | refine g_gnil ?_ | refine g_lc ?_ | refine g_fld ?_ | refine g_sfld ?_ | refine g_afld ?_ | refine g_meth ?_ | refine g_make ?_ | refine g_revT ?_ | refine g_revL ?_ | refine g_din ?_ | refine g_dnin ?_ | refine g_dget ?_ | refine g_dget2 ?_ | refine g_dpop2 ?_ | refine g_dput ?_ | refine g_rev ?_ | refine g_dnew ?_ | refine g_callS ?_ | walk_at "gn")
local macro_rules | `(tactic| walk_at "gs") => `(tactic| repeat with_reducible first | refine g_var (by with_unfolding_all exact rfl) ?_ | refine g_c ?_ | refine g_cons ?_ | refine g_nil ?_ | refine g_seq ?_ | refine g_asg ?_ | refine g_op ?_ | refine g_i0 ?_ | refine g_call ?_ | refine g_cb ?_ | refine g_test ?_ | refine g_b ?_ | refine g_bl ?_ | refine g_in ?_ | refine g_next ?_ | refine nxp ?_ | refine g_ret ?_ | refine g_rt ?_ | refine g_bk ?_ | refine g_ct ?_ | refine g_drop ?_ | refine g_eqi ?_ | refine g_nei ?_ | refine g_eqs ?_ | refine g_nes ?_ | refine g_not ?_ | refine g_and ?_ | refine g_or ?_ | refine g_andV ?_ | refine g_orV ?_ | refine g_notV ?_ | refine g_if ?_ | refine g_brk ?_ | refine g_cont ?_ | refine g_retN ?_ | refine g_par ?_ | refine g_two ?_ | refine g_aug (by with_unfolding_all exact rfl) ?_ | refine g_callN ?_ | refine g_kw ?_ | refine g_tup ?_ | refine g_lst ?_ | refine g_sl ?_ | refine g_np ?_ | refine g_part ?_ | refine g_bm ?_ | refine g_bm0 ?_ | refine g_un ?_ | refine g_iu ?_ | refine g_sub ?_ | refine g_yes ?_ | refine iteT ?_ | refine iteF ?_ | refine iteNf ?_ | refine iteNt ?_ | refine iteSs ?_ | refine iteSn ?_ | refine g_for ?_ | refine g_iL ?_ | refine g_iT ?_ | refine g_iR1 ?_ | refine g_iR2 ?_ | refine g_iZ ?_ | refine g_gcons ?_ | refine g_gnil ?_ | refine g_lc ?_ | refine g_fld ?_ | refine g_sfld ?_ | refine g_afld ?_ | refine g_meth ?_ | refine g_make ?_ | refine g_revT ?_ | refine g_revL ?_ | refine g_din ?_ | refine g_dnin ?_ | refine g_dget ?_ | refine g_dget2 ?_ | refine g_dpop2 ?_ | refine g_dput ?_ | refine g_rev ?_ | refine g_dnew ?_ | refine g_callS ?_ | walk_at "gn")
section
variable {P : Program} {w : World} {K : PySem.W.Frag} {mg : Str → Option Value} {base : Heap}
theorem ok_is_variable {f : Addr} {fd : FuncData} (F : Fun K "is_variable" "is_variable" s_is_variable f fd) (E : Bi K mg)  : FnOk P w K mg base CX0 1 f fd ["node"] (sp_is_variable K) := by
  refine F.ok sc_is_variable (fun vs H Q E h => ?_) (fun cdv A outer s H vs Q E' hr h => ?_)
  · obtain ⟨x, d, rfl, _⟩ := h
    rfl
  · obtain ⟨x, d, rfl, hd, ⟨wd, nd⟩, q⟩ := h
    refine ⟨_, (pss_one (ps_ret (pe_and (pe_callB call_isi (by rfl) E.b_isinstance (by decide +kernel) (pa_cons (pv 0) (pa_cons (pe_ty "tuple" (by rfl) E.b_tuple (by decide +kernel)) pa_nil))) (pe_one (pe_cmpR op_eq (pe_ix ix_tup (pv 0) pe_int (fun _ _ => rfl)) pe_str (nomark _)))))), ?_⟩
    refine ⟨x, rfl, _, _, _, _, _, rfl, .ty _, tyx_of hd, kit_ty (kitT _), _, rfl, ?_⟩
    cases nd with
    | v n h1 h2 =>
      cases hd with
      | tup hs ha =>
        obtain ⟨v, hv, hdv⟩ := DpAll.get (i := 0) ha rfl
        cases hdv
        refine iteT ⟨_, rfl, _, _, _, _, rfl, rfl, hs, atI_nat (j := 0) hv, rfl, ?_⟩
        rw [decide_eq_true rfl]
        exact q
    | i n h1 h2 => exact iteF q
    | f y n h1 h2 h3 =>
      cases hd with
      | tup hs ha =>
        obtain ⟨v, hv, hdv⟩ := DpAll.get (i := 0) ha rfl
        cases hdv
        refine iteT ⟨_, rfl, _, _, _, _, rfl, rfl, hs, atI_nat (j := 0) hv, rfl, ?_⟩
        rw [show decide (V.str (Str.ofString "f") = V.str (Str.ofString "v")) = false by decide +kernel]
        exact q

theorem ok_is_symbol {f : Addr} {fd : FuncData} (F : Fun K "is_symbol" "is_symbol" s_is_symbol f fd) (E : Bi K mg)  : FnOk P w K mg base CX0 1 f fd ["node"] (sp_is_symbol K) := by
  refine F.ok sc_is_symbol (fun vs H Q E h => ?_) (fun cdv A outer s H vs Q E' hr h => ?_)
  · obtain ⟨x, d, rfl, _⟩ := h
    rfl
  · obtain ⟨x, d, rfl, hd, ⟨wd, nd⟩, q⟩ := h
    refine ⟨_, (pss_one (ps_ret (pe_and (pe_callB call_isi (by rfl) E.b_isinstance (by decide +kernel) (pa_cons (pv 0) (pa_cons (pe_ty "tuple" (by rfl) E.b_tuple (by decide +kernel)) pa_nil))) (pe_one (pe_cmpR op_eq (pe_ix ix_tup (pv 0) pe_int (fun _ _ => rfl)) pe_str (nomark _)))))), ?_⟩
    refine ⟨x, rfl, _, _, _, _, _, rfl, .ty _, tyx_of hd, kit_ty (kitT _), _, rfl, ?_⟩
    cases nd with
    | v n h1 h2 =>
      cases hd with
      | tup hs ha =>
        obtain ⟨v, hv, hdv⟩ := DpAll.get (i := 0) ha rfl
        cases hdv
        refine iteT ⟨_, rfl, _, _, _, _, rfl, rfl, hs, atI_nat (j := 0) hv, rfl, ?_⟩
        rw [show decide (V.str (Str.ofString "v") = V.str (Str.ofString "f")) = false by decide +kernel]
        exact q
    | i n h1 h2 => exact iteF q
    | f y n h1 h2 h3 =>
      cases hd with
      | tup hs ha =>
        obtain ⟨v, hv, hdv⟩ := DpAll.get (i := 0) ha rfl
        cases hdv
        refine iteT ⟨_, rfl, _, _, _, _, rfl, rfl, hs, atI_nat (j := 0) hv, rfl, ?_⟩
        rw [decide_eq_true rfl]
        exact q

theorem ok__law_stream {f : Addr} {fd : FuncData} (F : Fun K "_law_stream" "_law_stream" s__law_stream f fd) (E : Bi K mg)  : FnOk P w K mg base CX0 1 f fd ["script"] (sp__law_stream K) := by
  refine F.ok sc__law_stream (fun vs H Q E h => ?_) (fun cdv A outer s H vs Q E' hr h => ?_)
  · obtain ⟨a, ns, rfl, _⟩ := h
    rfl
  · obtain ⟨a, ns, rfl, hS, hl, q⟩ := h
    refine ⟨_, (pss_cons (ps_set (i := 1) sc__law_stream.nd rfl (Or.inl rfl) pe_int)
      (pss_cons (ps_for PassesOwn.never rfl (pi_list (pv 0)) (pg_name (i := 2) sc__law_stream.nd rfl (Or.inl rfl)) (pss_one (ps_set (i := 1) sc__law_stream.nd rfl (Or.inl rfl) (pe_op op_mod (pe_callTy call_int1 (by rfl) E.b_int (by decide +kernel) (pa_cons (pe_op op_add (pe_op op_add (pe_op op_mul (pv 1) pe_int) (pe_op op_mod (pe_callTy call_int1 (by rfl) E.b_int (by decide +kernel) (pa_cons (pv 2) pa_nil)) pe_int)) pe_int) pa_nil)) pe_int))))
      (pss_one (ps_ret (pe_lst (pa_cons (pe_callTy call_list_of (by rfl) E.b_list (by decide +kernel) (pa_cons (pv 0) pa_nil)) (pa_cons pe_int (pa_cons pe_int (pa_cons (pv 1) pa_nil))))))))), ?_⟩
    refine ⟨_, rfl, a, rfl, ⟨_, hS⟩, for_list (K := K) (a := a) (xs := ns.map V.int) (fun i σ H1 => ∃ (m : Int) (v : Option V), σ = [some (.ref a), some (.int m), v] ∧ H1 = H ∧ 0 ≤ m ∧ m < 2147483647)
      ⟨17, none, rfl, rfl, by decide, by decide⟩ (fun i σ H1 _ ⟨_, _, _, e, _⟩ => by rw [e]; exact hS) ?_ ?_⟩
    · rintro i y σ H1 hi ⟨m, v, rfl, rfl, h0, h1⟩
      obtain ⟨z, rfl⟩ : ∃ z, y = V.int z := by
        rw [List.getElem?_map] at hi
        cases e : ns[i]? with
        | none =>
          rw [e] at hi
          cases hi
        | some z =>
          rw [e] at hi
          exact ⟨z, (Option.some.inj hi).symm⟩
      refine ⟨_, rfl, _, _, rfl, rfl, .inr ⟨by decide, by decide⟩, _, rfl, .inl ⟨_, rfl, _, _, rfl, rfl, (by decide : (0 : Int) < 65521), _, _, rfl, rfl, _, _, rfl, rfl, .inl ⟨_, rfl, _, _, rfl, rfl, (by decide : (0 : Int) < 2147483647), ?_⟩⟩⟩
      exact ⟨_, _, rfl, rfl, Int.emod_nonneg _ (by decide), Int.emod_lt_of_pos _ (by decide)⟩
    · rintro σ H1 ⟨m, v, rfl, rfl, h0, h1⟩
      refine ⟨_, rfl, a, _, rfl, .inl hS, fun l hl2 => ⟨_, rfl, (by show 4 ≤ sizeLine; decide), fun p hp => ?_⟩⟩
      have npl : l ≠ p := fun z => by
        rw [← z, upd_same] at hp
        cases hp
      refine q p l _ ((same_upd hl2).free hp) hl2 ((same_upd hl2).trans (same_upd hp)) ⟨0, 0, m, ns, upd_same, ?_, hl, Int.le_refl 0, Int.le_refl 0, h0, h1⟩
      rw [upd_ne npl, upd_same]

theorem ok__law_draw {f : Addr} {fd : FuncData} (F : Fun K "_law_draw" "_law_draw" s__law_draw f fd) (E : Bi K mg)  : FnOk P w K mg base CX0 1 f fd ["stream", "many"] (sp__law_draw K) := by
  refine F.ok sc__law_draw (fun vs H Q E h => ?_) (fun cdv A outer s H vs Q E' hr h => ?_)
  · obtain ⟨s, l, n, rfl, _⟩ := h
    rfl
  · obtain ⟨p, l, n, rfl, hS, hn, hn2, q⟩ := h
    obtain ⟨a, b, m, ns, h1, h2, hlen, ha, hb, hm, hm2⟩ := hS.ex
    have nlp : l ≠ p := fun z => by
      rw [z, h1] at h2
      have h3 := HO.lst.inj (Option.some.inj h2)
      cases ns with
      | nil => cases h3
      | cons x r => cases (List.cons.inj h3).1
    refine ⟨_, (pss_cons (ps_if (pw_and (pt_cmpR op_eq (pe_ix ix_list (pv 0) pe_int (fun _ _ => rfl)) pe_int (nomark _)) (pw_and1 (pt_cmpR op_lt (pe_ix ix_list (pv 0) pe_int (fun _ _ => rfl)) (pe_callB call_len_seq (by rfl) E.b_len PySem.boot_len (pa_cons (pe_ix ix_list (pv 0) pe_int (fun _ _ => rfl)) pa_nil)) (nomark _)))).pt (pss_cons (ps_asg (pe_callB call_abs (by rfl) E.b_abs (by decide +kernel) (pa_cons (pe_callTy call_int1 (by rfl) E.b_int (by decide +kernel) (pa_cons (pe_ix ix_list (pe_ix ix_list (pv 0) pe_int (fun _ _ => rfl)) (pe_ix ix_list (pv 0) pe_int (fun _ _ => rfl)) (fun _ _ => rfl)) pa_nil)) pa_nil)) (pg_sub (pv 0) pe_int set_list))
      (pss_one (ps_asg (pe_op op_add (pe_ix ix_list (pv 0) pe_int (fun _ _ => rfl)) pe_int) (pg_sub (pv 0) pe_int set_list)))) pss_nil)
      (pss_cons (ps_if (pt_cmpR op_eq (pe_ix ix_list (pv 0) pe_int (fun _ _ => rfl)) pe_int (nomark _)) (pss_cons (ps_asg (pe_op op_mod (pe_callTy call_int1 (by rfl) E.b_int (by decide +kernel) (pa_cons (pe_op op_add (pe_op op_mul (pe_ix ix_list (pv 0) pe_int (fun _ _ => rfl)) pe_int) pe_int) pa_nil)) pe_int) (pg_sub (pv 0) pe_int set_list))
      (pss_one (ps_ret (pe_op op_mod (pe_callTy call_int1 (by rfl) E.b_int (by decide +kernel) (pa_cons (pe_op op_fdivW (pe_ix ix_list (pv 0) pe_int (fun _ _ => rfl)) pe_int) pa_nil)) (pv 1))))) pss_nil)
      (pss_cons (ps_set (i := 2) sc__law_draw.nd rfl (Or.inl rfl) (pe_op op_mod (pe_callTy call_int1 (by rfl) E.b_int (by decide +kernel) (pa_cons (pe_ix ix_list (pv 0) pe_int (fun _ _ => rfl)) pa_nil)) (pv 1)))
      (pss_cons (ps_asg (pe_op op_fdivW (pe_ix ix_list (pv 0) pe_int (fun _ _ => rfl)) (pv 1)) (pg_sub (pv 0) pe_int set_list))
      (pss_one (ps_ret (pv 2))))))), ?_⟩
    refine ⟨_, rfl, _, _, _, _, rfl, rfl, SqL.of h1, atI_nat (j := 1) rfl, rfl, _, rfl, ite2 (fun e => ?_) (fun e => ?_)⟩
    · refine ⟨_, rfl, _, _, _, _, rfl, rfl, SqL.of h1, atI_nat (j := 2) rfl, _, rfl, _, _, _, _, rfl, rfl, SqL.of h1, atI_nat (j := 0) rfl, _, _, rfl, .inl (SqL.of h2), _, _, rfl, rfl, _, rfl, ite2 (fun e1 => ?_) (fun e1 => ?_)⟩
      · have e2 : b < (ns.map V.int).length := of_decide_eq_true e1
        rw [List.length_map] at e2
        have hz : (ns.map V.int)[b.toNat]? = some (V.int (ns[b.toNat]'(by omega))) := by
          rw [List.getElem?_map, List.getElem?_eq_getElem (by omega)]
          rfl
        refine ⟨_, rfl, _, _, _, _, rfl, rfl, SqL.of h1, atI_nat (j := 0) rfl, _, rfl, _, _, _, _, rfl, rfl, SqL.of h1, atI_nat (j := 2) rfl, _, _, _, _, rfl, rfl, SqL.of h2, at_of (j := b.toNat) (by omega) hz, .inl ⟨_, rfl, _, rfl, _, rfl, _, _, _, _, rfl, rfl, h1, rfl, ?_⟩⟩
        refine ⟨_, rfl, _, _, _, _, rfl, rfl, SqL.of upd_same, atI_nat (j := 2) rfl, _, _, rfl, rfl, _, rfl, _, _, _, _, rfl, rfl, upd_same, rfl, ?_⟩
        generalize hH : upd _ p _ = H1
        have hX : ∃ a' b' : Int, H1 p = some (.lst [.ref l, .int a', .int b', .int m]) ∧ 0 ≤ a' ∧ 0 ≤ b' := ⟨_, _, by rw [← hH]; exact upd_same, by split <;> omega, by omega⟩
        have hB : But p H H1 := by rw [← hH]; exact But.put.trans But.put
        have hL : H1 l = some (.lst (ns.map V.int)) := hB l _ nlp h2
        clear hH
        obtain ⟨a', b', hX, ha', hb'⟩ := hX
        refine ⟨_, rfl, _, _, _, _, rfl, rfl, SqL.of hX, atI_nat (j := 1) rfl, rfl, _, rfl, ite2 (fun e3 => ?_) (fun e3 => ?_)⟩
        · refine ⟨_, rfl, _, _, _, _, rfl, rfl, SqL.of hX, atI_nat (j := 3) rfl, _, _, rfl, rfl, .inr ⟨by decide, by decide⟩, _, _, rfl, rfl, .inl ⟨_, rfl, _, _, rfl, rfl, (by decide : (0 : Int) < 2147483647), _, rfl, _, _, _, _, rfl, rfl, hX, rfl, ?_⟩⟩
          refine ⟨_, rfl, _, _, _, _, rfl, rfl, SqL.of upd_same, atI_nat (j := 3) rfl, _, _, rfl, rfl, wide_div (b := 64) (by decide) (by decide) (by decide) (by decide), .inl ⟨_, rfl, _, rfl, _, _, rfl, rfl, hn, ?_⟩⟩
          exact q _ _ (Int.emod_nonneg _ (by omega)) (Int.emod_lt_of_pos _ hn) (hB.trans But.put) ⟨a', b', _, ns, upd_same, by rw [upd_ne nlp]; exact hL, hlen, ha', hb', Int.emod_nonneg _ (by decide), Int.emod_lt_of_pos _ (by decide)⟩
        · refine ⟨_, rfl, _, _, _, _, rfl, rfl, SqL.of hX, atI_nat (j := 1) rfl, .inl ⟨_, rfl, _, rfl, _, _, rfl, rfl, hn, ?_⟩⟩
          refine ⟨_, rfl, _, _, _, _, rfl, rfl, SqL.of hX, atI_nat (j := 1) rfl, _, rfl, _, _, rfl, rfl, wide_div hn hn2 (by decide) (by decide), _, rfl, _, _, _, _, rfl, rfl, hX, rfl, ?_⟩
          refine ⟨_, rfl, ?_⟩
          exact q _ _ (Int.emod_nonneg _ (by omega)) (Int.emod_lt_of_pos _ hn) (hB.trans But.put) ⟨_, b', m, ns, upd_same, by rw [upd_ne nlp]; exact hL, hlen, Int.ediv_nonneg ha' (by omega), hb', hm, hm2⟩
      · have hX : ∃ a' b' : Int, H p = some (.lst [.ref l, .int a', .int b', .int m]) ∧ 0 ≤ a' ∧ 0 ≤ b' := ⟨_, _, h1, ha, hb⟩
        have hB : But p H H := But.refl p H
        have hL := h2
        obtain ⟨a', b', hX, ha', hb'⟩ := hX
        refine ⟨_, rfl, _, _, _, _, rfl, rfl, SqL.of hX, atI_nat (j := 1) rfl, rfl, _, rfl, ite2 (fun e3 => ?_) (fun e3 => ?_)⟩
        · refine ⟨_, rfl, _, _, _, _, rfl, rfl, SqL.of hX, atI_nat (j := 3) rfl, _, _, rfl, rfl, .inr ⟨by decide, by decide⟩, _, _, rfl, rfl, .inl ⟨_, rfl, _, _, rfl, rfl, (by decide : (0 : Int) < 2147483647), _, rfl, _, _, _, _, rfl, rfl, hX, rfl, ?_⟩⟩
          refine ⟨_, rfl, _, _, _, _, rfl, rfl, SqL.of upd_same, atI_nat (j := 3) rfl, _, _, rfl, rfl, wide_div (b := 64) (by decide) (by decide) (by decide) (by decide), .inl ⟨_, rfl, _, rfl, _, _, rfl, rfl, hn, ?_⟩⟩
          exact q _ _ (Int.emod_nonneg _ (by omega)) (Int.emod_lt_of_pos _ hn) (hB.trans But.put) ⟨a', b', _, ns, upd_same, by rw [upd_ne nlp]; exact hL, hlen, ha', hb', Int.emod_nonneg _ (by decide), Int.emod_lt_of_pos _ (by decide)⟩
        · refine ⟨_, rfl, _, _, _, _, rfl, rfl, SqL.of hX, atI_nat (j := 1) rfl, .inl ⟨_, rfl, _, rfl, _, _, rfl, rfl, hn, ?_⟩⟩
          refine ⟨_, rfl, _, _, _, _, rfl, rfl, SqL.of hX, atI_nat (j := 1) rfl, _, rfl, _, _, rfl, rfl, wide_div hn hn2 (by decide) (by decide), _, rfl, _, _, _, _, rfl, rfl, hX, rfl, ?_⟩
          refine ⟨_, rfl, ?_⟩
          exact q _ _ (Int.emod_nonneg _ (by omega)) (Int.emod_lt_of_pos _ hn) (hB.trans But.put) ⟨_, b', m, ns, upd_same, by rw [upd_ne nlp]; exact hL, hlen, Int.ediv_nonneg ha' (by omega), hb', hm, hm2⟩
    · have hX : ∃ a' b' : Int, H p = some (.lst [.ref l, .int a', .int b', .int m]) ∧ 0 ≤ a' ∧ 0 ≤ b' := ⟨_, _, h1, ha, hb⟩
      have hB : But p H H := But.refl p H
      have hL := h2
      obtain ⟨a', b', hX, ha', hb'⟩ := hX
      refine ⟨_, rfl, _, _, _, _, rfl, rfl, SqL.of hX, atI_nat (j := 1) rfl, rfl, _, rfl, ite2 (fun e3 => ?_) (fun e3 => ?_)⟩
      · refine ⟨_, rfl, _, _, _, _, rfl, rfl, SqL.of hX, atI_nat (j := 3) rfl, _, _, rfl, rfl, .inr ⟨by decide, by decide⟩, _, _, rfl, rfl, .inl ⟨_, rfl, _, _, rfl, rfl, (by decide : (0 : Int) < 2147483647), _, rfl, _, _, _, _, rfl, rfl, hX, rfl, ?_⟩⟩
        refine ⟨_, rfl, _, _, _, _, rfl, rfl, SqL.of upd_same, atI_nat (j := 3) rfl, _, _, rfl, rfl, wide_div (b := 64) (by decide) (by decide) (by decide) (by decide), .inl ⟨_, rfl, _, rfl, _, _, rfl, rfl, hn, ?_⟩⟩
        exact q _ _ (Int.emod_nonneg _ (by omega)) (Int.emod_lt_of_pos _ hn) (hB.trans But.put) ⟨a', b', _, ns, upd_same, by rw [upd_ne nlp]; exact hL, hlen, ha', hb', Int.emod_nonneg _ (by decide), Int.emod_lt_of_pos _ (by decide)⟩
      · refine ⟨_, rfl, _, _, _, _, rfl, rfl, SqL.of hX, atI_nat (j := 1) rfl, .inl ⟨_, rfl, _, rfl, _, _, rfl, rfl, hn, ?_⟩⟩
        refine ⟨_, rfl, _, _, _, _, rfl, rfl, SqL.of hX, atI_nat (j := 1) rfl, _, rfl, _, _, rfl, rfl, wide_div hn hn2 (by decide) (by decide), _, rfl, _, _, _, _, rfl, rfl, hX, rfl, ?_⟩
        refine ⟨_, rfl, ?_⟩
        exact q _ _ (Int.emod_nonneg _ (by omega)) (Int.emod_lt_of_pos _ hn) (hB.trans But.put) ⟨_, b', m, ns, upd_same, by rw [upd_ne nlp]; exact hL, hlen, Int.ediv_nonneg ha' (by omega), hb', hm, hm2⟩

theorem ok__law_apply {f : Addr} {fd : FuncData} (F : Fun K "_law_apply" "_law_apply" s__law_apply f fd) (E : Bi K mg)  : FnOk P w K mg base CX0 1 f fd ["table", "term"] (sp__law_apply K) := by
  refine F.ok sc__law_apply (fun vs H Q E h => ?_) (fun cdv A outer s H vs Q E' hr h => ?_)
  · obtain ⟨p, F, x, ds, rfl, _⟩ := h
    rfl
  · obtain ⟨p, F, x, ds, rfl, hf, ht, dx, nd, hl, q⟩ := h
    refine ⟨_, (pss_cons (ps_set (i := 2) sc__law_apply.nd rfl (Or.inl rfl) (pe_lst pa_nil))
      (pss_cons (ps_for PassesOwn.never rfl (pi_tup (pv 1)) (pg_name (i := 3) sc__law_apply.nd rfl (Or.inl rfl)) (pss_one (ps_if (pw_and (pt_val (pe_callB call_isi (by rfl) E.b_isinstance (by decide +kernel) (pa_cons (pv 3) (pa_cons (pe_ty "tuple" (by rfl) E.b_tuple (by decide +kernel)) pa_nil)))) (pw_and (pt_cmpR op_eq (pe_ix ix_tup (pv 3) pe_int (fun _ _ => rfl)) pe_str (nomark _)) (pw_and1 (pt_cmp (pc_din (hu_of hr) (pe_ix ix_tup (pv 3) pe_int (fun _ _ => rfl)) (pv 0)))))).pt (pss_one (ps_for PassesOwn.never rfl (pi_tup (pe_dget (hu_of hr) (pv 0) (pe_ix ix_tup (pv 3) pe_int (fun _ _ => rfl)) (fun _ _ => rfl))) (pg_name (i := 4) sc__law_apply.nd rfl (Or.inl rfl)) (pss_one (ps_expr (pe_bm PySem.F.plainAttrs_list PySem.F.slot_list_append PySem.F.type_list_append mt_append (pv 2) (pa_cons (pv 4) pa_nil)))))) (pss_one (ps_expr (pe_bm PySem.F.plainAttrs_list PySem.F.slot_list_append PySem.F.type_list_append mt_append (pv 2) (pa_cons (pv 3) pa_nil)))))))
      (pss_one (ps_ret (pe_callTy call_tuple_of (by rfl) E.b_tuple (by decide +kernel) (pa_cons (pv 2) pa_nil)))))), ?_⟩
    refine st_of (σ := [some _, some _, none, none, none]) rfl ?_
    walk_at "go"
    obtain ⟨kvs, hp0, tk0⟩ := hf.at_
    cases id dx with
    | @tup a xs _ sx ax =>
    have lx := DpAll.len ax
    refine newN rfl (by decide) fun r nr => ?_
    have pr : p ≠ r := ne_of_none hp0 nr
    walk_at "go"
    have pre : ∀ i, (appM F (ds.take i)).length ≤ 2000000 := fun i => by
      have e : appM F ds = appM F (ds.take i) ++ appM F (ds.drop i) := by rw [← appM_app, List.take_append_drop]
      rw [e, List.length_append] at hl
      omega
    refine ⟨a, rfl, ⟨_, same_sqT (same_upd nr) sx⟩, for_tup (K := K) (a := a) (xs := xs) (fun i σ H' => ∃ (v3 v4 : Option V) (ys : List V), σ = [some (.ref p), some (.ref a), some (.ref r), v3, v4] ∧ H' r = some (.lst ys) ∧ DpAll K H' ys (appM F (ds.take i)) ∧ Same H H')
      ⟨none, none, [], rfl, upd_same, .nil, same_upd nr⟩ (fun i σ H' _ ⟨_, _, _, _, _, _, s⟩ => same_sqT s sx) ?_ ?_⟩
    · rintro i z σ H1 hz ⟨v3, v4, ys, rfl, hr1, dy, s1⟩
      obtain ⟨d, hd, dz0⟩ := DpAll.getV ax hz
      have ndd := nd d (List.mem_of_getElem? hd)
      have dz := dp_same s1 _ _ dz0
      have ly := DpAll.len dy
      have step := appM_take (t := F) hd
      have ndp : ∀ y ∈ appM F (ds.take i), NdA y := appM_nd ht.nd fun y hy => nd y (List.mem_of_mem_take hy)
      have put : ∀ (ws : List V) (es : List PyData), (∀ y ∈ es, NdA y) → DpAll K H1 ws es → DpAll K (upd H1 r (.lst (ys ++ ws))) (ys ++ ws) (appM F (ds.take i) ++ es) := fun ws es hes dw => by
        have ntr : notTup H1 r := .inl ⟨_, hr1⟩
        exact DpAll.app (dp_putAll ntr _ _ (nds_noL ndp) dy) (dp_putAll ntr _ _ (nds_noL hes) dw)
      have keep : ∀ o, Same H (upd H1 r o) := fun o b u e => by rw [upd_ne (ne_of_none e nr)]; exact s1 _ _ e
      walk_at "gs"
      refine ifc (isVarN d && (valT F (numN d)).isSome) (fun QT hQ => ?_) (fun hA => ?_) (fun hB => ?_)
      · walk_at "go"
        refine isi_tup dz ?_
        walk_at "go"
        obtain ⟨wd, nn⟩ := id ndd
        cases nn with
        | i n h1 h2 =>
          walk_at "go"
          exact iteF hQ
        | f y n h1 h2 h3 =>
          obtain ⟨b, xs', rfl, sq, ax'⟩ := dp_tup dz
          obtain ⟨w0, hw0, dw0⟩ := DpAll.get (i := 0) ax' rfl
          cases dw0
          walk_at "go"
          refine iteT ?_
          walk_at "go"
          refine ixT (j := 0) sq hw0 ?_
          walk_at "go"
          exact hQ
        | v n h1 h2 =>
          obtain ⟨b, xs', rfl, sq, ax'⟩ := dp_tup dz
          obtain ⟨w0, hw0, dw0⟩ := DpAll.get (i := 0) ax' rfl
          obtain ⟨w1, hw1, dw1⟩ := DpAll.get (i := 1) ax' rfl
          cases dw0
          cases dw1
          walk_at "go"
          refine iteT ?_
          walk_at "go"
          refine ixT (j := 0) sq hw0 ?_
          walk_at "go"
          refine iteT ?_
          walk_at "go"
          refine ixT (j := 1) sq hw1 ?_
          walk_at "go"
          refine ⟨p, _, rfl, DGet.k (k := Sum.inl n) (s1 _ _ hp0), ?_⟩
          rcases TabK.val n (tab_same s1 ht.nd tk0) with ⟨w1, w2⟩ | ⟨u, w, w1, w2, dw⟩
          · rw [w1]
            rw [show valT F (numN (.tuple [.str "v", .int n])) = none from w2] at hQ
            walk_at "go"
            exact hQ
          · rw [w1]
            rw [show valT F (numN (.tuple [.str "v", .int n])) = some w from w2] at hQ
            walk_at "go"
            exact hQ
      · rw [Bool.and_eq_true] at hA
        obtain ⟨n, n0, rfl⟩ := var_num ndd hA.1
        obtain ⟨b, xs', rfl, sq, ax'⟩ := dp_tup dz
        obtain ⟨w1, hw1, dw1⟩ := DpAll.get (i := 1) ax' rfl
        cases dw1
        rcases TabK.val n (tab_same s1 ht.nd tk0) with ⟨w1, w2⟩ | ⟨u, w, w1, w2, dw⟩
        · rw [show valT F (numN (.tuple [.str "v", .int n])) = none from w2] at hA
          cases hA.2
        have tw := valT_tm ht w2
        obtain ⟨ua, us, rfl, su, au⟩ := dp_tup dw
        walk_at "go"
        refine ixT (j := 1) sq hw1 ?_
        refine ⟨p, _, rfl, by have := DGet.k (k := Sum.inl n) (s1 _ _ hp0); rw [w1] at this; exact this, ?_⟩
        have p1 := pre (i + 1)
        have lu := DpAll.len au
        rw [step, appN_in w2, List.length_append] at p1
        refine ⟨ua, rfl, ⟨_, su⟩, for_tup (K := K) (a := ua) (xs := us) (fun j σ H' => ∃ (v4 : Option V) (zs : List V), σ = [some (.ref p), some (.ref a), some (.ref r), some (.ref b), v4] ∧ H' r = some (.lst zs) ∧ DpAll K H' zs (appM F (ds.take i) ++ w.take j) ∧ Same H H' ∧ SqT K H' ua us ∧ DpAll K H' us w)
          ⟨_, ys, rfl, hr1, by rw [List.take_zero, List.append_nil]; exact dy, s1, su, au⟩ (fun j σ H' _ ⟨_, _, _, _, _, _, s, _⟩ => s) ?_ ?_⟩
        · rintro j z2 σ H2 hz2 ⟨v5, zs, rfl, hr2, dz2, s2, su2, au2⟩
          obtain ⟨d2, hd2, dd2⟩ := DpAll.getV au2 hz2
          have lz := DpAll.len dz2
          rw [List.length_append, List.length_take] at lz
          have nd2 := tw.2 d2 (List.mem_of_getElem? hd2)
          walk_at "go"
          refine tyl (SqL.of hr2) ?_
          walk_at "go"
          refine rap hr2 (by omega) ?_
          walk_at "go"
          have ntr : notTup H2 r := .inl ⟨_, hr2⟩
          have keep2 : Same H (upd H2 r (.lst (zs ++ [z2]))) := fun b u e => by rw [upd_ne (ne_of_none e nr)]; exact s2 _ _ e
          refine ⟨_, zs ++ [z2], rfl, upd_same, ?_, keep2, sqT_put ntr su2, dp_putAll ntr _ _ (nds_noL tw.2) au2⟩
          rw [List.take_add_one, hd2, ← List.append_assoc]
          exact dpAll_end (dp_putAll ntr _ _ (nds_noL fun y hy => (List.mem_append.mp hy).elim (ndp y) fun q => tw.2 y (List.mem_of_mem_take q)) dz2) (dp_put ntr _ _ (nd_noL nd2) dd2)
        · rintro σ H2 ⟨v5, zs, rfl, hr2, dz2, s2, su2, au2⟩
          rw [lu, List.take_length] at dz2
          walk_at "go"
          refine ⟨_, _, zs, rfl, hr2, ?_, s2⟩
          rw [step, appN_in w2]
          exact dz2
      · have ea : appN F d = [d] := by
          by_cases iv : isVarN d = true
          · obtain ⟨n, n0, rfl⟩ := var_num ndd iv
            rw [iv, Bool.true_and] at hB
            refine appN_out ?_
            cases e : valT F n with
            | none => rfl
            | some w => rw [show valT F (numN (.tuple [.str "v", .int n])) = some w from e] at hB; cases hB
          · exact appN_non iv
        walk_at "go"
        refine tyl (SqL.of hr1) ?_
        walk_at "go"
        have := pre i
        refine rap hr1 (by omega) ?_
        walk_at "go"
        refine ⟨_, _, ys ++ [z], rfl, upd_same, ?_, keep _⟩
        rw [step, ea]
        exact put [z] [d] (fun y hy => by rw [List.mem_singleton.mp hy]; exact ndd) (.cons dz .nil)
    · rintro σ H1 ⟨v3, v4, ys, rfl, hr1, dy, s1⟩
      walk_at "go"
      rw [List.take_of_length_le (by omega)] at dy
      refine ⟨_, _, rfl, .inl ⟨SqL.of hr1, fun t nt => ?_⟩⟩
      have st := same_upd (o := .tup ys) nt
      exact q (.ref t) _ (s1.trans st) (.tup (SqT.of upd_same) (dp_sameAll st _ _ dy))

theorem ok__law_end {f : Addr} {fd : FuncData} (F : Fun K "_law_end" "_law_end" s__law_end f fd) (E : Bi K mg)  : FnOk P w K mg base CX0 1 f fd ["term", "at"] (sp__law_end K) := by
  refine F.ok sc__law_end (fun vs H Q E h => ?_) (fun cdv A outer s H vs Q E' hr h => ?_)
  · obtain ⟨x, ds, i, k, rfl, _⟩ := h
    rfl
  · obtain ⟨x, ds, i, k, rfl, hd, hn, hc, q⟩ := h
    refine ⟨_, (pss_cons (ps_set (i := 2) sc__law_end.nd rfl (Or.inl rfl) pe_int)
      (pss_cons (ps_while PassesOwn.never (pt_cmpR op_gt (pv 2) pe_int (nomark _)) (pss_cons (ps_set (i := 2) sc__law_end.nd rfl (Or.inl rfl) (pe_op op_sub (pv 2) pe_int))
      (pss_cons (ps_set (i := 3) sc__law_end.nd rfl (Or.inl rfl) (pe_ix ix_tup (pv 0) (pv 1) (fun _ _ => rfl)))
      (pss_cons (ps_set (i := 1) sc__law_end.nd rfl (Or.inl rfl) (pe_op op_add (pv 1) pe_int))
      (pss_one (ps_if (pw_and (pt_val (pe_callB call_isi (by rfl) E.b_isinstance (by decide +kernel) (pa_cons (pv 3) (pa_cons (pe_ty "tuple" (by rfl) E.b_tuple (by decide +kernel)) pa_nil)))) (pw_and1 (pt_cmpR op_eq (pe_ix ix_tup (pv 3) pe_int (fun _ _ => rfl)) pe_str (nomark _)))).pt (pss_one (ps_set (i := 2) sc__law_end.nd rfl (Or.inl rfl) (pe_op op_add (pv 2) (pe_ix ix_tup (pv 3) pe_int (fun _ _ => rfl))))) pss_nil))))))
      (pss_one (ps_ret (pv 1))))), ?_⟩
    obtain ⟨a, xs, rfl, hs, ha⟩ := dp_tup hd
    refine st_of (σ := [some _, some _, none, none]) rfl ?_
    walk_at "go"
    refine while_m (fun n σ H' => ∃ (m j kk : Nat) (vn : Option V), σ = [some (.ref a), some (.int (j : Int)), some (.int (m : Int)), vn] ∧ H' = H ∧ Cls kk (ds.drop j) ∧ m ≤ kk ∧ j + tk m (ds.drop j) = i + tk 1 (ds.drop i) ∧ n = ds.length - j)
      ⟨_, 1, i, k + 1, none, rfl, rfl, hc, by omega, rfl, rfl⟩ ?_
    rintro n σ H1 ⟨m, j, kk, vn, rfl, rfl, h1, h2, h3, rfl⟩
    walk_at "go"
    refine ite2 (fun e => ?_) (fun e => ?_)
    · refine while_n ?_
      have hm : 0 < m := by
        have := of_decide_eq_true e
        omega
      cases hl : ds.drop j with
      | nil =>
        rw [hl] at h1
        have : kk = 0 := h1
        omega
      | cons d r =>
        rw [hl] at h1 h3
        have hj : j < ds.length := by
          rcases Nat.lt_or_ge j ds.length with h | h
          · exact h
          · rw [List.drop_of_length_le h] at hl; cases hl
        have hdj : ds[j]? = some d := by
          rw [← List.head?_drop, hl]
          rfl
        have hr : ds.drop (j + 1) = r := by
          rw [← List.drop_drop, hl]
          rfl
        obtain ⟨v, hv, hdv⟩ := DpAll.get ha hdj
        have fin : ∃ (m' kk' : Nat), (m' : Int) = (m : Int) - 1 + arN d ∧ Cls kk' (ds.drop (j + 1)) ∧ m' ≤ kk' ∧ j + 1 + tk m' (ds.drop (j + 1)) = i + tk 1 (ds.drop i) := by
          refine ⟨m - 1 + arN d, kk - 1 + arN d, by omega, by rw [hr]; exact h1.2, by omega, ?_⟩
          rw [tk_cons hm] at h3
          rw [hr]
          omega
        obtain ⟨m', kk', em, g3, g4, g5⟩ := fin
        walk_at "go"
        refine ixT (j := j) hs hv ?_
        walk_at "go"
        obtain ⟨wd, nn⟩ := hn d (List.mem_of_getElem? hdj)
        refine isi_tup hdv ?_
        cases nn with
        | i n z1 z2 =>
          walk_at "go"
          refine iteF ?_
          walk_at "go"
          exact ⟨_, by omega, m', j + 1, kk', _, by show _ = [some (V.ref a), some (.int ((j + 1 : Nat) : Int)), some (.int (m' : Int)), some v]; rw [em]; show [some (V.ref a), some (.int ((j : Int) + 1)), some (.int ((m : Int) - 1)), some v] = _; rw [show ((m : Int) - 1 + ((arN (.int n) : Nat) : Int)) = (m : Int) - 1 from Int.add_zero _]; rfl, rfl, g3, g4, g5, rfl⟩
        | v n z1 z2 =>
          obtain ⟨b, xs', rfl, sq, ax'⟩ := dp_tup hdv
          obtain ⟨w0, hw0, dw0⟩ := DpAll.get (i := 0) ax' rfl
          cases dw0
          walk_at "go"
          refine iteT ?_
          walk_at "go"
          refine ixT (j := 0) sq hw0 ?_
          walk_at "go"
          exact ⟨_, by omega, m', j + 1, kk', _, by show _ = [some (V.ref a), some (.int ((j + 1 : Nat) : Int)), some (.int (m' : Int)), some (.ref b)]; rw [em]; show [some (V.ref a), some (.int ((j : Int) + 1)), some (.int ((m : Int) - 1)), some (.ref b)] = _; rw [show ((m : Int) - 1 + ((arN (.tuple [.str "v", .int n]) : Nat) : Int)) = (m : Int) - 1 from Int.add_zero _]; rfl, rfl, g3, g4, g5, rfl⟩
        | f y n z1 z2 z3 =>
          obtain ⟨b, xs', rfl, sq, ax'⟩ := dp_tup hdv
          obtain ⟨w0, hw0, dw0⟩ := DpAll.get (i := 0) ax' rfl
          obtain ⟨w2, hw2, dw2⟩ := DpAll.get (i := 2) ax' rfl
          cases dw0
          cases dw2
          walk_at "go"
          refine iteT ?_
          walk_at "go"
          refine ixT (j := 0) sq hw0 ?_
          walk_at "go"
          refine iteT ?_
          walk_at "go"
          refine ixT (j := 2) sq hw2 ?_
          walk_at "go"
          have ea : ((arN (.tuple [.str "f", .str y, .int n]) : Nat) : Int) = n := Int.toNat_of_nonneg z2
          rw [ea] at em
          exact ⟨_, by omega, m', j + 1, kk', _, by show _ = [some (V.ref a), some (.int ((j + 1 : Nat) : Int)), some (.int (m' : Int)), some (.ref b)]; rw [em]; rfl, rfl, g3, g4, g5, rfl⟩
    · have m0 : m = 0 := by
        have : ¬ (0 : Int) < m := fun w => e (decide_eq_true w)
        omega
      subst m0
      rw [tk_zero, Nat.add_zero] at h3
      walk_at "go"
      rw [h3]
      exact q

theorem ok__law_list {f : Addr} {fd : FuncData} (F : Fun K "_law_list" "_law_list" s__law_list f fd) (E : Bi K mg)  : FnOk P w K mg base CX0 1 f fd ["rows"] (sp__law_list K) := by
  refine F.ok sc__law_list (fun vs H Q E h => ?_) (fun cdv A outer s H vs Q E' hr h => ?_)
  · obtain ⟨a, xs, rs, rfl, _⟩ := h
    rfl
  · obtain ⟨a, xs, rs, rfl, hs, ha, hn, hl, q⟩ := h
    refine ⟨_, (pss_cons (ps_set (i := 1) sc__law_list.nd rfl (Or.inl rfl) (pe_lst pa_nil))
      (pss_cons (ps_for PassesOwn.never rfl (pi_list (pv 0)) (pg_name (i := 2) sc__law_list.nd rfl (Or.inl rfl)) (pss_cons (ps_expr (pe_bm PySem.F.plainAttrs_list PySem.F.slot_list_append PySem.F.type_list_append mt_append (pv 1) (pa_cons (pe_tup (pa_cons pe_str (pa_cons pe_str (pa_cons pe_int pa_nil)))) pa_nil)))
      (pss_one (ps_for PassesOwn.never rfl (pi_tup (pv 2)) (pg_name (i := 3) sc__law_list.nd rfl (Or.inl rfl)) (pss_one (ps_expr (pe_bm PySem.F.plainAttrs_list PySem.F.slot_list_append PySem.F.type_list_append mt_append (pv 1) (pa_cons (pv 3) pa_nil))))))))
      (pss_cons (ps_expr (pe_bm PySem.F.plainAttrs_list PySem.F.slot_list_append PySem.F.type_list_append mt_append (pv 1) (pa_cons (pe_tup (pa_cons pe_str (pa_cons pe_str (pa_cons pe_int pa_nil)))) pa_nil)))
      (pss_one (ps_ret (pe_callTy call_tuple_of (by rfl) E.b_tuple (by decide +kernel) (pa_cons (pv 1) pa_nil))))))), ?_⟩
    refine st_of (σ := [some _, none, none, none]) rfl ?_
    walk_at "go"
    refine newN (n := 0) rfl (by decide) fun N nN => ?_
    walk_at "go"
    have sN := same_upd (o := .lst []) nN
    have lr := DpAll.len ha
    rw [List.length_map] at lr
    have keep : ∀ {H1 : Hp} {o : HO}, Same H H1 → Same H (upd H1 N o) := fun {H1 o} s1 b u e => by rw [upd_ne (ne_of_none e nN)]; exact s1 b u e
    have pre : ∀ i, ((rs.take i).flatMap fun r => dotN :: r).length + 1 ≤ 1000 := fun i => by
      have e : (rs.flatMap fun r => dotN :: r) = ((rs.take i).flatMap fun r => dotN :: r) ++ ((rs.drop i).flatMap fun r => dotN :: r) := by rw [← List.flatMap_append, List.take_append_drop]
      unfold lstR at hl
      rw [e, List.length_append, List.length_append, List.length_singleton] at hl
      omega
    refine ⟨a, rfl, ⟨_, same_sqL sN hs⟩, for_list (K := K) (a := a) (xs := xs) (fun i σ H' => ∃ (v2 v3 : Option V) (ys : List V), σ = [some (.ref a), some (.ref N), v2, v3] ∧ H' N = some (.lst ys) ∧ DpAll K H' ys ((rs.take i).flatMap fun r => dotN :: r) ∧ Same H H')
      ⟨_, _, [], rfl, upd_same, .nil, sN⟩ (fun i σ H' _ ⟨_, _, _, _, _, _, s⟩ => same_sqL s hs) ?_ ?_⟩
    · rintro i z σ H1 hz ⟨v2, v3, ys, rfl, hN1, dy, s1⟩
      obtain ⟨d, hd, dz0⟩ := DpAll.getV ha hz
      rw [List.getElem?_map] at hd
      obtain ⟨r, hr, rfl⟩ := Option.map_eq_some_iff.mp hd
      have nr := hn r (List.mem_of_getElem? hr)
      walk_at "go"
      refine tyl (SqL.of hN1) ?_
      walk_at "go"
      refine newN (n := 3) rfl (by decide) fun t nt => ?_
      have st := same_upd (o := .tup [V.str (Str.ofString "f"), V.str (Str.ofString "."), V.int 2]) nt
      have hN2 := st _ _ hN1
      have ddot : Dp K (upd H1 t (.tup [V.str (Str.ofString "f"), V.str (Str.ofString "."), V.int 2])) (.ref t) dotN := .tup (SqT.of upd_same) (.cons (.str _) (.cons (.str _) (.cons (.int _) .nil)))
      have s2 := s1.trans st
      have dy2 := dp_sameAll st _ _ dy
      generalize (upd H1 t (.tup [V.str (Str.ofString "f"), V.str (Str.ofString "."), V.int 2])) = H2 at hN2 ddot s2 dy2
      walk_at "go"
      have ly := DpAll.len dy2
      have p0 := pre i
      refine rap hN2 (by omega) ?_
      have ntN : notTup H2 N := .inl ⟨_, hN2⟩
      have ndot : NdA dotN := ⟨10, .f "." 2 (by decide) (by decide) (by decide)⟩
      have nall : ∀ i, ∀ d ∈ ((rs.take i).flatMap fun r => dotN :: r), NdA d := fun i d hd => by
        obtain ⟨r, hr, hd⟩ := List.mem_flatMap.mp hd
        rcases List.mem_cons.mp hd with rfl | hd
        · exact ndot
        · exact hn r (List.mem_of_mem_take hr) d hd
      have dy3 : DpAll K (upd H2 N (.lst (ys ++ [.ref t]))) (ys ++ [.ref t]) (((rs.take i).flatMap fun r => dotN :: r) ++ [dotN]) := dpAll_end (dp_putAll ntN _ _ (nds_noL (nall i)) dy2) (dp_put ntN _ _ (nd_noL ndot) ddot)
      have dz3 : Dp K (upd H2 N (.lst (ys ++ [.ref t]))) z (.tuple r) := dp_put ntN _ _ (tup_noL nr) (dp_same s2 _ _ dz0)
      have s3 : Same H (upd H2 N (.lst (ys ++ [.ref t]))) := keep s2
      have hN3 : (upd H2 N (.lst (ys ++ [.ref t]))) N = some (.lst (ys ++ [.ref t])) := upd_same
      generalize upd H2 N (.lst (ys ++ [.ref t])) = H3 at dy3 dz3 s3 hN3
      obtain ⟨b, ws, rfl, sb, ab⟩ := dp_tup dz3
      have lb := DpAll.len ab
      have step : ((rs.take (i + 1)).flatMap fun r => dotN :: r) = (((rs.take i).flatMap fun r => dotN :: r) ++ [dotN]) ++ r := by
        rw [List.take_add_one, hr, List.flatMap_append, List.append_assoc]
        show _ ++ ([r].flatMap fun r => dotN :: r) = _
        rw [List.flatMap_singleton]
        rfl
      have p1 := pre (i + 1)
      rw [step, List.length_append, List.length_append, List.length_singleton] at p1
      walk_at "go"
      refine ⟨b, rfl, ⟨_, sb⟩, for_tup (K := K) (a := b) (xs := ws) (fun j σ H' => ∃ (v3 : Option V) (zs : List V), σ = [some (.ref a), some (.ref N), some (.ref b), v3] ∧ H' N = some (.lst zs) ∧ DpAll K H' zs ((((rs.take i).flatMap fun r => dotN :: r) ++ [dotN]) ++ r.take j) ∧ Same H H' ∧ SqT K H' b ws ∧ DpAll K H' ws r)
        ⟨_, _, rfl, hN3, by rw [List.take_zero, List.append_nil]; exact dy3, s3, sb, ab⟩ (fun j σ H' _ ⟨_, _, _, _, _, _, s, _⟩ => s) ?_ ?_⟩
      · rintro j z2 σ H4 hz2 ⟨v5, zs, rfl, hr2, dz2, s4, su2, au2⟩
        obtain ⟨d2, hd2, dd2⟩ := DpAll.getV au2 hz2
        have lz := DpAll.len dz2
        rw [List.length_append, List.length_append, List.length_singleton, List.length_take] at lz
        have nd2 := nr d2 (List.mem_of_getElem? hd2)
        walk_at "go"
        refine tyl (SqL.of hr2) ?_
        walk_at "go"
        refine rap hr2 (by omega) ?_
        walk_at "go"
        have ntr : notTup H4 N := .inl ⟨_, hr2⟩
        refine ⟨_, zs ++ [z2], rfl, upd_same, ?_, keep s4, sqT_put ntr su2, dp_putAll ntr _ _ (nds_noL nr) au2⟩
        rw [List.take_add_one, hd2, ← List.append_assoc]
        refine dpAll_end (dp_putAll ntr _ _ (nds_noL fun y hy => (List.mem_append.mp hy).elim (fun q => ?_) fun q => nr y (List.mem_of_mem_take q)) dz2) (dp_put ntr _ _ (nd_noL nd2) dd2)
        rcases List.mem_append.mp q with q | q
        · exact nall i y q
        · rw [List.mem_singleton.mp q]; exact ndot
      · rintro σ H4 ⟨v5, zs, rfl, hr2, dz2, s4, su2, au2⟩
        rw [lb, List.take_length] at dz2
        walk_at "go"
        refine ⟨_, _, zs, rfl, hr2, ?_, s4⟩
        rw [step]
        exact dz2
    · rintro σ H1 ⟨v2, v3, ys, rfl, hN1, dy, s1⟩
      rw [lr, List.take_length] at dy
      walk_at "go"
      refine tyl (SqL.of hN1) ?_
      walk_at "go"
      refine newN (n := 3) rfl (by decide) fun t nt => ?_
      have st := same_upd (o := .tup [V.str (Str.ofString "f"), V.str (Str.ofString "[]"), V.int 0]) nt
      have hN2 := st _ _ hN1
      have ddot : Dp K (upd H1 t (.tup [V.str (Str.ofString "f"), V.str (Str.ofString "[]"), V.int 0])) (.ref t) nilN := .tup (SqT.of upd_same) (.cons (.str _) (.cons (.str _) (.cons (.int _) .nil)))
      have s2 := s1.trans st
      have dy2 := dp_sameAll st _ _ dy
      generalize (upd H1 t (.tup [V.str (Str.ofString "f"), V.str (Str.ofString "[]"), V.int 0])) = H2 at hN2 ddot s2 dy2
      walk_at "go"
      have ly := DpAll.len dy2
      have p0 := pre rs.length
      rw [List.take_length] at p0
      refine rap hN2 (by omega) ?_
      have ntN : notTup H2 N := .inl ⟨_, hN2⟩
      have ndot : NdA nilN := ⟨10, .f "[]" 0 (by decide) (by decide) (by decide)⟩
      have dy3 : DpAll K (upd H2 N (.lst (ys ++ [.ref t]))) (ys ++ [.ref t]) (lstR rs) := dpAll_end (dp_putAll ntN _ _ (nds_noL fun d hd => by
        obtain ⟨r, hr, hd⟩ := List.mem_flatMap.mp hd
        rcases List.mem_cons.mp hd with rfl | hd
        · exact ⟨10, .f "." 2 (by decide) (by decide) (by decide)⟩
        · exact hn r hr d hd) dy2) (dp_put ntN _ _ (nd_noL ndot) ddot)
      have s3 : Same H (upd H2 N (.lst (ys ++ [.ref t]))) := keep s2
      walk_at "go"
      refine ⟨_, _, rfl, .inl ⟨SqL.of upd_same, fun u nu => ?_⟩⟩
      have su := same_upd (o := .tup (ys ++ [.ref t])) nu
      exact q (.ref u) _ (s3.trans su) (.tup (SqT.of upd_same) (dp_sameAll su _ _ dy3))

theorem ok_arity_of {f : Addr} {fd : FuncData} (F : Fun K "arity_of" "arity_of" s_arity_of f fd) (E : Bi K mg) (D_is_symbol : Has P w K mg base 1 "is_symbol" ["node"] (sp_is_symbol K)) : FnOk P w K mg base CX0 2 f fd ["node"] (sp_arity_of K) := by
  obtain ⟨f_is_symbol, fd_is_symbol, G_is_symbol, g_is_symbol, kp_is_symbol, b_is_symbol⟩ := D_is_symbol
  refine F.ok sc_arity_of (fun vs H Q E h => ?_) (fun cdv A outer s H vs Q E' hr h => ?_)
  · obtain ⟨x, d, rfl, _⟩ := h
    rfl
  · obtain ⟨x, d, rfl, hd, hn, q⟩ := h
    refine ⟨_, (pss_one (ps_ret (pe_ifExp (pt_val (pe_call G_is_symbol (hr.mono (by decide)) (by rfl) g_is_symbol kp_is_symbol b_is_symbol .nil pass0 (pa_cons (pv 0) pa_nil))) (pe_ix ix_tup (pv 0) pe_int (fun _ _ => rfl)) pe_int))), ?_⟩
    refine st_of (σ := [some _]) rfl ?_
    walk_at "go"
    refine ⟨x, d, rfl, hd, hn, ?_⟩
    obtain ⟨wd, nd⟩ := id hn
    cases nd with
    | v n h1 h2 =>
      walk_at "go"
      exact q
    | i n h1 h2 =>
      walk_at "go"
      exact q
    | f y n h1 h2 h3 =>
      cases hd with
      | tup hs ha =>
      obtain ⟨v, hv, hdv⟩ := DpAll.get (i := 2) ha rfl
      cases hdv
      rw [show isSymN (.tuple [.str "f", .str y, .int n]) = true from rfl]
      walk_at "go"
      refine ixT (j := 2) hs hv ?_
      have e : ((arN (.tuple [.str "f", .str y, .int n]) : Nat) : Int) = n := Int.toNat_of_nonneg h2
      rw [e] at q
      exact q

theorem ok_Side_add_variables {f : Addr} {fd : FuncData} (F : Fun K "add_variables" "Side.add_variables" s_Side_add_variables f fd) (E : Bi K mg) (D_is_variable : Has P w K mg base 1 "is_variable" ["node"] (sp_is_variable K)) : FnOk P w K mg base CX0 2 f fd ["self", "term", "times"] (sp_Side_add_variables K) := by
  obtain ⟨f_is_variable, fd_is_variable, G_is_variable, g_is_variable, kp_is_variable, b_is_variable⟩ := D_is_variable
  refine F.ok sc_Side_add_variables (fun vs H Q E h => ?_) (fun cdv A outer s H vs Q E' hr h => ?_)
  · obtain ⟨p, r, c, n, x, ds, t, f, m, rfl, _⟩ := h
    rfl
  · obtain ⟨p, r, c, n, x, ds, t, f, m, rfl, hs, hc, dx, nd, t0, hm, ht, q⟩ := h
    refine ⟨_, (pss_one (ps_for PassesOwn.never rfl (pi_tup (pv 1)) (pg_name (i := 3) sc_Side_add_variables.nd rfl (Or.inl rfl)) (pss_one (ps_if (pt_val (pe_call G_is_variable (hr.mono (by decide)) (by rfl) g_is_variable kp_is_variable b_is_variable .nil pass0 (pa_cons (pv 3) pa_nil))) (pss_one (ps_dput (hu_of hr) (pe_fld (pv 0) rfl) (pe_ix ix_tup (pv 3) pe_int (fun _ _ => rfl)) (pe_op op_add (pe_dget2 (hu_of hr) (pe_fld (pv 0) rfl) (pe_ix ix_tup (pv 3) pe_int (fun _ _ => rfl)) pe_int ⟨by rfl, by rfl, by rfl, by rfl⟩) (pv 2)) (by rfl))) pss_nil)))), ?_⟩
    refine st_of (σ := [some _, some _, some _, none]) rfl ?_
    walk_at "go"
    obtain ⟨dx0, hp⟩ := hs.ob
    obtain ⟨kvs, hc0, hct, hcl⟩ := hc.at_
    have pc : p ≠ c := ne_of hp hc0 (by intro z; cases z)
    have nt : notTup H c := .inr (.inl ⟨_, hc0⟩)
    cases id dx with
    | @tup a xs _ sx ax =>
    have lx := DpAll.len ax
    refine ⟨a, rfl, ⟨_, sx⟩, for_tup (K := K) (a := a) (xs := xs) (fun i σ H' => ∃ (v3 : Option V), σ = [some (.ref p), some (.ref a), some (.int t), v3] ∧ CntA H' c (fun n => f n + t.toNat * cntN n (ds.take i)) (m + i) ∧ But c H H')
      ⟨none, rfl, ⟨kvs, hc0, by simpa [cntN] using hct, hcl⟩, But.refl c H⟩ (fun i σ H' _ ⟨_, _, _, b⟩ => sqT_but nt b sx) ?_ ?_⟩
    · rintro i z σ H1 hz ⟨v3, rfl, c1, b1⟩
      obtain ⟨d, hd, dz0⟩ := DpAll.getV ax hz
      have ndd := nd d (List.mem_of_getElem? hd)
      have dz : Dp K H1 z d := dp_map (fun b xs q => sqT_but nt b1 q) _ _ (nd_noL ndd) dz0
      have hi := (List.getElem?_eq_some_iff.mp hz).1
      have tk1 : ∀ n, cntN n (ds.take (i + 1)) = cntN n (ds.take i) + (if isVarN d = true ∧ numN d = n then 1 else 0) := fun n => by
        rw [List.take_add_one, hd, cnt_app]
        simp [cntN]
      obtain ⟨k1, g1, g2, g3⟩ := c1.at_
      have p1 := b1 p _ pc hp
      walk_at "go"
      refine ⟨z, d, rfl, dz, ndd, ?_⟩
      walk_at "go"
      refine ite2 (fun iv => ?_) (fun iv => ?_)
      · obtain ⟨n, n0, rfl⟩ := var_num ndd iv
        have dt : ∃ a' xs', z = .ref a' ∧ SqT K H1 a' xs' ∧ xs'[1]? = some (.int n) := by
          cases id dz with
          | tup hs' ha' =>
            obtain ⟨w, hw, hdw⟩ := DpAll.get (i := 1) ha' rfl
            cases hdw
            exact ⟨_, _, rfl, hs', hw⟩
        obtain ⟨a', xs', rfl, sq, hx1⟩ := dt
        walk_at "go"
        refine ⟨p, _, _, _, _, rfl, p1, E.cl_Side, E.nA_Side_counts, fs_Side_counts, ?_⟩
        refine ⟨c, rfl, .inl ⟨k1, .inl g1⟩, ?_⟩
        walk_at "go"
        refine ixT (j := 1) sq hx1 ?_
        walk_at "go"
        refine ⟨_, DGet.k (k := Sum.inl n) g1, ?_⟩
        have e1 : (valV k1 (Sum.inl n)).getD (V.int 0) = .int ((f n + t.toNat * cntN n (ds.take i) : Nat) : Int) := by
          rcases g2 n with e | ⟨e, e0⟩
          · rw [e]; rfl
          · rw [e]
            have e0' : f n + t.toNat * cntN n (ds.take i) = 0 := e0
            rw [e0']; rfl
        rw [e1]
        walk_at "go"
        refine ⟨p, _, _, _, _, rfl, p1, E.cl_Side, E.nA_Side_counts, fs_Side_counts, ?_⟩
        walk_at "go"
        refine ixT (j := 1) sq hx1 ?_
        refine ⟨c, _, rfl, DPut.k (k := Sum.inl n) g1 (Nat.lt_of_le_of_lt (show k1.length ≤ 10000000 by omega) (by decide)), ?_⟩
        walk_at "go"
        refine ⟨_, rfl, ⟨_, upd_same, fun y => ?_, ?_⟩, b1.trans But.put⟩
        · dsimp only
          rw [valV_put, tk1 y]
          by_cases ey : y = n
          · subst ey
            rw [if_pos rfl, if_pos ⟨rfl, rfl⟩]
            refine .inl ?_
            rw [Nat.mul_add, Nat.mul_one]
            congr 2
            omega
          · rw [if_neg (fun w => ey (Sum.inl.inj w)), if_neg (fun w => ey (by rw [← w.2]; rfl)), Nat.add_zero]
            exact g2 y
        · have : (putK k1 (Sum.inl n : Key) (V.int (((f n + t.toNat * cntN n (ds.take i) : Nat) : Int) + t))).length ≤ k1.length + 1 := by
            unfold putK
            split
            · rw [List.length_map]; omega
            · rw [List.length_append]; exact Nat.le_refl _
          omega
      · walk_at "go"
        refine ⟨_, rfl, ⟨k1, g1, fun y => ?_, by omega⟩, b1⟩
        dsimp only
        rw [tk1 y, if_neg (fun w => iv w.1), Nat.add_zero]
        exact g2 y
    · rintro σ H1 ⟨v3, rfl, c1, b1⟩
      walk_at "go"
      rw [List.take_of_length_le (by omega), lx] at c1
      exact q H1 c1 b1

theorem ok_Side_take {f : Addr} {fd : FuncData} (F : Fun K "take" "Side.take" s_Side_take f fd) (E : Bi K mg) (D_is_variable : Has P w K mg base 1 "is_variable" ["node"] (sp_is_variable K)) : FnOk P w K mg base CX0 2 f fd ["self", "found"] (sp_Side_take K) := by
  obtain ⟨f_is_variable, fd_is_variable, G_is_variable, g_is_variable, kp_is_variable, b_is_variable⟩ := D_is_variable
  refine F.ok sc_Side_take (fun vs H Q E h => ?_) (fun cdv A outer s H vs Q E' hr h => ?_)
  · obtain ⟨p, r, c, d, n, ds, F, T, rfl, _⟩ := h
    rfl
  · obtain ⟨p, r, c, d, tot, ds, F, T, rfl, hs, hk, hf, tri, tT, hne, hlen, q⟩ := h
    refine ⟨_, (pss_cons (ps_set (i := 2) sc_Side_take.nd rfl (Or.inl rfl) (pe_bm0 PySem.F.plainAttrs_list PySem.F.slot_list_pop PySem.F.type_list_pop mt_pop (pe_fld (pv 0) rfl)))
      (pss_cons (ps_while PassesOwn.never (pw_and (pt_val (pe_call G_is_variable (hr.mono (by decide)) (by rfl) g_is_variable kp_is_variable b_is_variable .nil pass0 (pa_cons (pv 2) pa_nil))) (pw_and1 (pt_cmp (pc_din (hu_of hr) (pe_ix ix_tup (pv 2) pe_int (fun _ _ => rfl)) (pv 1))))).pt (pss_cons (ps_expr (pe_bm PySem.F.plainAttrs_list PySem.F.slot_list_extend PySem.F.type_list_extend mt_extT (pe_fld (pv 0) rfl) (pa_cons (pe_revT (pe_dget (hu_of hr) (pv 1) (pe_ix ix_tup (pv 2) pe_int (fun _ _ => rfl)) (fun _ _ => rfl))) pa_nil)))
      (pss_one (ps_set (i := 2) sc_Side_take.nd rfl (Or.inl rfl) (pe_bm0 PySem.F.plainAttrs_list PySem.F.slot_list_pop PySem.F.type_list_pop mt_pop (pe_fld (pv 0) rfl))))))
      (pss_one (ps_ret (pv 2))))), ?_⟩
    refine st_of (σ := [some _, some _, none]) rfl ?_
    walk_at "go"
    obtain ⟨dx, hp⟩ := hs.ob
    obtain ⟨xs, hr0, hd⟩ := hk.at_
    obtain ⟨kvs, hf0, tk⟩ := hf.at_
    have prn : p ≠ r := ne_of hp hr0 (by intro z; cases z)
    have drn : d ≠ r := ne_of hf0 hr0 (by intro z; cases z)
    cases ds with
    | nil => exact absurd rfl hne
    | cons e es =>
    rw [List.reverse_cons] at hd
    obtain ⟨ys, v, rfl, hys, hv⟩ := dpAll_last hd
    have nde := hk.nd e (.head _)
    have nds : ∀ x ∈ es, NdA x := fun x hx => hk.nd x (.tail _ hx)
    refine ⟨p, _, _, _, _, rfl, hp, E.cl_Side, E.nA_Side_rest, fs_Side_rest, ?_⟩
    refine tyl (SqL.of hr0) ?_
    refine ⟨r, _, v, rfl, rfl, hr0, last_at, ?_⟩
    rw [List.dropLast_concat]
    walk_at "go"
    have lim : ∀ (l : List PyData), appM T l = appM T (e :: es) → l.length ≤ 100000 := fun l hl => Nat.le_trans (appM_len tT l) (by rw [hl]; exact hlen)
    have popped : ∀ (H1 : Hp) (zs : List V) (e1 : PyData) (es1 : List PyData), H1 r = some (.lst zs) → DpAll K H1 zs (e1 :: es1).reverse → (∀ x ∈ e1 :: es1, NdA x) → ∃ ys1 v1, zs = ys1 ++ [v1] ∧ StkA K (upd H1 r (.lst ys1)) r es1 ∧ Dp K (upd H1 r (.lst ys1)) v1 e1 := fun H1 zs e1 es1 h1 h2 h3 => by
      rw [List.reverse_cons] at h2
      obtain ⟨ys1, v1, rfl, k1, k2⟩ := dpAll_last h2
      have nt : notTup H1 r := .inl ⟨_, h1⟩
      exact ⟨ys1, v1, rfl, ⟨⟨ys1, upd_same, dp_putAll nt _ _ (nds_noL fun x hx => h3 x (.tail _ (List.mem_reverse.mp hx))) k1⟩, fun x hx => h3 x (.tail _ hx)⟩, dp_put nt _ _ (nd_noL (h3 e1 (.head _))) k2⟩
    have nt : notTup H r := .inl ⟨_, hr0⟩
    refine while_m (fun m σ H' => ∃ (v : V) (e1 : PyData) (es1 : List PyData), σ = [some (.ref p), some (.ref d), some v] ∧ StkA K H' r es1 ∧ Dp K H' v e1 ∧ NdA e1 ∧ appM T (e1 :: es1) = appM T (e :: es) ∧ But r H H' ∧ m = if isVarN e1 = true then rkT F (numN e1) else 0)
      ⟨_, v, e, es, rfl, ⟨⟨ys, upd_same, dp_putAll nt _ _ (nds_noL fun x hx => nds x (List.mem_reverse.mp hx)) hys⟩, nds⟩, dp_put nt _ _ (nd_noL nde) hv, nde, rfl, But.put, rfl⟩ ?_
    rintro m σ H1 ⟨v1, e1, es1, rfl, k1, d1, n1, ap1, b1, rfl⟩
    walk_at "go"
    have p1 := b1 p _ prn hp
    have f1 := b1 d _ drn hf0
    have tk1 : TabK K H1 kvs F := TabK.mono (fun v' ds' hn' hd' => dp_map (fun b xs q => sqT_but nt b1 q) _ _ (tup_noL hn') hd') tri.tm.nd tk
    refine ⟨v1, e1, rfl, d1, n1, ?_⟩
    walk_at "go"
    have fin : notKey F e1 → Q v1 H1 := fun nk => by
      refine q v1 e1 es1 H1 n1 nk ?_ k1 d1 b1
      rw [← ap1]
      exact tri.stay n1 nk es1
    refine ite2 (fun iv => ?_) (fun iv => ?_)
    · obtain ⟨n, n0, rfl⟩ := var_num n1 iv
      have dt : ∃ a' xs', v1 = .ref a' ∧ SqT K H1 a' xs' ∧ xs'[1]? = some (.int n) := by
        cases id d1 with
        | tup hs' ha' =>
          obtain ⟨w, hw, hdw⟩ := DpAll.get (i := 1) ha' rfl
          cases hdw
          exact ⟨_, _, rfl, hs', hw⟩
      obtain ⟨a', xs', rfl, sq, hx1⟩ := dt
      walk_at "go"
      refine ixT (j := 1) sq hx1 ?_
      walk_at "go"
      refine ⟨d, _, rfl, DGet.k (k := Sum.inl n) f1, ?_⟩
      walk_at "go"
      rcases TabK.val n tk1 with ⟨w1, w2⟩ | ⟨u, w, w1, w2', dw⟩
      · rw [w1]
        walk_at "go"
        exact fin fun _ => w2
      · rw [w1]
        walk_at "go"
        refine while_n ?_
        have tw := valT_tm tri.tm w2'
        have op := tri.open w2' es1
        obtain ⟨ys1, k2, k3⟩ := k1.at_
        walk_at "go"
        refine ⟨p, _, _, _, _, rfl, p1, E.cl_Side, E.nA_Side_rest, fs_Side_rest, ?_⟩
        refine tyl (SqL.of k2) ?_
        walk_at "go"
        refine ixT (j := 1) sq hx1 ?_
        refine ⟨d, u, rfl, by have := DGet.k (k := Sum.inl n) f1; rw [w1] at this; exact this, ?_⟩
        cases dw with
        | @tup ua us _ su au =>
        refine ⟨ua, us, rfl, su, fun z nz => ?_⟩
        walk_at "go"
        have rz : r ≠ z := ne_of_none k2 nz
        have lw := DpAll.len au
        have ly := DpAll.len k3
        have l1 := lim (w ++ es1) (by rw [← op]; exact ap1)
        rw [List.length_append] at l1
        rw [List.length_reverse] at ly
        refine ⟨r, z, ys1, us.reverse, rfl, rfl, by rw [upd_ne rz]; exact k2, SqT.of upd_same, Nat.le_trans (show _ ≤ 100000 by rw [List.length_reverse]; omega) (by decide), ?_⟩
        walk_at "go"
        have p2 : (upd (upd H1 z (.tup us.reverse)) r (.lst (ys1 ++ us.reverse))) p = some (.ins (clsA K "Side") dx (fs_Side (.ref r) (.int tot) (.ref c))) := by
          rw [upd_ne prn]
          exact same_upd nz _ _ p1
        refine ⟨p, _, _, _, _, rfl, p2, E.cl_Side, E.nA_Side_rest, fs_Side_rest, ?_⟩
        refine tyl (SqL.of upd_same) ?_
        cases w with
        | nil => exact absurd rfl tw.ne
        | cons e2 w2 =>
        have nt1 : notTup (upd H1 z (.tup us.reverse)) r := .inl ⟨ys1, by rw [upd_ne rz]; exact k2⟩
        have sz := same_upd (o := .tup us.reverse) nz
        have all2 : ∀ x ∈ e2 :: (w2 ++ es1), NdA x := fun x hx => (List.mem_append.mp (show x ∈ (e2 :: w2) ++ es1 from hx)).elim (tw.2 x) (k1.nd x)
        obtain ⟨ys2, v2, ez, g1, g2⟩ := popped (upd (upd H1 z (.tup us.reverse)) r (.lst (ys1 ++ us.reverse))) (ys1 ++ us.reverse) e2 (w2 ++ es1) upd_same (by
          rw [show (e2 :: (w2 ++ es1)).reverse = es1.reverse ++ (e2 :: w2).reverse by simp]
          refine DpAll.app (dp_putAll nt1 _ _ (nds_noL fun x hx => k1.nd x (List.mem_reverse.mp hx)) (dp_sameAll sz _ _ k3)) (dp_putAll nt1 _ _ (nds_noL fun x hx => tw.2 x (List.mem_reverse.mp hx)) (dp_sameAll sz _ _ (dpAll_rev au)))) all2
        refine ⟨r, _, v2, rfl, rfl, upd_same, by rw [ez]; exact last_at, ?_⟩
        rw [ez, List.dropLast_concat]
        walk_at "go"
        have less : (if isVarN e2 = true then rkT F (numN e2) else 0) < (if isVarN (.tuple [.str "v", .int n]) = true then rkT F (numN (.tuple [.str "v", .int n])) else 0) := by
          rw [if_pos (show isVarN (.tuple [.str "v", .int n]) = true from rfl), show numN (.tuple [.str "v", .int n]) = n from rfl]
          by_cases v2 : isVarN e2 = true
          · rw [if_pos v2]
            refine rk_less tri.tri w2' ?_
            rw [← var_vN (tw.2 e2 (.head _)) v2]
            exact .head _
          · rw [if_neg v2]
            exact rk_pos w2'
        refine ⟨_, less, v2, e2, w2 ++ es1, rfl, ?_, ?_, tw.2 e2 (.head _), ?_, ?_, rfl⟩
        · rw [ez] at g1
          rw [upd_upd] at g1 ⊢
          exact g1
        · rw [ez] at g2
          rw [upd_upd] at g2 ⊢
          exact g2
        · rw [← ap1, show (PyData.tuple [.str "v", .int n]) = vN n from rfl, op]
          rfl
        · intro b o hb hbo
          rw [upd_ne hb, upd_ne hb]
          exact same_upd nz _ _ (b1 b o hb hbo)
    · refine iteF ?_
      walk_at "go"
      exact fin fun z => absurd z iv

theorem ok_apply {f : Addr} {fd : FuncData} (F : Fun K "apply" "apply" s_apply f fd) (E : Bi K mg) (D_is_variable : Has P w K mg base 1 "is_variable" ["node"] (sp_is_variable K)) : FnOk P w K mg base CX0 2 f fd ["substitution", "term"] (sp_apply K) := by
  obtain ⟨f_is_variable, fd_is_variable, G_is_variable, g_is_variable, kp_is_variable, b_is_variable⟩ := D_is_variable
  refine F.ok sc_apply (fun vs H Q E h => ?_) (fun cdv A outer s H vs Q E' hr h => ?_)
  · obtain ⟨p, F, x, ds, rfl, _⟩ := h
    rfl
  · obtain ⟨p, F, x, ds, rfl, hf, ht, dx, nd, hl, q⟩ := h
    refine ⟨_, (pss_cons (ps_set (i := 2) sc_apply.nd rfl (Or.inl rfl) (pe_lst pa_nil))
      (pss_cons (ps_for PassesOwn.never rfl (pi_tup (pv 1)) (pg_name (i := 3) sc_apply.nd rfl (Or.inl rfl)) (pss_one (ps_if (pw_and (pt_val (pe_call G_is_variable (hr.mono (by decide)) (by rfl) g_is_variable kp_is_variable b_is_variable .nil pass0 (pa_cons (pv 3) pa_nil))) (pw_and1 (pt_cmp (pc_din (hu_of hr) (pe_ix ix_tup (pv 3) pe_int (fun _ _ => rfl)) (pv 0))))).pt (pss_one (ps_expr (pe_bm PySem.F.plainAttrs_list PySem.F.slot_list_extend PySem.F.type_list_extend mt_extT (pv 2) (pa_cons (pe_dget (hu_of hr) (pv 0) (pe_ix ix_tup (pv 3) pe_int (fun _ _ => rfl)) (fun _ _ => rfl)) pa_nil)))) (pss_one (ps_expr (pe_bm PySem.F.plainAttrs_list PySem.F.slot_list_append PySem.F.type_list_append mt_append (pv 2) (pa_cons (pv 3) pa_nil)))))))
      (pss_one (ps_ret (pe_callTy call_tuple_of (by rfl) E.b_tuple (by decide +kernel) (pa_cons (pv 2) pa_nil)))))), ?_⟩
    refine st_of (σ := [some _, some _, none, none]) rfl ?_
    walk_at "go"
    obtain ⟨kvs, hp0, tk0⟩ := hf.at_
    cases id dx with
    | @tup a xs _ sx ax =>
    have lx := DpAll.len ax
    refine newN rfl (by decide) fun r nr => ?_
    have pr : p ≠ r := ne_of_none hp0 nr
    walk_at "go"
    have pre : ∀ i, (appM F (ds.take i)).length ≤ 2000000 := fun i => by
      have e : appM F ds = appM F (ds.take i) ++ appM F (ds.drop i) := by rw [← appM_app, List.take_append_drop]
      rw [e, List.length_append] at hl
      omega
    refine ⟨a, rfl, ⟨_, same_sqT (same_upd nr) sx⟩, for_tup (K := K) (a := a) (xs := xs) (fun i σ H' => ∃ (v3 : Option V) (ys : List V), σ = [some (.ref p), some (.ref a), some (.ref r), v3] ∧ H' r = some (.lst ys) ∧ DpAll K H' ys (appM F (ds.take i)) ∧ Same H H')
      ⟨none, [], rfl, upd_same, .nil, same_upd nr⟩ (fun i σ H' _ ⟨_, _, _, _, _, s⟩ => same_sqT s sx) ?_ ?_⟩
    · rintro i z σ H1 hz ⟨v3, ys, rfl, hr1, dy, s1⟩
      obtain ⟨d, hd, dz0⟩ := DpAll.getV ax hz
      have ndd := nd d (List.mem_of_getElem? hd)
      have dz := dp_same s1 _ _ dz0
      have ly := DpAll.len dy
      have step := appM_take (t := F) hd
      have ndp : ∀ y ∈ appM F (ds.take i), NdA y := appM_nd ht.nd fun y hy => nd y (List.mem_of_mem_take hy)
      have put : ∀ (ws : List V) (es : List PyData), (∀ y ∈ es, NdA y) → DpAll K H1 ws es → DpAll K (upd H1 r (.lst (ys ++ ws))) (ys ++ ws) (appM F (ds.take i) ++ es) := fun ws es hes dw => by
        have ntr : notTup H1 r := .inl ⟨_, hr1⟩
        exact DpAll.app (dp_putAll ntr _ _ (nds_noL ndp) dy) (dp_putAll ntr _ _ (nds_noL hes) dw)
      have keep : ∀ o, Same H (upd H1 r o) := fun o b u e => by rw [upd_ne (ne_of_none e nr)]; exact s1 _ _ e
      walk_at "gs"
      refine ifv (fun H5 => H5 = H1 ∧ appN F d = [d]) ?_ fun hu => ?_
      rotate_left
      · walk_at "go"
        refine ⟨z, d, rfl, dz, ndd, ?_⟩
        walk_at "go"
        refine ite2 (fun iv => ?_) (fun iv => iteF (hu _ ⟨rfl, appN_non iv⟩))
        obtain ⟨n, n0, rfl⟩ := var_num ndd iv
        have dt : ∃ a' xs', z = .ref a' ∧ SqT K H1 a' xs' ∧ xs'[1]? = some (.int n) := by
          cases id dz with
          | tup hs' ha' =>
            obtain ⟨w, hw, hdw⟩ := DpAll.get (i := 1) ha' rfl
            cases hdw
            exact ⟨_, _, rfl, hs', hw⟩
        obtain ⟨a', xs', rfl, sq, hx1⟩ := dt
        walk_at "go"
        refine ixT (j := 1) sq hx1 ?_
        walk_at "go"
        refine ⟨p, _, rfl, DGet.k (k := Sum.inl n) (s1 _ _ hp0), ?_⟩
        walk_at "go"
        rcases TabK.val n (tab_same s1 ht.nd tk0) with ⟨w1, w2⟩ | ⟨u, w, w1, w2, dw⟩
        · rw [w1]
          exact iteF (hu _ ⟨rfl, appN_out w2⟩)
        · rw [w1]
          have tw := valT_tm ht w2
          walk_at "go"
          refine tyl (SqL.of hr1) ?_
          walk_at "go"
          refine ixT (j := 1) sq hx1 ?_
          refine ⟨p, u, rfl, by have := DGet.k (k := Sum.inl n) (s1 _ _ hp0); rw [w1] at this; exact this, ?_⟩
          cases dw with
          | @tup ua us _ su au =>
          walk_at "go"
          have lu := DpAll.len au
          have p1 := pre (i + 1)
          rw [step, appN_in w2, List.length_append] at p1
          refine ⟨r, ua, ys, us, rfl, rfl, hr1, su, Nat.le_trans (show _ ≤ 2000000 by omega) (by decide), ?_⟩
          walk_at "go"
          refine ⟨_, ys ++ us, rfl, upd_same, ?_, keep _⟩
          rw [step, appN_in w2]
          exact put us w tw.2 au
      · rintro H5 ⟨rfl, ea⟩
        walk_at "go"
        refine tyl (SqL.of hr1) ?_
        walk_at "go"
        have := pre i
        refine rap hr1 (by omega) ?_
        walk_at "go"
        refine ⟨_, ys ++ [z], rfl, upd_same, ?_, keep _⟩
        rw [step, ea]
        exact put [z] [d] (fun y hy => by rw [List.mem_singleton.mp hy]; exact ndd) (.cons dz .nil)
    · rintro σ H1 ⟨v3, ys, rfl, hr1, dy, s1⟩
      walk_at "go"
      rw [List.take_of_length_le (by omega)] at dy
      refine ⟨_, _, rfl, .inl ⟨SqL.of hr1, fun t nt => ?_⟩⟩
      have st := same_upd (o := .tup ys) nt
      exact q (.ref t) _ (s1.trans st) (.tup (SqT.of upd_same) (dp_sameAll st _ _ dy))

theorem ok__law_due {f : Addr} {fd : FuncData} (F : Fun K "_law_due" "_law_due" s__law_due f fd) (E : Bi K mg) (D__law_end : Has P w K mg base 1 "_law_end" ["term", "at"] (sp__law_end K)) (D__law_apply : Has P w K mg base 1 "_law_apply" ["table", "term"] (sp__law_apply K)) : FnOk P w K mg base CX0 2 f fd ["left", "right"] (sp__law_due K) := by
  obtain ⟨f__law_end, fd__law_end, G__law_end, g__law_end, kp__law_end, b__law_end⟩ := D__law_end
  obtain ⟨f__law_apply, fd__law_apply, G__law_apply, g__law_apply, kp__law_apply, b__law_apply⟩ := D__law_apply
  refine F.ok sc__law_due (fun vs H Q E h => ?_) (fun cdv A outer s H vs Q E' hr h => ?_)
  · obtain ⟨x, y, L, R, k, s, rfl, _⟩ := h
    rfl
  · obtain ⟨x, y, L, R, k, s, rfl, dx, dy, tl, tr, l1, l2, vl, vr, eg, k1, q⟩ := h
    refine ⟨_, (pss_cons (ps_set (i := 2) sc__law_due.nd rfl (Or.inl rfl) (pe_callB (call_max3Nu rfl) (by rfl) E.b_max (by decide +kernel) (pa_cons pe_int (pa_cons (pe_callB call_len_seq (by rfl) E.b_len PySem.boot_len (pa_cons (pv 0) pa_nil)) (pa_cons (pe_callB call_len_seq (by rfl) E.b_len PySem.boot_len (pa_cons (pv 1) pa_nil)) pa_nil)))))
      (pss_cons (ps_set (i := 3) sc__law_due.nd rfl (Or.inr rfl) pe_dnewK)
      (pss_cons (ps_set (i := 4) sc__law_due.nd rfl (Or.inl rfl) pe_int)
      (pss_cons (ps_while PassesOwn.never (pt_cmpR op_lt (pv 4) (pe_callB call_len_seq (by rfl) E.b_len PySem.boot_len (pa_cons (pv 0) pa_nil)) (nomark _)) (pss_cons (ps_if (pt_cmpR (op_eqD hr.units) (pe_ix ix_tup (pv 0) (pv 4) (fun _ _ => rfl)) (pe_ix ix_tup (pv 1) (pv 4) (fun _ _ => rfl)) (nomark _)) (pss_cons (ps_set (i := 4) sc__law_due.nd rfl (Or.inl rfl) (pe_op op_add (pv 4) pe_int))
      (pss_one ps_continue)) pss_nil)
      (pss_cons (ps_set (i := 5) sc__law_due.nd rfl (Or.inl rfl) (pe_slice sl_tupA (pv 0) (po_some (pv 4)) (po_some (pe_call G__law_end (hr.mono (by decide)) (by rfl) g__law_end kp__law_end b__law_end .nil pass0 (pa_cons (pv 0) (pa_cons (pv 4) pa_nil))))))
      (pss_cons (ps_set (i := 6) sc__law_due.nd rfl (Or.inl rfl) (pe_slice sl_tupA (pv 1) (po_some (pv 4)) (po_some (pe_call G__law_end (hr.mono (by decide)) (by rfl) g__law_end kp__law_end b__law_end .nil pass0 (pa_cons (pv 1) (pa_cons (pv 4) pa_nil))))))
      (pss_cons (ps_if (pw_and (pt_cmpR op_eq (pe_callB call_len_seq (by rfl) E.b_len PySem.boot_len (pa_cons (pv 5) pa_nil)) pe_int (nomark _)) (pw_and (pt_cmpR op_eq (pe_callB call_len_seq (by rfl) E.b_len PySem.boot_len (pa_cons (pv 6) pa_nil)) pe_int (nomark _)) (pw_and (pt_cmpR op_eq (pe_ix ix_tup (pe_ix ix_tup (pv 5) pe_int (fun _ _ => rfl)) pe_int (fun _ _ => rfl)) pe_str (nomark _)) (pw_and (pt_cmpR op_eq (pe_ix ix_tup (pe_ix ix_tup (pv 6) pe_int (fun _ _ => rfl)) pe_int (fun _ _ => rfl)) pe_str (nomark _)) (pw_and1 (pt_cmpR op_lt (pe_ix ix_tup (pe_ix ix_tup (pv 5) pe_int (fun _ _ => rfl)) pe_int (fun _ _ => rfl)) (pe_ix ix_tup (pe_ix ix_tup (pv 6) pe_int (fun _ _ => rfl)) pe_int (fun _ _ => rfl)) (nomark _))))))).pt (pss_one (ps_par (i := 5) (j := 6) rfl sc__law_due.nd rfl rfl (by decide) rfl rfl (pa_cons (pv 6) (pa_cons (pv 5) pa_nil)) (by rfl))) pss_nil)
      (pss_cons (ps_if (pt_cmpR op_ne (pe_ix ix_tup (pe_ix ix_tup (pv 5) pe_int (fun _ _ => rfl)) pe_int (fun _ _ => rfl)) pe_str (nomark _)) (pss_one (ps_par (i := 5) (j := 6) rfl sc__law_due.nd rfl rfl (by decide) rfl rfl (pa_cons (pv 6) (pa_cons (pv 5) pa_nil)) (by rfl))) pss_nil)
      (pss_cons (ps_if (pw_or (pt_cmpR op_ne (pe_ix ix_tup (pe_ix ix_tup (pv 5) pe_int (fun _ _ => rfl)) pe_int (fun _ _ => rfl)) pe_str (nomark _)) (pw_or1 (pt_cmpR (op_inT (units65 hr)) (pe_ix ix_tup (pv 5) pe_int (fun _ _ => rfl)) (pv 6) (by rfl)))).pt (pss_one (ps_ret pe_non)) pss_nil)
      (pss_cons (ps_set (i := 7) sc__law_due.nd rfl (Or.inl rfl) (pe_disp (pps_cons (pe_ix ix_tup (pe_ix ix_tup (pv 5) pe_int (fun _ _ => rfl)) pe_int (fun _ _ => rfl)) (pv 6) pps_nil) (by rfl) (by rfl) (fun z => by cases z) (by decide)))
      (pss_cons (ps_set (i := 0) sc__law_due.nd rfl (Or.inl rfl) (pe_call G__law_apply (hr.mono (by decide)) (by rfl) g__law_apply kp__law_apply b__law_apply .nil pass0 (pa_cons (pv 7) (pa_cons (pv 0) pa_nil))))
      (pss_cons (ps_set (i := 1) sc__law_due.nd rfl (Or.inl rfl) (pe_call G__law_apply (hr.mono (by decide)) (by rfl) g__law_apply kp__law_apply b__law_apply .nil pass0 (pa_cons (pv 7) (pa_cons (pv 1) pa_nil))))
      (pss_cons (ps_for PassesOwn.never rfl (pi_list (pe_callTy (call_list_dK rfl) (by rfl) E.b_list (by decide +kernel) (pa_cons (pv 3) pa_nil))) (pg_name (i := 8) sc__law_due.nd rfl (Or.inl rfl)) (pss_one (ps_dput (hu_of hr) (pv 3) (pv 8) (pe_call G__law_apply (hr.mono (by decide)) (by rfl) g__law_apply kp__law_apply b__law_apply .nil pass0 (pa_cons (pv 7) (pa_cons (pe_dget (hu_of hr) (pv 3) (pv 8) (fun _ _ => rfl)) pa_nil))) (by rfl))))
      (pss_cons (ps_dput (hu_of hr) (pv 3) (pe_ix ix_tup (pe_ix ix_tup (pv 5) pe_int (fun _ _ => rfl)) pe_int (fun _ _ => rfl)) (pv 6) (by rfl))
      (pss_cons (ps_lock (ps_setLc (i := 9) (own := [("number", 8)]) (g := gName 8) (tt := tYes) rfl sc__law_due.nd rfl rfl (by rfl) (pi_keys (pv 3)) (blkOk_by (N := N__law_due) (sc := defScope s__law_due) (by decide +kernel)) (fun _ _ _ _ _ => pg_name (i := 8) sc__law_due.nd rfl (Or.inl rfl)) (fun _ _ _ _ _ => pts_nil) (fun _ _ _ _ _ => (pe_callB (show CallR _ (.builtin "len") (fun xs H Q => ∃ p ys, xs = [V.ref p] ∧ (SqL K H p ys ∨ SqT K H p ys) ∧ Q (V.int ys.length) H) from call_len_seq) (by rfl) E.b_len PySem.boot_len (pa_cons (pe_dget (hu_of hr) (pv 3) (pv 8) (fun _ _ => rfl)) pa_nil)))))
      (pss_one (ps_if (pt_cmpR op_gt (pe_callB (cr_max rfl) (by rfl) E.b_max (by decide +kernel) (pa_cons (pe_op op_cat (pv 9) (pe_lst (pa_cons (pe_callB call_len_seq (by rfl) E.b_len PySem.boot_len (pa_cons (pv 0) pa_nil)) (pa_cons (pe_callB call_len_seq (by rfl) E.b_len PySem.boot_len (pa_cons (pv 1) pa_nil)) pa_nil)))) pa_nil)) (pv 2) (nomark _)) (pss_one (ps_ret pe_str)) pss_nil)))))))))))))))
      (pss_one (ps_ret (pv 3))))))), ?_⟩
    refine st_of (σ := [some _, some _, none, none, none, none, none, none, none, none]) rfl ?_
    walk_at "go"
    obtain ⟨ax, xs, rfl, sx, axs⟩ := dp_tup dx
    obtain ⟨ay, ys, rfl, sy, ays⟩ := dp_tup dy
    have lx := DpAll.len axs
    have ly := DpAll.len ays
    refine ⟨_, _, rfl, .inr sx, ?_⟩
    walk_at "go"
    refine ⟨_, _, rfl, .inr sy, ?_⟩
    walk_at "go"
    refine ⟨_, _, _, _, rfl, max3_int _ _ _, ?_⟩
    walk_at "go"
    have eB : max (max 200 (xs.length : Int)) (ys.length : Int) = ((max 200 (max L.length R.length) : Nat) : Int) := by omega
    rw [eB]
    have Bl : max 200 (max L.length R.length) ≤ 1000 := by omega
    have Bx : L.length ≤ max 200 (max L.length R.length) := by omega
    have By : R.length ≤ max 200 (max L.length R.length) := by omega
    generalize max 200 (max L.length R.length) = B at eg Bl eB Bx By
    intro z nz
    walk_at "go"
    have sz := same_upd (o := .dK []) nz
    refine while_m (fun j σ H' => ∃ (k : Nat) (L' R' : List PyData) (T : Tab) (p l r : List PyData) (vl vr : V) (v5 v6 v7 v8 v9 : Option V),
        σ = [some vl, some vr, some (.int (B : Nat)), some (.ref z), some (.int (p.length : Nat)), v5, v6, v7, v8, v9] ∧ Same H H' ∧
        Dp K H' vl (.tuple L') ∧ Dp K H' vr (.tuple R') ∧ FndA K H' z T ∧ Eg B k L' R' T s ∧ Sol L' R' T ∧ L'.length ≤ B ∧ R'.length ≤ B ∧ (∀ d ∈ L', Vf d) ∧ (∀ d ∈ R', Vf d) ∧ T.length + k ≤ 2000 ∧
        L' = p ++ l ∧ R' = p ++ r ∧ j = k * 1001 + l.length)
      ⟨_, k, L, R, [], [], L, R, .ref ax, .ref ay, none, none, none, none, none, rfl, sz, dp_same sz _ _ dx, dp_same sz _ _ dy, ⟨[], upd_same, True.intro⟩, eg, sol_zero tl tr, Bx, By, vl, vr, by rw [List.length_nil]; omega, rfl, rfl, rfl⟩ ?_
    clear eg Bx By vl vr tl tr dx dy sx sy axs ays lx ly eB
    rintro j σ H1 ⟨k, L', R', T, p, l, r, vl, vr, v5, v6, v7, v8, v9, rfl, s1, dl, dr, fT, eg, S, bl, br, vfl, vfr, tkl, eL, eR, rfl⟩
    obtain ⟨al, xl, rfl, sl, ql⟩ := dp_tup dl
    obtain ⟨ar, xr, rfl, sr, qr⟩ := dp_tup dr
    have lxl := DpAll.len ql
    have lxr := DpAll.len qr
    walk_at "go"
    refine ⟨_, _, rfl, .inr sl, ?_⟩
    walk_at "go"
    have hl := S.l
    have hr := S.r
    rw [eL] at hl
    rw [eR] at hr
    refine ite2 (fun hm => ?_) (fun hm => ?_)
    · have hm : (p.length : Int) < xl.length := of_decide_eq_true hm
      refine while_n ?_
      cases l with
      | nil => rw [eL, List.length_append, List.length_nil] at lxl; omega
      | cons e1 l =>
      cases r with
      | nil =>
        have := same_len hl hr rfl
        cases this
      | cons e2 r =>
      have g1 : L'[p.length]? = some e1 := by rw [eL, List.getElem?_append_right (Nat.le_refl _), Nat.sub_self]; rfl
      have g2 : R'[p.length]? = some e2 := by rw [eR, List.getElem?_append_right (Nat.le_refl _), Nat.sub_self]; rfl
      have nn1 := S.l.2 e1 (List.mem_of_getElem? g1)
      have nn2 := S.r.2 e2 (List.mem_of_getElem? g2)
      have vf1 := vfl e1 (List.mem_of_getElem? g1)
      have vf2 := vfr e2 (List.mem_of_getElem? g2)
      obtain ⟨w1, hw1, dw1⟩ := DpAll.get ql g1
      obtain ⟨w2, hw2, dw2⟩ := DpAll.get qr g2
      walk_at "go"
      refine ixT (j := p.length) sl hw1 ?_
      walk_at "go"
      refine ixT (j := p.length) sr hw2 ?_
      walk_at "go"
      refine ⟨e1, e2, dw1, dw2, nd_shaped nn1, nd_shaped nn2, _, rfl, ite2 (fun he => ?_) (fun he => ?_)⟩
      · obtain rfl := (eq_nd nn1 nn2).mp he
        walk_at "go"
        refine ⟨_, ?_, k, L', R', T, p ++ [e1], l, r, .ref al, .ref ar, v5, v6, v7, v8, v9, ?_, s1, dl, dr, fT, eg, S, bl, br, vfl, vfr, tkl, by rw [List.append_assoc]; exact eL, by rw [List.append_assoc]; exact eR, rfl⟩
        · rw [List.length_cons]; omega
        · rw [List.length_append, List.length_singleton]; rfl
      · have ne : e1 ≠ e2 := fun w => he ((eq_nd nn1 nn2).mpr w)
        have dif := eg_dif eg ne eL eR
        obtain ⟨k1', tm1⟩ := tms_mid hl
        obtain ⟨k2', tm2⟩ := tms_mid hr
        have dL : L'.drop p.length = e1 :: l := by rw [eL, List.drop_left]
        have dR : R'.drop p.length = e2 :: r := by rw [eR, List.drop_left]
        walk_at "go"
        refine ⟨_, L', p.length, k1', rfl, dl, S.l.2, by rw [dL]; exact tm1.1, ?_⟩
        walk_at "go"
        rw [dL]
        have lL' := congrArg List.length dL
        have lR' := congrArg List.length dR
        rw [List.length_drop] at lL' lR'
        have tk1 := tk_le (e1 :: l) 1
        have tk2 := tk_le (e2 :: r) 1
        refine slA_nat (i := p.length) (j := p.length + tk 1 (e1 :: l)) sl (by omega) (by rw [lxl]; rw [List.length_cons] at lL' tk1; omega) fun a5 H2 s2 sq5 _ => ?_
        have d5 : Dp K H2 (.ref a5) (.tuple (sub1 (e1 :: l))) := by
          refine .tup sq5 ?_
          have := dp_sameAll s2 _ _ (DpAll.taket (p.length + tk 1 (e1 :: l) - p.length) (DpAll.dropt p.length ql))
          rw [dL, Nat.add_sub_cancel_left] at this
          rw [Nat.add_sub_cancel_left]
          exact this
        have dr2 := dp_same s2 _ _ dr
        have sr2 := same_sqT s2 sr
        walk_at "go"
        refine ⟨_, R', p.length, k2', rfl, dr2, S.r.2, by rw [dR]; exact tm2.1, ?_⟩
        walk_at "go"
        rw [dR]
        refine slA_nat (i := p.length) (j := p.length + tk 1 (e2 :: r)) sr2 (by rw [lxr]; rw [List.length_cons] at lR'; omega) (by rw [lxr]; rw [List.length_cons] at lR' tk2; omega) fun a6 H3 s3 sq6 _ => ?_
        have d6 : Dp K H3 (.ref a6) (.tuple (sub1 (e2 :: r))) := by
          refine .tup sq6 ?_
          have := dp_sameAll (s2.trans s3) _ _ (DpAll.taket (p.length + tk 1 (e2 :: r) - p.length) (DpAll.dropt p.length qr))
          rw [dR, Nat.add_sub_cancel_left] at this
          rw [Nat.add_sub_cancel_left]
          exact this
        have d5 := dp_same s3 _ _ d5
        have s13 := s2.trans s3
        obtain ⟨t1, et1⟩ := sub1_cons e1 l
        obtain ⟨t2, et2⟩ := sub1_cons e2 r
        have sb1 := tms_sub tm1
        have sb2 := tms_sub tm2
        clear sq5 sq6 dr2 sr2 s2 s3 hw1 hw2 dw1 dw2
        rw [et1] at d5
        rw [et2] at d6
        obtain ⟨a5', b5, xs5, ys5, F5⟩ := fst_of d5 nn1 vf1
        obtain ⟨a6', b6, xs6, ys6, F6⟩ := fst_of d6 nn2 vf2
        cases F5.eq
        cases F6.eq
        walk_at "gs"
        refine nx_via (fun σ H' => ∃ (c : Bool), c = (isVarN e1 && isVarN e2 && decide (numN e1 < numN e2)) ∧ H' = H3 ∧ σ = [some (.ref al), some (.ref ar), some (.int (B : Nat)), some (.ref z), some (.int (p.length : Nat)), some (.ref (if c = true then a6 else a5)), some (.ref (if c = true then a5 else a6)), v7, v8, v9]) ?_ fun hu => ?_
        · rintro σ H4 ⟨c, hc, rfl, rfl⟩
          walk_at "gs"
          refine nx_via (fun σ H' => ∃ (a5 a6 : Addr) (x : PyData) (tx v : List PyData), H' = H4 ∧ (∀ d ∈ x :: tx, NdA d) ∧ σ = [some (.ref al), some (.ref ar), some (.int (B : Nat)), some (.ref z), some (.int (p.length : Nat)), some (.ref a5), some (.ref a6), v7, v8, v9] ∧
            Dp K H4 (.ref a5) (.tuple (x :: tx)) ∧ Dp K H4 (.ref a6) (.tuple v) ∧ NdA x ∧ Vf x ∧ (∀ d ∈ v, NdA d) ∧ (∀ d ∈ v, Vf d) ∧ v ≠ [] ∧ (isVarN x = true → bindM (e1 :: l) (e2 :: r) = some (numN x, v)) ∧ (isVarN x = false → bindM (e1 :: l) (e2 :: r) = none)) ?_ fun hu => ?_
          · rintro σ H5 ⟨a5, a6, x, tx, v, rfl, ntx, rfl, d5, d6, nx, vx, nv, vv, nev, by1, by2⟩
            clear F5 F6
            obtain ⟨a5', b5, xs5, ys5, F5⟩ := fst_of d5 nx vx
            cases F5.eq
            walk_at "gs"
            refine ifc (!isVarN x || v.any fun z => PyData.eqv z x) (fun QT hQ => ?_) (fun hA => ?_) (fun hA => ?_)
            · walk_at "go"
              refine ixT (j := 0) F5.s1 F5.h1 ?_
              walk_at "go"
              refine ixT (j := 0) F5.s2 F5.nm ?_
              walk_at "go"
              rw [dec_nm]
              by_cases va : isVarN x = true
              · rw [va, Bool.not_true, Bool.false_or] at hQ
                rw [va]
                walk_at "go"
                refine ixT (j := 0) F5.s1 F5.h1 ?_
                walk_at "go"
                exact ⟨x, v, F5.dp, d6, nd_shaped nx, tup_shaped nv, _, rfl, hQ⟩
              · rw [Bool.eq_false_iff.mpr va, Bool.not_false, Bool.true_or] at hQ
                rw [Bool.eq_false_iff.mpr va]
                walk_at "go"
                exact hQ
            · walk_at "go"
              have es : s = .non := by
                rcases dif with ⟨_, es⟩ | ⟨n', v', e, ⟨_, es⟩ | ⟨no, _⟩⟩
                · exact es
                · exact es
                · rcases Bool.or_eq_true_iff.mp hA with w | w
                  · rw [by2 (by simpa using w)] at e; cases e
                  · have w := (any_nd nv nx).mp w
                    by_cases va : isVarN x = true
                    · rw [by1 va] at e
                      cases e
                      rw [← var_vN nx va] at no
                      exact absurd w no
                    · rw [by2 (Bool.eq_false_iff.mpr va)] at e; cases e
              subst es
              exact q _ (s1.trans s13)
            · rw [Bool.or_eq_false_iff] at hA
              have va : isVarN x = true := by simpa using hA.1
              have own0 : x ∉ v := fun w => by rw [(any_nd nv nx).mpr w] at hA; cases hA.2
              have bm := by1 va
              walk_at "go"
              intro z7 nz7
              have zz70 : z ≠ z7 := by
                obtain ⟨_, e, _⟩ := fT.at_
                exact ne_of_none (s13 _ _ e) nz7
              have s7 := same_upd (o := .dK []) nz7
              unfold tPairs
              walk_at "go"
              refine ixT (j := 0) (same_sqT s7 F5.s1) F5.h1 ?_
              walk_at "go"
              refine ixT (j := 1) (same_sqT s7 F5.s2) (F5.num va) ?_
              walk_at "go"
              unfold tPairs
              refine ⟨upd_same, [(Sum.inl (numN x), .ref a6)], rfl, by show 1 ≤ 15; decide, ?_⟩
              walk_at "go"
              have own : vN (numN x) ∉ v := by rw [← var_vN nx va]; exact own0
              have nn : NdA (vN (numN x)) := by rw [← var_vN nx va]; exact nx
              have ex := var_vN nx va
              generalize numN x = n at bm own nn ex F5
              have s8 : Same H5 (upd (upd H5 z7 (.dK [])) z7 (.dK (mergeK [] [(Sum.inl n, .ref a6)]))) := fun b o e => by rw [upd_ne (ne_of_none e nz7)]; exact s7 _ _ e
              have d68 := dp_same s8 _ _ d6
              have f7 : FndA K (upd (upd H5 z7 (.dK [])) z7 (.dK (mergeK [] [(Sum.inl n, .ref a6)]))) z7 [(n, v)] := ⟨_, upd_same, TabK.snoc (kvs := []) (t := []) d68 True.intro⟩
              generalize (upd (upd H5 z7 (.dK [])) z7 (.dK (mergeK [] [(Sum.inl n, .ref a6)]))) = H8 at s8 d68 f7
              have sH := (s13.trans s8)
              have fz8 := fT.same' S.t.nd sH
              have d58 := dp_same s8 _ _ d5
              have dl8 := dp_same sH _ _ dl
              have dr8 := dp_same sH _ _ dr
              have s18 := s1.trans sH
              have bnd : Bnd L' R' T n v := by
                have := bind_ok (T := T) hl hr bm own
                rw [← eL, ← eR] at this
                exact this
              have tm := tab_one (n := n) bnd.tm
              have vl1 : v.length ≤ 1000 := bnd.inf.elim (fun w => by have := w.length_le; omega) (fun w => by have := w.length_le; omega)
              have ndT : ∀ ds : List PyData, (∀ d ∈ ds, NdA d) → ∀ d ∈ appM [(n, v)] ds, NdA d := fun ds h => appM_nd tm.nd h
              clear F5 d5 d6 s7 s8 sH s13 fT dl dr sl sr ql qr
              refine ⟨z7, [(n, v)], .ref al, L', rfl, f7, tm, dl8, S.l.2, len_app vl1 (by omega) S.l.2, fun vl' H9 s9 dl9 => ?_⟩
              walk_at "go"
              refine ⟨z7, [(n, v)], .ref ar, R', rfl, f7.same' tm.nd s9, tm, dp_same s9 _ _ dr8, S.r.2, len_app vl1 (by omega) S.r.2, fun vr' H10 s10 dr10 => ?_⟩
              have sA := s9.trans s10
              have f7 := f7.same' tm.nd sA
              have fz := fz8.same' S.t.nd sA
              have dl10 := dp_same s10 _ _ dl9
              have d510 := dp_same sA _ _ d58
              have d610 := dp_same sA _ _ d68
              have s110 := s18.trans sA
              clear s9 s10 sA fz8 d58 d68 s18 dl9 dl8 dr8
              obtain ⟨kvs, hz, tz⟩ := fz.at_
              have lkv := TabK.len tz
              walk_at "go"
              refine ⟨z, kvs, rfl, hz, fun r9 nr9 => ?_⟩
              have sR := same_upd (o := .lst (kvs.map fun kv => kV kv.1)) nr9
              have zr9 : z ≠ r9 := ne_of_none hz nr9
              have r9H : H r9 = Option.none := none_back s110 nr9
              have z7r9 : z7 ≠ r9 := by
                obtain ⟨_, e, _⟩ := f7.at_
                exact ne_of_none e nr9
              walk_at "go"
              have kx : ∀ {kv : Key × V} {i : Nat}, kvs[i]? = some kv → (kvs.map fun kv => kV kv.1)[i]? = some (kV kv.1) := fun {kv i} e => by rw [List.getElem?_map, e]; rfl
              have lkm : (kvs.map fun kv => kV kv.1).length = T.length := by rw [List.length_map, lkv]
              have zz7 : z ≠ z7 := zz70
              refine ⟨r9, rfl, ⟨_, SqL.of upd_same⟩, for_list (K := K) (a := r9) (xs := kvs.map fun kv => kV kv.1) (fun i σ H' => ∃ (v8 : Option V), σ = [some vl', some vr', some (.int (B : Nat)), some (.ref z), some (.int (p.length : Nat)), some (.ref a5), some (.ref a6), some (.ref z7), v8, v9] ∧ Same H H' ∧
                  H' r9 = some (.lst (kvs.map fun kv => kV kv.1)) ∧ FndA K H' z (halfT (appM [(n, v)]) T i) ∧ FndA K H' z7 [(n, v)] ∧ Dp K H' vl' (.tuple (appM [(n, v)] L')) ∧ Dp K H' vr' (.tuple (appM [(n, v)] R')) ∧ Dp K H' (.ref a5) (.tuple (x :: tx)) ∧ Dp K H' (.ref a6) (.tuple v))
                ⟨_, rfl, fun b o e => sR _ _ (s110 _ _ e), upd_same, by
                  show FndA K _ z (([] : Tab) ++ T)
                  exact fz.same' S.t.nd sR, f7.same' tm.nd sR, dp_same sR _ _ dl10, dp_same sR _ _ dr10, dp_same sR _ _ d510, dp_same sR _ _ d610⟩ (fun i σ H' _ ⟨_, _, _, e, _⟩ => SqL.of e) ?_ ?_⟩
              · rintro i xk σ HA hxk ⟨v8, rfl, sA, rA, fA, f7A, dlA, drA, d5A, d6A⟩
                rw [List.getElem?_map] at hxk
                obtain ⟨kv, hkv, rfl⟩ := Option.map_eq_some_iff.mp hxk
                obtain ⟨qq, hq1, hq2, _⟩ := TabK.get tz hkv
                rw [hq2]
                have mq : qq ∈ T := List.mem_of_getElem? hq1
                have hq3 := half_get (f := appM [(n, v)]) hq1
                have ndH : ((halfT (appM [(n, v)]) T i).map (·.1)).Nodup := by rw [half_keys]; exact S.nd
                have vq := valT_at ndH (List.mem_of_getElem? hq3)
                have tnH : TabN (halfT (appM [(n, v)]) T i) := fun y hy => by
                  rcases half_mem hy with hy | ⟨q0, hq0, rfl⟩
                  · exact S.t.nd y hy
                  · exact ndT _ (S.t.nd q0 hq0)
                obtain ⟨kvA, hzA, tA⟩ := fA.at_
                walk_at "go"
                rcases TabK.val qq.1 tA with ⟨_, w2⟩ | ⟨u, w, w1, w2, dw⟩
                · rw [vq] at w2; cases w2
                rw [vq] at w2
                cases w2
                refine ⟨z, u, rfl, by have := DGet.k (k := Sum.inl qq.1) hzA; rw [w1] at this; exact this, ?_⟩
                walk_at "go"
                have lq : qq.2.length ≤ 1000 := (S.inf qq mq).elim (fun w => by have := w.length_le; omega) (fun w => by have := w.length_le; omega)
                refine ⟨z7, [(n, v)], u, qq.2, rfl, f7A, tm, dw, (S.t qq mq).2, len_app vl1 lq (S.t qq mq).2, fun u' HB sB du' => ?_⟩
                walk_at "go"
                have hzB := sB _ _ hzA
                have lA := TabK.len tA
                have lH : (halfT (appM [(n, v)]) T i).length = T.length := by have := congrArg List.length (half_keys (appM [(n, v)]) T i); rwa [List.length_map, List.length_map] at this
                refine ⟨z, _, rfl, DPut.k (k := Sum.inl qq.1) hzB (Nat.lt_of_le_of_lt (show _ ≤ 100000 by omega) (by decide)), ?_⟩
                walk_at "go"
                have ntz : notTup HB z := .inr (.inl ⟨_, hzB⟩)
                have rp := TabK.rep (n := qq.1) (dp_put (o := .dK (putK kvA (Sum.inl qq.1) u')) ntz _ _ (tup_noL (ndT _ (S.t qq mq).2)) du') (tab_put (o := .dK (putK kvA (Sum.inl qq.1) u')) ntz tnH (tab_same sB tnH tA))
                rw [half_step S.nd hq1, ← putK_old w1] at rp
                have kp : KpP z z HB (upd HB z (.dK (putK kvA (Sum.inl qq.1) u'))) := fun b o hb _ e => by rw [upd_ne hb]; exact e
                have ntz2 : nTup HB z := ⟨_, hzB, (fun _ w => by cases w), (fun _ _ w => by cases w)⟩
                refine ⟨_, rfl, fun b o e => by rw [upd_ne (ne_of_none e nz)]; exact sB _ _ (sA _ _ e), by rw [upd_ne zr9.symm]; exact sB _ _ rA, ⟨_, upd_same, rp⟩, (f7A.same' tm.nd sB).kp tm.nd kp ntz2 ntz2 zz7.symm zz7.symm, dp_put ntz _ _ (tup_noL (ndT _ S.l.2)) (dp_same sB _ _ dlA), dp_put ntz _ _ (tup_noL (ndT _ S.r.2)) (dp_same sB _ _ drA), dp_put ntz _ _ (tup_noL ntx) (dp_same sB _ _ d5A), dp_put ntz _ _ (tup_noL nv) (dp_same sB _ _ d6A)⟩
              · rintro σ HA ⟨v8, rfl, sA, rA, fA, f7A, dlA, drA, d5A, d6A⟩
                rw [lkm, half_all] at fA
                obtain ⟨a5', b5, xs5, ys5, F5⟩ := fst_of d5A nx vx
                cases F5.eq
                walk_at "go"
                refine ixT (j := 0) F5.s1 F5.h1 ?_
                walk_at "go"
                refine ixT (j := 1) F5.s2 (F5.num va) ?_
                walk_at "go"
                have en : numN x = n := by rw [ex]; rfl
                rw [en]
                have nF : n ∉ T.map (·.1) := fun w => bnd.at_.elim (fun x => free_keys.mp S.fl n w x) fun x => free_keys.mp S.fr n w x
                have nF2 : n ∉ (T.map fun q => (q.1, appM [(n, v)] q.2)).map (·.1) := by rw [List.map_map]; exact nF
                have tnT : TabN (T.map fun q => (q.1, appM [(n, v)] q.2)) := fun y hy => by
                  obtain ⟨q0, hq0, rfl⟩ := List.mem_map.mp hy
                  exact ndT _ (S.t.nd q0 hq0)
                obtain ⟨kvA, hzA, tA⟩ := fA.at_
                have lA := TabK.len tA
                rw [List.length_map] at lA
                refine ⟨z, _, rfl, DPut.k (k := Sum.inl n) hzA (Nat.lt_of_le_of_lt (show _ ≤ 100000 by omega) (by decide)), ?_⟩
                have ntz : notTup HA z := .inr (.inl ⟨_, hzA⟩)
                have tB : TabK K (upd HA z (.dK (putK kvA (Sum.inl n) (.ref a6)))) (putK kvA (Sum.inl n) (.ref a6)) (up1 n v T) := TabK.add (tab_put ntz tnT tA) nF2 (dp_put ntz _ _ (tup_noL nv) d6A)
                have dlB := dp_put (o := .dK (putK kvA (Sum.inl n) (.ref a6))) ntz _ _ (tup_noL (ndT _ S.l.2)) dlA
                have drB := dp_put (o := .dK (putK kvA (Sum.inl n) (.ref a6))) ntz _ _ (tup_noL (ndT _ S.r.2)) drA
                have sB : Same H (upd HA z (.dK (putK kvA (Sum.inl n) (.ref a6)))) := fun b o e => by rw [upd_ne (ne_of_none e nz)]; exact sA _ _ e
                have hzB : (upd HA z (.dK (putK kvA (Sum.inl n) (.ref a6)))) z = some (.dK (putK kvA (Sum.inl n) (.ref a6))) := upd_same
                generalize putK kvA (Sum.inl n) (.ref a6) = kvB at tB hzB dlB drB sB
                generalize upd HA z (.dK kvB) = HB at tB hzB dlB drB sB
                clear F5 d5A d6A f7A rA sA fA dlA drA hzA tA ntz tz fz f7 hz
                have Sn := S.next bnd
                have lT : (up1 n v T).length = T.length + 1 := by unfold up1; rw [List.length_append, List.length_map, List.length_singleton]
                walk_at "go"
                refine ⟨z, _, hzB, trivial, fun od => ?_⟩
                refine ⟨_, rfl, z, od, rfl, .inl ⟨kvB, upd_same, fun D hD => ?_⟩⟩
                have nf : notTup HB z := .inr (.inl ⟨_, hzB⟩)
                have TF := tab_put (o := .frz od (.dK kvB)) nf Sn.t.nd tB
                have sD := same_upd (o := .lst []) hD
                have Dz : D ≠ z := fun w => by rw [w, upd_same] at hD; cases hD
                have lkB := TabK.len tB
                refine lc_it walk_keys (fun i H' => ∃ ys, Same (upd HB z (.frz od (.dK kvB))) H' ∧ H' D = some (.lst ys) ∧ ys = ((up1 n v T).take i).map fun q => V.int (q.2.length : Nat))
                  ⟨[], sD, upd_same, rfl⟩ (fun i H' _ ⟨_, e, _⟩ => e _ _ upd_same) ?_ ?_
                · rintro i xk HC HD hi ⟨ys, sC, b1, b2⟩ ⟨rfl, kk, vv', hk, rfl⟩
                  obtain ⟨qq, hq1, hq2, _⟩ := TabK.get TF hk
                  have hq2 : kk = Sum.inl qq.1 := hq2
                  subst hq2
                  have TC := tab_same sC Sn.t.nd TF
                  rcases TabK.val qq.1 TC with ⟨_, w2⟩ | ⟨u, w1, w2, w3, w4⟩
                  · rw [valT_at Sn.nd (List.mem_of_getElem? hq1)] at w2; cases w2
                  · rw [valT_at Sn.nd (List.mem_of_getElem? hq1)] at w3
                    cases w3
                    have gg : DGet HD z (.int qq.1) (some u) := .inl ⟨kvB, Sum.inl qq.1, .inr ⟨od, sC _ _ upd_same⟩, rfl, w2.symm⟩
                    obtain ⟨ua, us, rfl, su, au⟩ := dp_tup w4
                    have lu := DpAll.len au
                    refine gname ⟨rfl, ?_⟩
                    dsimp only [tYes]
                    rw [if_pos rfl]
                    refine ⟨_, rfl, _, rfl, z, _, rfl, gg, ?_⟩
                    have ly : ys.length ≤ 100000 := by rw [b2, List.length_map, List.length_take]; omega
                    refine ⟨_, _, rfl, .inr su, ys, b1, Nat.lt_of_le_of_lt ly (by decide), _, fun b o e => by rw [upd_ne (ne_of_none e hD)]; exact sC _ _ e, upd_same, ?_⟩
                    rw [List.take_add_one, hq1, List.map_append, ← b2, lu]
                    rfl
                · rintro HC ⟨ys, sC, b1, b2⟩
                  rw [lkB, List.take_length] at b2
                  have fB := sC _ _ upd_same
                  have sF := keep_frz hzB sC
                  walk_at "go"
                  refine ⟨fB, ?_⟩
                  have hD2 : (upd HC z (.dK kvB)) D = some (.lst ys) := by rw [upd_ne Dz]; exact b1
                  have fzE : FndA K (upd HC z (.dK kvB)) z (up1 n v T) := ⟨kvB, upd_same, tab_same sF Sn.t.nd tB⟩
                  have dlE := dp_same sF _ _ dlB
                  have drE := dp_same sF _ _ drB
                  have sE := sB.trans sF
                  generalize upd HC z (.dK kvB) = HE at hD2 fzE dlE drE sE
                  clear sF fB sC b1 dlB drB sB hzB tB TF sD hD nf
                  obtain ⟨al', xl', rfl, sl', ql'⟩ := dp_tup dlE
                  obtain ⟨ar', xr', rfl, sr', qr'⟩ := dp_tup drE
                  have lxl' := DpAll.len ql'
                  have lxr' := DpAll.len qr'
                  walk_at "go"
                  refine ⟨_, _, rfl, .inr sl', ?_⟩
                  walk_at "go"
                  refine ⟨_, _, rfl, .inr sr', ?_⟩
                  walk_at "go"
                  refine newN (n := 2) rfl (by decide) fun p2 np2 => ?_
                  walk_at "go"
                  have sP := same_upd (o := .lst [V.int (xl'.length : Nat), V.int (xr'.length : Nat)]) np2
                  refine ⟨D, p2, ys, _, rfl, rfl, sP _ _ hD2, upd_same, Nat.le_trans (show _ ≤ 100000 by rw [b2, List.length_map]; show _ + 2 ≤ _; omega) (by decide), fun p3 np3 => ?_⟩
                  walk_at "go"
                  have sP3 := same_upd (o := .lst (ys ++ [V.int (xl'.length : Nat), V.int (xr'.length : Nat)])) np3
                  have sQ := sP.trans sP3
                  have sHQ := sE.trans sQ
                  have nsE : ys ++ [V.int (xl'.length : Nat), V.int (xr'.length : Nat)] = (((up1 n v T).map fun q => (q.2.length : Int)) ++ [((appM [(n, v)] L').length : Int), ((appM [(n, v)] R').length : Int)]).map V.int := by
                    rw [b2, lxl', lxr', List.map_append, List.map_map]
                    rfl
                  refine ⟨p3, ((up1 n v T).map fun q => (q.2.length : Int)) ++ [((appM [(n, v)] L').length : Int), ((appM [(n, v)] R').length : Int)], rfl, SqL.of (by rw [← nsE]; exact upd_same), by rw [List.length_append]; exact Nat.lt_of_lt_of_le (by decide : 0 < 2) (Nat.le_add_left _ _), fun m hm hall => ?_⟩
                  have g1 : ((appM [(n, v)] L').length : Int) ≤ m := hall _ (List.mem_append_right _ (.head _))
                  have g2 : ((appM [(n, v)] R').length : Int) ≤ m := hall _ (List.mem_append_right _ (.tail _ (.head _)))
                  have g3 : m ≤ max ((appM [(n, v)] L').length : Int) ((appM [(n, v)] R').length : Int) := by
                    rcases List.mem_append.mp hm with h | h
                    · obtain ⟨qq, hqq, rfl⟩ := List.mem_map.mp h
                      exact (Sn.inf qq hqq).elim (fun w => by have := w.length_le; omega) (fun w => by have := w.length_le; omega)
                    · rcases List.mem_cons.mp h with rfl | h
                      · omega
                      · rw [List.mem_singleton.mp h]; omega
                  walk_at "go"
                  refine ite2 (fun h1 => ?_) (fun h1 => ?_)
                  · have h1 := of_decide_eq_true h1
                    walk_at "go"
                    rcases dif with ⟨e, _⟩ | ⟨n', v', e, ⟨no, _⟩ | ⟨_, ⟨big, es⟩ | ⟨fit, j, ek, eg'⟩⟩⟩
                    · rw [bm] at e; cases e
                    · rw [bm] at e; cases e; exact absurd no own
                    · subst es
                      exact q _ sHQ
                    · rw [bm] at e; cases e; omega
                  · have h1 : ¬ (B : Int) < m := fun w => h1 (decide_eq_true w)
                    walk_at "go"
                    rcases dif with ⟨e, _⟩ | ⟨n', v', e, ⟨no, _⟩ | ⟨_, ⟨big, es⟩ | ⟨fit, j, ek, eg'⟩⟩⟩
                    · rw [bm] at e; cases e
                    · rw [bm] at e; cases e; exact absurd no own
                    · rw [bm] at e; cases e; omega
                    · rw [bm] at e; cases e
                      have lp := appM_len tm p
                      have eP := (List.take_append_drop p.length (appM [(n, v)] p)).symm
                      have lP : ((appM [(n, v)] p).take p.length).length = p.length := by rw [List.length_take]; omega
                      have eL2 : appM [(n, v)] L' = (appM [(n, v)] p).take p.length ++ ((appM [(n, v)] p).drop p.length ++ appM [(n, v)] (e1 :: l)) := by rw [eL, appM_app, ← List.append_assoc, List.take_append_drop]
                      have eR2 : appM [(n, v)] R' = (appM [(n, v)] p).take p.length ++ ((appM [(n, v)] p).drop p.length ++ appM [(n, v)] (e2 :: r)) := by rw [eR, appM_app, ← List.append_assoc, List.take_append_drop]
                      have lm := congrArg List.length eL2
                      rw [List.length_append] at lm
                      exact ⟨_, by omega, j, _, _, _, (appM [(n, v)] p).take p.length, _, _, .ref al', .ref ar', _, _, _, _, _, by rw [lP], sHQ, dp_same sQ _ _ dlE, dp_same sQ _ _ drE, fzE.same' Sn.t.nd sQ, eg', Sn, by omega, by omega, vf_bind vv vfl, vf_bind vv vfr, by omega, eL2, eR2, rfl⟩
          · have vs1 : ∀ d ∈ e1 :: t1, NdA d := fun d hd => sb1.1.2 d (by rw [et1]; exact hd)
            have vs2 : ∀ d ∈ e2 :: t2, NdA d := fun d hd => sb2.1.2 d (by rw [et2]; exact hd)
            have vv1 : ∀ d ∈ e1 :: t1, Vf d := fun d hd => vfl d (by rw [eL]; exact List.mem_append_right _ (List.mem_of_mem_take (show d ∈ sub1 (e1 :: l) by rw [et1]; exact hd)))
            have vv2 : ∀ d ∈ e2 :: t2, Vf d := fun d hd => vfr d (by rw [eR]; exact List.mem_append_right _ (List.mem_of_mem_take (show d ∈ sub1 (e2 :: r) by rw [et2]; exact hd)))
            have toB : toA e1 e2 = (isVarN e1 && !c) := by
              rw [hc]
              unfold toA
              cases isVarN e1 <;> cases isVarN e2 <;> simp
            cases c with
            | true =>
              have hc2 := hc.symm
              rw [Bool.and_eq_true, Bool.and_eq_true] at hc2
              refine ifc false (fun QT hQ => ?_) (fun hA => nomatch hA) (fun _ => ?_)
              · walk_at "go"
                refine ixT (j := 0) F6.s1 F6.h1 ?_
                walk_at "go"
                refine ixT (j := 0) F6.s2 F6.nm ?_
                walk_at "go"
                rw [dec_nm, hc2.1.2]
                exact hQ
              · rw [Bool.not_true, Bool.and_false] at toB
                exact hu _ _ ⟨a6, a5, e2, t2, e1 :: t1, rfl, vs2, rfl, d6, d5, nn2, vf2, vs1, vv1, (fun z => nomatch z), (fun vb => by rw [← et1]; exact bind_B nn1 nn2 toB vb), fun vb => bind_C toB vb⟩
            | false =>
              rw [Bool.not_false, Bool.and_true] at toB
              refine ifc (!isVarN e1) (fun QT hQ => ?_) (fun hA => ?_) (fun hA => ?_)
              · walk_at "go"
                refine ixT (j := 0) F5.s1 F5.h1 ?_
                walk_at "go"
                refine ixT (j := 0) F5.s2 F5.nm ?_
                walk_at "go"
                rw [dec_nm]
                exact hQ
              · rw [Bool.not_eq_true'] at hA
                rw [hA] at toB
                walk_at "gs"
                exact hu _ _ ⟨a6, a5, e2, t2, e1 :: t1, rfl, vs2, rfl, d6, d5, nn2, vf2, vs1, vv1, (fun z => nomatch z), (fun vb => by rw [← et1]; exact bind_B nn1 nn2 toB vb), fun vb => bind_C toB vb⟩
              · rw [Bool.not_eq_false'] at hA
                rw [hA] at toB
                exact hu _ _ ⟨a5, a6, e1, t1, e2 :: t2, rfl, vs1, rfl, d5, d6, nn1, vf1, vs2, vv2, (fun z => nomatch z), (fun _ => by rw [← et2]; exact bind_A nn1 nn2 ne toB), fun vb => by rw [hA] at vb; cases vb⟩
        · refine ifc (isVarN e1 && isVarN e2 && decide (numN e1 < numN e2)) (fun QT hQ => ?_) (fun hA => ?_) (fun hB => ?_)
          · walk_at "go"
            refine ⟨_, _, rfl, .inr F5.s1, ?_⟩
            walk_at "go"
            by_cases q1 : (xs5.length : Int) = 1
            · rw [decide_eq_true q1]
              walk_at "go"
              refine ⟨_, _, rfl, .inr F6.s1, ?_⟩
              walk_at "go"
              by_cases q2 : (xs6.length : Int) = 1
              · rw [decide_eq_true q2]
                walk_at "go"
                refine ixT (j := 0) F5.s1 F5.h1 ?_
                walk_at "go"
                refine ixT (j := 0) F5.s2 F5.nm ?_
                walk_at "go"
                rw [dec_nm]
                by_cases va : isVarN e1 = true
                · rw [va, Bool.true_and] at hQ
                  rw [va]
                  walk_at "go"
                  refine ixT (j := 0) F6.s1 F6.h1 ?_
                  walk_at "go"
                  refine ixT (j := 0) F6.s2 F6.nm ?_
                  walk_at "go"
                  rw [dec_nm]
                  by_cases vb : isVarN e2 = true
                  · rw [vb, Bool.true_and] at hQ
                    rw [vb]
                    walk_at "go"
                    refine ixT (j := 0) F5.s1 F5.h1 ?_
                    walk_at "go"
                    refine ixT (j := 1) F5.s2 (F5.num va) ?_
                    walk_at "go"
                    refine ixT (j := 0) F6.s1 F6.h1 ?_
                    walk_at "go"
                    refine ixT (j := 1) F6.s2 (F6.num vb) ?_
                    walk_at "go"
                    exact hQ
                  · rw [Bool.eq_false_iff.mpr vb, Bool.false_and] at hQ
                    rw [Bool.eq_false_iff.mpr vb]
                    walk_at "go"
                    exact hQ
                · rw [Bool.eq_false_iff.mpr va, Bool.false_and, Bool.false_and] at hQ
                  rw [Bool.eq_false_iff.mpr va]
                  walk_at "go"
                  exact hQ
              · rw [decide_eq_false q2]
                have vb : isVarN e2 = false := by
                  refine Bool.eq_false_iff.mpr fun vb => q2 ?_
                  rw [sub1_var nn2 vb] at et2
                  have := F6.len
                  rw [← (List.cons.inj et2).2] at this
                  rw [this]
                  rfl
                rw [vb, Bool.and_false, Bool.false_and] at hQ
                walk_at "go"
                exact hQ
            · rw [decide_eq_false q1]
              have va : isVarN e1 = false := by
                refine Bool.eq_false_iff.mpr fun va => q1 ?_
                rw [sub1_var nn1 va] at et1
                have := F5.len
                rw [← (List.cons.inj et1).2] at this
                rw [this]
                rfl
              rw [va, Bool.false_and, Bool.false_and] at hQ
              walk_at "go"
              exact hQ
          · walk_at "gs"
            refine hu _ _ ⟨_, rfl, rfl, ?_⟩
            rw [hA]
            rfl
          · refine hu _ _ ⟨_, rfl, rfl, ?_⟩
            rw [hB]
            rfl
    · have e0 : l = [] := List.eq_nil_of_length_eq_zero (by
        have : ¬ (p.length : Int) < xl.length := fun w => hm (decide_eq_true w)
        rw [lxl, eL, List.length_append] at this
        omega)
      subst e0
      have e3 : r = [] := same_len hr hl rfl
      subst e3
      obtain rfl := eL.trans eR.symm
      have es := eg_same eg rfl
      subst es
      walk_at "go"
      exact q z H1 s1 nz fT

theorem ok_Side___init__ {f : Addr} {fd : FuncData} (F : Fun K "__init__" "Side.__init__" s_Side___init__ f fd) (E : Bi K mg) (D_Side_add_variables : HasM P w K mg base 2 "Side" "add_variables" ["self", "term", "times"] (sp_Side_add_variables K)) : FnOk P w K mg base CX0 3 f fd ["self", "term"] (sp_Side___init__ K) := by
  obtain ⟨f_Side_add_variables, fd_Side_add_variables, G_Side_add_variables, M_Side_add_variables, b_Side_add_variables⟩ := D_Side_add_variables
  refine F.ok sc_Side___init__ (fun vs H Q E h => ?_) (fun cdv A outer s H vs Q E' hr h => ?_)
  · obtain ⟨p, dx, x, ds, rfl, _⟩ := h
    rfl
  · obtain ⟨p, dx, x, ds, rfl, hp, dd, nd, hl, q⟩ := h
    refine ⟨_, (pss_cons (ps_fld (pv 0) (pe_callTy call_list_of (by rfl) E.b_list (by decide +kernel) (pa_cons (pe_revT (pv 1)) pa_nil)) rfl)
      (pss_cons (ps_fld (pv 0) (pe_callB call_len_seq (by rfl) E.b_len PySem.boot_len (pa_cons (pv 1) pa_nil)) rfl)
      (pss_cons (ps_fld (pv 0) pe_dnewK rfl)
      (pss_one (ps_expr (pe_meth (pv 0) E.cl_Side M_Side_add_variables G_Side_add_variables (hr.mono (by decide)) b_Side_add_variables .nil pass0 (pa_cons (pv 1) (pa_cons pe_int pa_nil)))))))), ?_⟩
    refine st_of (σ := [some _, some _]) rfl ?_
    walk_at "go"
    cases id dd with
    | @tup a xs _ sx ax =>
    have lx := DpAll.len ax
    refine ⟨a, xs, rfl, sx, fun t nt => ?_⟩
    walk_at "go"
    have s1 := same_upd (o := .tup xs.reverse) nt
    have pt : p ≠ t := ne_of_none hp nt
    refine ⟨t, xs.reverse, rfl, .inr (SqT.of upd_same), fun r nr => ?_⟩
    walk_at "go"
    have pr : p ≠ r := ne_of_none (s1 _ _ hp) nr
    have s2 := s1.trans (same_upd (o := .lst xs.reverse) nr)
    refine ⟨p, _, dx, [], rfl, s2 _ _ hp, E.cl_Side, E.nA_Side_rest, by decide, ?_⟩
    rw [pi_Side_rest (v_total := V.non) (v_counts := V.non)]
    walk_at "go"
    have b1 : But p H (upd (upd (upd H t (.tup xs.reverse)) r (.lst xs.reverse)) p (.ins (clsA K "Side") dx [("rest", .ref r)])) := (But.of s2).trans But.put
    have p3 : (upd (upd (upd H t (.tup xs.reverse)) r (.lst xs.reverse)) p (.ins (clsA K "Side") dx [("rest", .ref r)])) p = some (.ins (clsA K "Side") dx [("rest", .ref r)]) := upd_same
    have r3 : (upd (upd (upd H t (.tup xs.reverse)) r (.lst xs.reverse)) p (.ins (clsA K "Side") dx [("rest", .ref r)])) r = some (.lst xs.reverse) := by rw [upd_ne pr.symm]; exact upd_same
    have sx3 : SqT K (upd (upd (upd H t (.tup xs.reverse)) r (.lst xs.reverse)) p (.ins (clsA K "Side") dx [("rest", .ref r)])) a xs := sqT_ins (s2 _ _ hp) (same_sqT s2 sx)
    have ax3 : DpAll K (upd (upd (upd H t (.tup xs.reverse)) r (.lst xs.reverse)) p (.ins (clsA K "Side") dx [("rest", .ref r)])) xs ds := dp_mapAll (fun b xs' z => sqT_ins (s2 _ _ hp) (same_sqT s2 z)) _ _ (nds_noL nd) ax
    have nr0 : H r = Option.none := s1.free nr
    generalize (upd (upd (upd H t (.tup xs.reverse)) r (.lst xs.reverse)) p (.ins (clsA K "Side") dx [("rest", .ref r)])) = H3 at b1 p3 r3 sx3 ax3
    refine ⟨a, xs, rfl, .inr sx3, ?_⟩
    walk_at "go"
    refine ⟨p, _, dx, _, rfl, p3, E.cl_Side, E.nA_Side_total, by show 1 < 1000; decide, ?_⟩
    rw [pi_Side_total (v_counts := V.non)]
    walk_at "go"
    have p4 : (upd H3 p (.ins (clsA K "Side") dx [("rest", .ref r), ("total", .int (xs.length : Int))])) p = some (.ins (clsA K "Side") dx [("rest", .ref r), ("total", .int (xs.length : Int))]) := upd_same
    have b4 : But p H (upd H3 p (.ins (clsA K "Side") dx [("rest", .ref r), ("total", .int (xs.length : Int))])) := b1.trans But.put
    have r4 : (upd H3 p (.ins (clsA K "Side") dx [("rest", .ref r), ("total", .int (xs.length : Int))])) r = some (.lst xs.reverse) := by rw [upd_ne pr.symm]; exact r3
    have sx4 := fun b xs' (z : SqT K H3 b xs') => sqT_ins (o := .ins (clsA K "Side") dx [("rest", .ref r), ("total", .int (xs.length : Int))]) p3 z
    have ax4 := dp_mapAll sx4 _ _ (nds_noL nd) ax3
    have sx4 := sx4 _ _ sx3
    generalize (upd H3 p (.ins (clsA K "Side") dx [("rest", .ref r), ("total", .int (xs.length : Int))])) = H4 at p4 b4 r4 sx4 ax4
    intro c nc
    have pc : p ≠ c := ne_of_none p4 nc
    have rc : r ≠ c := ne_of_none r4 nc
    walk_at "go"
    have s5 := same_upd (o := .dK []) nc
    refine ⟨p, _, dx, _, rfl, s5 _ _ p4, E.cl_Side, E.nA_Side_counts, by show 2 < 1000; decide, ?_⟩
    rw [pi_Side_counts]
    walk_at "go"
    have b6 : But p H (upd (upd H4 c (.dK [])) p (.ins (clsA K "Side") dx (fs_Side (.ref r) (.int (xs.length : Int)) (.ref c)))) := (b4.trans (But.of s5)).trans But.put
    refine ⟨p, dx, _, rfl, upd_same, fs_Side_no_add_variables, ?_⟩
    walk_at "go"
    have tr6 : ∀ b xs', SqT K H4 b xs' → SqT K (upd (upd H4 c (.dK [])) p (.ins (clsA K "Side") dx (fs_Side (.ref r) (.int (xs.length : Int)) (.ref c)))) b xs' := fun b xs' z => sqT_ins (s5 _ _ p4) (same_sqT s5 z)
    refine ⟨p, r, c, _, .ref a, ds, 1, fun _ => 0, 0, rfl, ⟨dx, upd_same⟩, ⟨[], by rw [upd_ne pc.symm]; exact upd_same, fun n => .inr ⟨rfl, rfl⟩, Nat.le_refl _⟩, .tup (tr6 _ _ sx4) (dp_mapAll tr6 _ _ (nds_noL nd) ax4), nd, by decide, by omega, by decide, fun H7 c7 b7 => ?_⟩
    walk_at "go"
    have nt6 : notTup (upd (upd H4 c (.dK [])) p (.ins (clsA K "Side") dx (fs_Side (.ref r) (.int (xs.length : Int)) (.ref c)))) c := .inr (.inl ⟨[], by rw [upd_ne pc.symm]; exact upd_same⟩)
    have nc0 : H c = Option.none := by
      cases e : H c with
      | none => rfl
      | some o => rw [b4 c o pc.symm e] at nc; cases nc
    refine q r c H7 nr0 nc0 ⟨dx, ?_⟩ ⟨⟨xs.reverse, ?_, ?_⟩, nd⟩ ?_ pr.symm pc.symm rc fun b o h1 e => ?_
    · have := b7 p _ pc upd_same
      rw [lx] at this
      exact this
    · refine b7 r _ rc ?_
      rw [upd_ne pr.symm]
      exact s5 _ _ r4
    · exact dp_mapAll (fun b xs' z => sqT_but nt6 b7 (tr6 b xs' z)) _ _ (nds_noL fun d hd => nd d (List.mem_reverse.mp hd)) (dpAll_rev ax4)
    · have e1 : (fun n => 0 + (1 : Int).toNat * cntN n ds) = fun n => cntN n ds := by
        funext n
        show 0 + 1 * cntN n ds = cntN n ds
        omega
      have c7' := c7
      rw [e1, Nat.zero_add] at c7'
      exact c7'
    · exact b7 b o (fun z => by rw [z, nc0] at e; cases e) (b6 b o h1 e)

theorem ok_Side_take_rest {f : Addr} {fd : FuncData} (F : Fun K "take_rest" "Side.take_rest" s_Side_take_rest f fd) (E : Bi K mg) (D_arity_of : Has P w K mg base 2 "arity_of" ["node"] (sp_arity_of K)) (D_Side_take : HasM P w K mg base 2 "Side" "take" ["self", "found"] (sp_Side_take K)) : FnOk P w K mg base CX0 3 f fd ["self", "node", "found"] (sp_Side_take_rest K) := by
  obtain ⟨f_arity_of, fd_arity_of, G_arity_of, g_arity_of, kp_arity_of, b_arity_of⟩ := D_arity_of
  obtain ⟨f_Side_take, fd_Side_take, G_Side_take, M_Side_take, b_Side_take⟩ := D_Side_take
  refine F.ok sc_Side_take_rest (fun vs H Q E h => ?_) (fun cdv A outer s H vs Q E' hr h => ?_)
  · obtain ⟨p, r, c, d, n, x, e, ds, F, T, k, rfl, _⟩ := h
    rfl
  · obtain ⟨p, r, c, d, tot, x, e, ds, F, T, k, rfl, hs, hk, hf, tri, tT, dx, ne, tm, hlen, q⟩ := h
    refine ⟨_, (pss_cons (ps_set (i := 3) sc_Side_take_rest.nd rfl (Or.inl rfl) (pe_lst (pa_cons (pv 1) pa_nil)))
      (pss_cons (ps_set (i := 4) sc_Side_take_rest.nd rfl (Or.inl rfl) (pe_call G_arity_of (hr.mono (by decide)) (by rfl) g_arity_of kp_arity_of b_arity_of .nil pass0 (pa_cons (pv 1) pa_nil)))
      (pss_cons (ps_while PassesOwn.never (pt_cmpR op_gt (pv 4) pe_int (nomark _)) (pss_cons (ps_set (i := 1) sc_Side_take_rest.nd rfl (Or.inl rfl) (pe_meth (pv 0) E.cl_Side M_Side_take G_Side_take (hr.mono (by decide)) b_Side_take .nil pass0 (pa_cons (pv 2) pa_nil)))
      (pss_cons (ps_expr (pe_bm PySem.F.plainAttrs_list PySem.F.slot_list_append PySem.F.type_list_append mt_append (pv 3) (pa_cons (pv 1) pa_nil)))
      (pss_one (ps_aug (i := 4) sc_Side_take_rest.nd rfl (Or.inl rfl) (pe_op op_sub (pe_call G_arity_of (hr.mono (by decide)) (by rfl) g_arity_of kp_arity_of b_arity_of .nil pass0 (pa_cons (pv 1) pa_nil)) pe_int) ip_add)))))
      (pss_one (ps_ret (pe_callTy call_tuple_of (by rfl) E.b_tuple (by decide +kernel) (pa_cons (pv 3) pa_nil))))))), ?_⟩
    refine st_of (σ := [some _, some _, some _, none, none]) rfl ?_
    walk_at "go"
    obtain ⟨dx0, hp⟩ := hs.ob
    obtain ⟨xs, hr0, hd⟩ := hk.at_
    obtain ⟨kvs, hf0, tk0⟩ := hf.at_
    have prn : p ≠ r := ne_of hp hr0 (by intro z; cases z)
    have drn : d ≠ r := ne_of hf0 hr0 (by intro z; cases z)
    have nt : notTup H r := .inl ⟨_, hr0⟩
    refine newN (n := 1) rfl (by decide) fun N nN => ?_
    have rN : r ≠ N := ne_of_none hr0 nN
    have sN := same_upd (o := .lst [x]) nN
    walk_at "go"
    refine ⟨x, e, rfl, dp_same sN _ _ dx, ne, ?_⟩
    walk_at "go"
    have tm2 : Cls (arN e + k) (appM T ds) := by
      have := tm.1.2
      rwa [show k + 1 - 1 + arN e = arN e + k by omega] at this
    refine while_m (fun j σ H' => ∃ (m : Nat) (x1 : V) (ds1 : List PyData) (col : List PyData) (cs : List V), σ = [some (.ref p), some x1, some (.ref d), some (.ref N), some (.int (m : Int))] ∧ StkA K H' r ds1 ∧ H' N = some (.lst cs) ∧ DpAll K H' cs col ∧ But r H H' ∧ Cls (m + k) (appM T ds1) ∧ col ++ appM T ds1 = e :: appM T ds ∧ tk m (appM T ds1) + col.length = tk 1 (e :: appM T ds) ∧ (∀ y ∈ col, NdA y) ∧ j = (appM T ds1).length)
      ⟨_, arN e, x, ds, [e], [x], rfl, ⟨⟨xs, sN _ _ hr0, dp_sameAll sN _ _ hd⟩, hk.nd⟩, upd_same, .cons (dp_same sN _ _ dx) .nil, But.of sN, tm2, rfl, by rw [tk_cons (by decide)]; show _ = 1 + tk (1 - 1 + arN e) _; rw [show 1 - 1 + arN e = arN e by omega]; exact Nat.add_comm _ _, fun y hy => by rw [List.mem_singleton.mp hy]; exact ne, rfl⟩ ?_
    rintro j σ H1 ⟨m, x1, ds1, col, cs, rfl, k1, hN1, dN1, b1, c1, e1, t1, n1, rfl⟩
    have p1 := b1 p _ prn hp
    have f1 := b1 d _ drn hf0
    have tk1 : TabK K H1 kvs F := TabK.mono (fun v' ds' hn' hd' => dp_map (fun b xs q => sqT_but nt b1 q) _ _ (tup_noL hn') hd') tri.tm.nd tk0
    have lc : col.length + (appM T ds1).length = (appM T ds).length + 1 := by
      have := congrArg List.length e1
      rw [List.length_append, List.length_cons] at this
      exact this
    walk_at "go"
    refine ite2 (fun hm => ?_) (fun hm => ?_)
    · have hm : (0 : Int) < m := of_decide_eq_true hm
      refine while_n ?_
      walk_at "go"
      refine ⟨p, dx0, _, rfl, p1, fs_Side_no_take, ?_⟩
      walk_at "go"
      have hne : ds1 ≠ [] := fun z => by
        rw [z] at c1
        have : m + k = 0 := c1
        omega
      refine ⟨p, r, c, d, tot, ds1, F, T, rfl, ⟨dx0, p1⟩, k1, ⟨kvs, f1, tk1⟩, tri, tT, hne, by omega, fun v e2 ds2 H2 ne2 nk2 a2 k2 d2 b2 => ?_⟩
      walk_at "go"
      obtain ⟨zs1, hz1, _⟩ := k1.at_
      have nt1 : notTup H1 r := .inl ⟨_, hz1⟩
      have hN2 : H2 N = some (.lst cs) := b2 N _ rN.symm hN1
      refine tyl (SqL.of hN2) ?_
      walk_at "go"
      have lcs := DpAll.len dN1
      refine rap hN2 (by omega) ?_
      walk_at "go"
      have blN : notTup H2 N := .inl ⟨_, hN2⟩
      have dN2 : DpAll K H2 cs col := dp_mapAll (fun b xs q => sqT_but nt1 b2 q) _ _ (nds_noL n1) dN1
      refine ⟨v, e2, rfl, dp_put blN _ _ (nd_noL ne2) d2, ne2, ?_⟩
      walk_at "go"
      refine ⟨_, _, rfl, rfl, ?_⟩
      have em : (m : Int) + ((arN e2 : Int) - 1) = ((m - 1 + arN e2 : Nat) : Int) := by omega
      rw [a2] at e1 t1 c1
      have c2 := c1.2
      rw [tk_cons (by omega)] at t1
      obtain ⟨zs2, hz2, dz2⟩ := k2.at_
      refine ⟨(appM T ds2).length, by rw [a2, List.length_cons]; omega, m - 1 + arN e2, v, ds2, col ++ [e2], cs ++ [v], by show [some (V.ref p), some v, some (V.ref d), some (V.ref N), some (V.int ((m : Int) + ((arN e2 : Int) - 1)))] = _; rw [em], ⟨⟨zs2, by rw [upd_ne rN]; exact hz2, dp_putAll blN _ _ (nds_noL fun y hy => k2.nd y (List.mem_reverse.mp hy)) dz2⟩, k2.nd⟩, upd_same, dpAll_end (dp_putAll blN _ _ (nds_noL n1) dN2) (dp_put blN _ _ (nd_noL ne2) d2), ?_, ?_, ?_, ?_, ?_, rfl⟩
      · intro b o hb hbo
        rw [upd_ne (ne_of_none hbo nN)]
        exact b2 b o hb (b1 b o hb hbo)
      · rwa [show m + k - 1 + arN e2 = m - 1 + arN e2 + k by omega] at c2
      · rw [List.append_assoc]; exact e1
      · rw [List.length_append, List.length_singleton]; omega
      · intro y hy
        rcases List.mem_append.mp hy with hy | hy
        · exact n1 y hy
        · rw [List.mem_singleton.mp hy]; exact ne2
    · have hm0 : m = 0 := by
        have : ¬ (0 : Int) < m := fun z => hm (decide_eq_true z)
        omega
      subst hm0
      rw [tk_zero, Nat.zero_add] at t1
      have ec : col = sub1 (e :: appM T ds) := by
        unfold sub1
        rw [← t1, ← e1, List.take_left]
      have er : appM T ds1 = (e :: appM T ds).drop (tk 1 (e :: appM T ds)) := by
        rw [← t1, ← e1, List.drop_left]
      walk_at "go"
      refine ⟨_, _, rfl, .inl ⟨SqL.of hN1, fun t nt' => ?_⟩⟩
      have st := same_upd (o := .tup cs) nt'
      obtain ⟨zs1, hz1, dz1⟩ := k1.at_
      rw [ec] at dN1
      exact q (.ref t) ds1 _ er ⟨⟨zs1, st _ _ hz1, dp_sameAll st _ _ dz1⟩, k1.nd⟩ (.tup (SqT.of upd_same) (dp_sameAll st _ _ dN1)) (b1.trans (But.of st))

theorem ok_Side_bind {f : Addr} {fd : FuncData} (F : Fun K "bind" "Side.bind" s_Side_bind f fd) (E : Bi K mg) (D_Side_add_variables : HasM P w K mg base 2 "Side" "add_variables" ["self", "term", "times"] (sp_Side_add_variables K)) : FnOk P w K mg base CX0 3 f fd ["self", "number", "value"] (sp_Side_bind K) := by
  obtain ⟨f_Side_add_variables, fd_Side_add_variables, G_Side_add_variables, M_Side_add_variables, b_Side_add_variables⟩ := D_Side_add_variables
  refine F.ok sc_Side_bind (fun vs H Q E h => ?_) (fun cdv A outer s H vs Q E' hr h => ?_)
  · obtain ⟨p, r, c, n, x, ds, y, f, m, rfl, _⟩ := h
    rfl
  · obtain ⟨p, r, c, n, x, ds, y, f, m, rfl, hs, hc, dx, nd, hm, hfy, hl, q⟩ := h
    refine ⟨_, (pss_cons (ps_set (i := 3) sc_Side_bind.nd rfl (Or.inl rfl) (pe_dpop2 (pe_fld (pv 0) rfl) (pv 1) pe_int ⟨by rfl, by rfl, by rfl, by rfl⟩))
      (pss_one (ps_if (pt_cmpR op_gt (pv 3) pe_int (nomark _)) (pss_cons (ps_fldaug (pv 0) (pe_op op_mul (pv 3) (pe_op op_sub (pe_callB call_len_seq (by rfl) E.b_len PySem.boot_len (pa_cons (pv 2) pa_nil)) pe_int)) in_add)
      (pss_one (ps_expr (pe_meth (pv 0) E.cl_Side M_Side_add_variables G_Side_add_variables (hr.mono (by decide)) b_Side_add_variables .nil pass0 (pa_cons (pv 2) (pa_cons (pv 3) pa_nil)))))) pss_nil))), ?_⟩
    refine st_of (σ := [some _, some _, some _, none]) rfl ?_
    walk_at "go"
    obtain ⟨dx0, hp⟩ := hs.ob
    obtain ⟨kvs, hc0, hct, hcl⟩ := hc.at_
    have pc : p ≠ c := ne_of hp hc0 (by intro z; cases z)
    have nt : notTup H c := .inr (.inl ⟨_, hc0⟩)
    refine ⟨p, _, _, _, _, rfl, hp, E.cl_Side, E.nA_Side_counts, fs_Side_counts, ?_⟩
    refine ⟨c, rfl, .inl ⟨kvs, .inl hc0⟩, ?_⟩
    walk_at "go"
    have fin0 : f y = 0 → Q .non H := fun e0 => by
      refine q H ⟨dx0, by rw [e0]; simpa using hp⟩ ⟨kvs, hc0, fun z => ?_, by omega⟩ (fun _ _ _ _ e => e)
      dsimp only
      rw [e0, Nat.zero_mul, Nat.add_zero]
      by_cases ez : z = y
      · rw [if_pos ez, ez]
        rcases hct y with e | ⟨e, _⟩
        · exact .inl (by rw [e, e0])
        · exact .inr ⟨e, rfl⟩
      · rw [if_neg ez]; exact hct z
    refine ⟨kvs, Sum.inl y, hc0, rfl, fun v hv => ?_, fun hn => ?_⟩
    · have ev : v = .int (f y : Int) := by
        rcases hct y with e | ⟨e, _⟩
        · rw [e] at hv; exact (Option.some.inj hv).symm
        · rw [e] at hv; cases hv
      subst ev
      have b1 : But c H (upd H c (.dK (dropK kvs (Sum.inl y)))) := But.put
      have c1 : CntA (upd H c (.dK (dropK kvs (Sum.inl y)))) c (fun z => if z = y then 0 else f z) m := ⟨_, upd_same, fun z => by
        dsimp only
        rw [valV_dropK]
        by_cases ez : z = y
        · rw [if_pos (by rw [ez]), if_pos ez]; exact .inr ⟨rfl, rfl⟩
        · rw [if_neg (fun w => ez (Sum.inl.inj w)), if_neg ez]; exact hct z, Nat.le_trans (dropK_le _ _) hcl⟩
      have p1 := b1 p _ pc hp
      generalize upd H c (.dK (dropK kvs (Sum.inl y))) = H1 at b1 c1 p1
      walk_at "go"
      refine ite2 (fun hpos => ?_) (fun hpos => ?_)
      · have hpos : (0 : Int) < f y := of_decide_eq_true hpos
        cases id dx with
        | @tup ax xs _ sx da =>
        have lx := DpAll.len da
        walk_at "go"
        refine ⟨p, _, dx0, _, _, rfl, p1, E.cl_Side, E.nA_Side_total, fs_Side_total, ?_⟩
        walk_at "go"
        have sx1 : SqT K H1 ax xs := sqT_but nt b1 sx
        refine ⟨ax, xs, rfl, .inr sx1, ?_⟩
        walk_at "go"
        refine g_i1 (.inl ⟨by omega, by omega⟩) ?_
        refine ⟨_, _, rfl, rfl, dx0, _, p1, by show 3 < 1000; decide, ?_⟩
        rw [ps_Side_total]
        walk_at "go"
        refine ⟨p, dx0, _, rfl, upd_same, fs_Side_no_add_variables, ?_⟩
        walk_at "go"
        obtain ⟨k2, g1, g2, g3⟩ := c1.at_
        have dx2 : Dp K (upd H1 p (.ins (clsA K "Side") dx0 (fs_Side (.ref r) (.int (n + (f y : Int) * ((xs.length : Int) - 1))) (.ref c)))) (.ref ax) (.tuple ds) := by
          have ntp : ∀ b xs', SqT K H1 b xs' → SqT K (upd H1 p (.ins (clsA K "Side") dx0 (fs_Side (.ref r) (.int (n + (f y : Int) * ((xs.length : Int) - 1))) (.ref c)))) b xs' := fun b xs' z => sqT_ins p1 z
          exact dp_map (fun b xs' z => ntp b xs' (sqT_but nt b1 z)) _ _ (tup_noL nd) dx
        refine ⟨p, r, c, _, .ref ax, ds, (f y : Int), _, m, rfl, ⟨dx0, upd_same⟩, ⟨k2, by rw [upd_ne pc.symm]; exact g1, g2, g3⟩, dx2, nd, by omega, hm, by omega, fun H2 c2 b2 => ?_⟩
        walk_at "go"
        refine q H2 ⟨dx0, ?_⟩ ?_ fun b o h1 h2 e => b2 b o h2 (by rw [upd_ne h1]; exact b1 b o h2 e)
        · have := b2 p _ pc upd_same
          rw [lx] at this
          exact this
        · rw [Int.toNat_natCast] at c2
          exact c2
      · walk_at "go"
        have e0 : f y = 0 := by
          have : ¬ (0 : Int) < f y := fun z => hpos (decide_eq_true z)
          omega
        obtain ⟨k2, g1, g2, g3⟩ := c1.at_
        refine q H1 ⟨dx0, by rw [e0]; simpa using p1⟩ ⟨k2, g1, fun z => ?_, by omega⟩ (fun b o _ h2 e => b1 b o h2 e)
        dsimp only
        rw [e0, Nat.zero_mul, Nat.add_zero]
        exact g2 z
    · have e0 : f y = 0 := by
        rcases hct y with e | ⟨_, e⟩
        · rw [e] at hn; cases hn
        · exact e
      walk_at "go"
      rw [decide_eq_false (show ¬ (0 : Int) < 0 from by decide)]
      walk_at "go"
      exact fin0 e0

theorem ok_settle {f : Addr} {fd : FuncData} (F : Fun K "settle" "settle" s_settle f fd) (E : Bi K mg) (D_apply : Has P w K mg base 2 "apply" ["substitution", "term"] (sp_apply K)) : FnOk P w K mg base CX0 3 f fd ["found"] (sp_settle K) := by
  obtain ⟨f_apply, fd_apply, G_apply, g_apply, kp_apply, b_apply⟩ := D_apply
  refine F.ok sc_settle (fun vs H Q E h => ?_) (fun cdv A outer s H vs Q E' hr h => ?_)
  · obtain ⟨d, F, T, rfl, _⟩ := h
    rfl
  · obtain ⟨d, F, T, rfl, hf, tri, nd, ht, hq, hl, q⟩ := h
    refine ⟨_, (pss_cons (ps_set (i := 1) sc_settle.nd rfl (Or.inr rfl) pe_dnewK)
      (pss_cons (ps_for PassesOwn.never rfl (pi_reversed (by rfl) E.b_reversed (pa_cons (pe_callTy (call_list_dK rfl) (by rfl) E.b_list (by decide +kernel) (pa_cons (pv 0) pa_nil)) pa_nil)) (pg_name (i := 2) sc_settle.nd rfl (Or.inl rfl)) (pss_one (ps_dput (hu_of hr) (pv 1) (pv 2) (pe_call G_apply (hr.mono (by decide)) (by rfl) g_apply kp_apply b_apply .nil pass0 (pa_cons (pv 1) (pa_cons (pe_dget (hu_of hr) (pv 0) (pv 2) (fun _ _ => rfl)) pa_nil))) (by rfl))))
      (pss_one (ps_ret (pe_lock (pe_dc (own := [("number", 2)]) (g := gName 2) (tt := tYes) rfl sc_settle.nd (pi_keys (pv 0)) (blkOk_by (N := N_settle) (sc := defScope s_settle) (by decide +kernel)) (fun _ _ _ _ _ => pg_name (i := 2) sc_settle.nd rfl (Or.inl rfl)) (fun _ _ _ _ _ => pts_nil) (fun _ _ _ _ _ => (pv 2)) (fun _ _ _ _ _ => (pe_dget (hu_of hr) (pv 1) (pv 2) (fun _ _ => rfl))))))))), ?_⟩
    refine st_of (σ := [some _, none, none]) rfl ?_
    walk_at "go"
    obtain ⟨kvs, hd0, tk0⟩ := hf.at_
    have ndF : (F.map (·.1)).Nodup := by rw [tri.keys]; exact nd
    have eT := tri.list nd
    intro z nz
    have dz : d ≠ z := ne_of_none hd0 nz
    walk_at "go"
    have d1 : (upd H z (.dK [])) d = some (.dK kvs) := by rw [upd_ne dz]; exact hd0
    refine ⟨d, kvs, rfl, d1, fun r nr => ?_⟩
    have dr : d ≠ r := ne_of_none d1 nr
    have zr : z ≠ r := fun w => by rw [← w, upd_same] at nr; cases nr
    walk_at "go"
    have lk := TabK.len tk0
    refine ⟨r, kvs.map fun kv => kV kv.1, rfl, SqL.of upd_same, ?_⟩
    have s2 := (same_upd (o := .dK []) nz).trans (same_upd (o := .lst (kvs.map fun kv => kV kv.1)) nr)
    have z2 : (upd (upd H z (.dK [])) r (.lst (kvs.map fun kv => kV kv.1))) z = some (.dK []) := by rw [upd_ne zr]; exact upd_same
    have r2 : (upd (upd H z (.dK [])) r (.lst (kvs.map fun kv => kV kv.1))) r = some (.lst (kvs.map fun kv => kV kv.1)) := upd_same
    generalize (upd (upd H z (.dK [])) r (.lst (kvs.map fun kv => kV kv.1))) = H2 at s2 z2 r2
    have nz2 : ∀ o, Same H (upd H2 z o) := fun o b u e => by rw [upd_ne (ne_of_none e nz)]; exact s2 _ _ e
    have lkm : (kvs.map fun kv => kV kv.1).length = F.length := by rw [List.length_map, lk]
    refine for_it (walk_rev (K := K) (a := r) (xs := kvs.map fun kv => kV kv.1)) (fun i σ H' => ∃ (v2 : Option V), σ = [some (.ref d), some (.ref z), v2] ∧ FndA K H' z (stl T (F.drop (F.length - i))).reverse ∧ Same H H' ∧ H' r = some (.lst (kvs.map fun kv => kV kv.1)))
      ⟨none, rfl, ⟨[], z2, by rw [Nat.sub_zero, List.drop_length]; exact True.intro⟩, s2, r2⟩ (fun i σ H' _ ⟨_, _, _, _, e⟩ => SqL.of e) ?_ ?_
    · rintro i x σ H3 H4 hi ⟨v2, rfl, f3, s3, r3⟩ ⟨rfl, hx⟩
      rw [lkm] at hi hx
      rw [List.getElem?_map] at hx
      obtain ⟨kv, hkv, rfl⟩ : ∃ kv, kvs[F.length - 1 - i]? = some kv ∧ kV kv.1 = x := by
        cases e : kvs[F.length - 1 - i]? with
        | none => rw [e] at hx; cases hx
        | some kv => rw [e] at hx; exact ⟨kv, rfl, Option.some.inj hx⟩
      obtain ⟨qq, hq1, hq2, hq3⟩ := TabK.get tk0 hkv
      have mq : qq ∈ F := List.mem_of_getElem? hq1
      rw [hq2]
      have ds0 : H4 d = some (.dK kvs) := s3 _ _ hd0
      walk_at "go"
      have vq : valV kvs (Sum.inl qq.1) = some kv.2 := by
        rcases TabK.val qq.1 tk0 with ⟨_, w2⟩ | ⟨u, w, w1, w2, _⟩
        · exact absurd rfl (valT_none w2 qq mq)
        · rw [w1]
          have := valV_get tk0 ndF hkv
          rw [hq2, w1] at this
          exact this
      refine ⟨d, kv.2, rfl, by have := DGet.k (k := Sum.inl qq.1) ds0; rw [vq] at this; exact this, ?_⟩
      walk_at "go"
      have i1 : F.length - 1 - i + 1 = F.length - i := by omega
      have es := settle_at tri nd hq1
      rw [i1] at es
      have mT : (qq.1, appM T qq.2) ∈ T := by
        have : (qq.1, appM T qq.2) ∈ stl T F := List.mem_map.mpr ⟨qq, mq, rfl⟩
        rwa [eT] at this
      have tS : TabT (stl T (F.drop (F.length - i))).reverse := fun y hy => by
        obtain ⟨w, hw, rfl⟩ := List.mem_map.mp (List.mem_reverse.mp hy)
        exact appM_tms ht (tri.tm w (List.mem_of_mem_drop hw))
      have tq := tri.tm qq mq
      refine ⟨z, _, kv.2, qq.2, rfl, f3, tS, dp_same s3 _ _ hq3, tq.2, by rw [es]; exact Nat.le_trans (hq _ mT) (by decide), fun v H5 s5 d5 => ?_⟩
      rw [es] at d5
      walk_at "go"
      obtain ⟨k3, g1, g2⟩ := f3.at_
      have g5 := s5 _ _ g1
      have l3 := TabK.len g2
      unfold stl at l3
      rw [List.length_reverse, List.length_map, List.length_drop] at l3
      refine ⟨z, _, rfl, DPut.k (k := Sum.inl qq.1) g5 (Nat.lt_of_le_of_lt (show _ ≤ 100000 by omega) (by decide)), ?_⟩
      walk_at "go"
      have s35 := s3.trans s5
      refine ⟨_, rfl, ⟨_, upd_same, ?_⟩, fun b o e => by rw [upd_ne (ne_of_none e nz)]; exact s35 _ _ e, by rw [upd_ne zr.symm]; exact s5 _ _ r3⟩
      have nk : qq.1 ∉ (stl T (F.drop (F.length - i))).reverse.map (·.1) := fun m => by
        rw [List.map_reverse, List.mem_reverse, stl_keys] at m
        obtain ⟨w, hw, ew⟩ := List.mem_map.mp m
        obtain ⟨j, hj⟩ := List.getElem?_of_mem hw
        rw [List.getElem?_drop] at hj
        have a1 : (F.map (·.1))[F.length - 1 - i]? = some qq.1 := by rw [List.getElem?_map, hq1]; rfl
        have a2 : (F.map (·.1))[F.length - i + j]? = some qq.1 := by rw [List.getElem?_map, hj, ← ew]; rfl
        have b1 := (List.getElem?_eq_some_iff.mp a1).1
        have := (List.getElem?_inj b1 ndF).mp (a1.trans a2.symm)
        omega
      have tN : TabN (stl T (F.drop (F.length - i))).reverse := tS.nd
      have ntz : notTup H5 z := .inr (.inl ⟨_, g5⟩)
      have add := TabK.add (tab_put (o := .dK (putK k3 (Sum.inl qq.1) v)) ntz tN (tab_same s5 tN g2)) nk (dp_put (o := .dK (putK k3 (Sum.inl qq.1) v)) ntz _ _ (tup_noL (appM_nd ht.nd tq.2)) d5)
      have e2 : (stl T (F.drop (F.length - (i + 1)))).reverse = (stl T (F.drop (F.length - i))).reverse ++ [(qq.1, appM T qq.2)] := by
        have : F.drop (F.length - (i + 1)) = qq :: F.drop (F.length - i) := by
          obtain ⟨c1, c2⟩ := List.getElem?_eq_some_iff.mp hq1
          rw [show F.length - (i + 1) = F.length - 1 - i by omega, List.drop_eq_getElem_cons c1, c2, i1]
        rw [this]
        unfold stl
        rw [List.map_cons, List.reverse_cons]
      rw [e2]
      exact add
    rintro σ H3 ⟨v2, rfl, f3, s3, r3⟩
    rw [lkm, Nat.sub_self, List.drop_zero, eT] at f3
    obtain ⟨k3, g1, g2⟩ := f3.at_
    walk_at "go"
    have d3 := s3 _ _ hd0
    refine ⟨d, .dK kvs, d3, trivial, fun od => ⟨_, rfl, d, od, rfl, .inl ⟨kvs, upd_same, fun D nD => ?_⟩⟩⟩
    have nD3 : H3 D = Option.none := by
      by_cases w : D = d
      · rw [w, upd_same] at nD; cases nD
      · rw [upd_ne w] at nD; exact nD
    have zd3 : z ≠ d := dz.symm
    have Dd : D ≠ d := fun w => by rw [w, d3] at nD3; cases nD3
    have gz : (upd H3 d (.frz od (.dK kvs))) z = some (.dK k3) := by rw [upd_ne zd3]; exact g1
    refine dc_it walk_keys (fun i H' => ∃ kv4, Same (upd H3 d (.frz od (.dK kvs))) H' ∧ H' D = some (.dK kv4) ∧ TabK K H' kv4 (T.take i))
      ⟨[], same_upd nD, upd_same, by rw [List.take_zero]; exact True.intro⟩ (fun i H' _ ⟨_, e, _⟩ => e _ _ upd_same) ?_ ?_
    · rintro i x H4 H5 hi ⟨kv4, s4, e4, T4⟩ ⟨rfl, kk, vv, hk, rfl⟩
      obtain ⟨qq, hq1, hq2, _⟩ := TabK.get tk0 hk
      have hq2 : kk = Sum.inl qq.1 := hq2
      subst hq2
      obtain ⟨tt, ht1, ht2⟩ : ∃ tt, T[i]? = some tt ∧ tt.1 = qq.1 := by
        have e1 : (F.map (·.1))[i]? = some qq.1 := by rw [List.getElem?_map, hq1]; rfl
        rw [tri.keys, List.getElem?_map] at e1
        cases e : T[i]? with
        | none => rw [e] at e1; cases e1
        | some w => rw [e] at e1; exact ⟨w, rfl, Option.some.inj e1⟩
      have ntd : notTup H3 d := .inr (.inl ⟨_, d3⟩)
      have g4 : H5 z = some (.dK k3) := s4 _ _ gz
      have ntr : TabN T.reverse := fun q hq => ht.nd q (List.mem_reverse.mp hq)
      have T3 : TabK K H5 k3 T.reverse := tab_same s4 ntr (tab_put ntd ntr g2)
      have vt := valT_at nd (List.mem_of_getElem? ht1)
      rw [ht2] at vt
      rcases TabK.val qq.1 T3 with ⟨_, w2⟩ | ⟨u, w, w1, w2, dw⟩
      · rw [valT_rev nd, vt] at w2; cases w2
      rw [valT_rev nd, vt] at w2
      obtain rfl := Option.some.inj w2
      refine gname ⟨rfl, ?_⟩
      dsimp only [tYes]
      rw [if_pos rfl]
      refine ⟨_, rfl, _, rfl, _, rfl, z, ?_⟩
      refine ⟨u, rfl, by have := DGet.k (k := Sum.inl qq.1) g4; rw [w1] at this; exact this, ?_⟩
      have l4 := TabK.len T4
      rw [List.length_take] at l4
      have iT : i < T.length := (List.getElem?_eq_some_iff.mp ht1).1
      have lT : T.length = F.length := by have := congrArg List.length tri.keys; rwa [List.length_map, List.length_map, eq_comm] at this
      refine ⟨kv4, _, rfl, e4, Nat.lt_of_le_of_lt (show _ ≤ 100000 by omega) (by decide), _, fun b o e => by rw [upd_ne (ne_of_none e nD)]; exact s4 _ _ e, upd_same, ?_⟩
      have nk : qq.1 ∉ (T.take i).map (·.1) := by rw [← ht2]; exact nodup_new nd ht1
      have ntk : TabN (T.take i) := fun y hy => ht.nd y (List.mem_of_mem_take hy)
      have ntD : notTup H5 D := .inr (.inl ⟨_, e4⟩)
      have add := TabK.add (tab_put (o := .dK (putK kv4 (Sum.inl qq.1) u)) ntD ntk T4) nk (dp_put (o := .dK (putK kv4 (Sum.inl qq.1) u)) ntD _ _ (tup_noL (ht.nd tt (List.mem_of_getElem? ht1))) dw)
      have e2 : T.take (i + 1) = T.take i ++ [(qq.1, tt.2)] := by
        rw [List.take_add_one, ht1, ← ht2]
        rfl
      rw [e2]
      exact add
    · rintro H4 ⟨kv4, s4, e4, T4⟩
      have d4 := s4 _ _ upd_same
      have HD : H D = Option.none := by
        cases e : H D with
        | none => rfl
        | some o => rw [s3 _ _ e] at nD3; cases nD3
      have nt4 : notTup H4 d := .inr (.inr ⟨_, _, d4⟩)
      rw [List.take_of_length_le (by have := congrArg List.length tri.keys; rw [List.length_map, List.length_map] at this; omega)] at T4
      refine ⟨d4, q D _ (fun b o e => ?_) HD ⟨kv4, by rw [upd_ne Dd]; exact e4, tab_put nt4 ht.nd T4⟩⟩
      by_cases w : b = d
      · subst w
        rw [hd0] at e
        rw [upd_same]
        exact e
      · rw [upd_ne w]
        exact s4 _ _ (by rw [upd_ne w]; exact s3 _ _ e)

theorem ok_unify_within {f : Addr} {fd : FuncData} (F : Fun K "unify_within" "unify_within" s_unify_within f fd) (E : Bi K mg) (D_Side___init__ : HasI P w K mg base 3 "Side" ["self", "term"] (sp_Side___init__ K)) (D_Side_take : HasM P w K mg base 2 "Side" "take" ["self", "found"] (sp_Side_take K)) (D_is_variable : Has P w K mg base 1 "is_variable" ["node"] (sp_is_variable K)) (D_Side_take_rest : HasM P w K mg base 3 "Side" "take_rest" ["self", "node", "found"] (sp_Side_take_rest K)) (D_Side_bind : HasM P w K mg base 3 "Side" "bind" ["self", "number", "value"] (sp_Side_bind K)) (D_settle : Has P w K mg base 3 "settle" ["found"] (sp_settle K)) : FnOk P w K mg base (L2.CX P w) 5 f fd ["left", "right", "most"] (sp_unify_within K) := by
  obtain ⟨f_Side___init__, fd_Side___init__, G_Side___init__, M_Side___init__, g_Side___init__, b_Side___init__⟩ := D_Side___init__
  obtain ⟨f_Side_take, fd_Side_take, G_Side_take, M_Side_take, b_Side_take⟩ := D_Side_take
  obtain ⟨f_is_variable, fd_is_variable, G_is_variable, g_is_variable, kp_is_variable, b_is_variable⟩ := D_is_variable
  obtain ⟨f_Side_take_rest, fd_Side_take_rest, G_Side_take_rest, M_Side_take_rest, b_Side_take_rest⟩ := D_Side_take_rest
  obtain ⟨f_Side_bind, fd_Side_bind, G_Side_bind, M_Side_bind, b_Side_bind⟩ := D_Side_bind
  obtain ⟨f_settle, fd_settle, G_settle, g_settle, kp_settle, b_settle⟩ := D_settle
  refine F.okX sc_unify_within (fun vs H Q E h => ?_) (fun cdv A outer s H vs Q E' hr h => ?_)
  · obtain ⟨x, y, L, R, m, k, s, rfl, _⟩ := h
    rfl
  · obtain ⟨x, y, L, R, m, k, s, rfl, dx, dy, tl, tr, l1, l2, m0, m1, eg, k1, q⟩ := h
    refine ⟨_, (pss_cons (ps_set (i := 3) sc_unify_within.nd rfl (Or.inl rfl) (pe_callB (call_max3Nu rfl) (by rfl) E.b_max (by decide +kernel) (pa_cons (pv 2) (pa_cons (pe_callB call_len_seq (by rfl) E.b_len PySem.boot_len (pa_cons (pv 0) pa_nil)) (pa_cons (pe_callB call_len_seq (by rfl) E.b_len PySem.boot_len (pa_cons (pv 1) pa_nil)) pa_nil)))))
      (pss_cons (ps_par (i := 4) (j := 5) rfl sc_unify_within.nd rfl rfl (by decide) rfl rfl (pa_cons (pe_make M_Side___init__ G_Side___init__ (hr.mono (by decide)) (by rfl) g_Side___init__ b_Side___init__ .nil pass0 (pa_cons (pv 0) pa_nil)) (pa_cons (pe_make M_Side___init__ G_Side___init__ (hr.mono (by decide)) (by rfl) g_Side___init__ b_Side___init__ .nil pass0 (pa_cons (pv 1) pa_nil)) pa_nil)) (by rfl))
      (pss_cons (ps_set (i := 6) sc_unify_within.nd rfl (Or.inl rfl) pe_dnewK)
      (pss_cons (ps_while (passes_of rfl) (pt_cmpR op_gt (pe_callB call_len_seq (by rfl) E.b_len PySem.boot_len (pa_cons (pe_fld (pv 4) rfl) pa_nil)) pe_int (nomark _)) (pss_cons (ps_par (i := 7) (j := 8) rfl sc_unify_within.nd rfl rfl (by decide) rfl rfl (pa_cons (pe_meth (pv 4) E.cl_Side M_Side_take G_Side_take (hr.mono (by decide)) b_Side_take .nil pass0 (pa_cons (pv 6) pa_nil)) (pa_cons (pe_meth (pv 5) E.cl_Side M_Side_take G_Side_take (hr.mono (by decide)) b_Side_take .nil pass0 (pa_cons (pv 6) pa_nil)) pa_nil)) (by rfl))
      (pss_cons (ps_if (pt_cmpR (op_eqD hr.units) (pv 7) (pv 8) (nomark _)) (pss_one ps_continue) pss_nil)
      (pss_cons (ps_if (pw_and (pt_val (pe_call G_is_variable (hr.mono (by decide)) (by rfl) g_is_variable kp_is_variable b_is_variable .nil pass0 (pa_cons (pv 7) pa_nil))) (pw_and1 (pt_not (pw_and (pt_val (pe_call G_is_variable (hr.mono (by decide)) (by rfl) g_is_variable kp_is_variable b_is_variable .nil pass0 (pa_cons (pv 8) pa_nil))) (pw_and1 (pt_cmpR op_gt (pe_ix ix_tup (pv 8) pe_int (fun _ _ => rfl)) (pe_ix ix_tup (pv 7) pe_int (fun _ _ => rfl)) (nomark _)))).pt))).pt (pss_one (ps_par (i := 9) (j := 10) rfl sc_unify_within.nd rfl rfl (by decide) rfl rfl (pa_cons (pe_ix ix_tup (pv 7) pe_int (fun _ _ => rfl)) (pa_cons (pe_meth (pv 5) E.cl_Side M_Side_take_rest G_Side_take_rest (hr.mono (by decide)) b_Side_take_rest .nil pass0 (pa_cons (pv 8) (pa_cons (pv 6) pa_nil))) pa_nil)) (by rfl))) (pss_one (ps_if (pt_val (pe_call G_is_variable (hr.mono (by decide)) (by rfl) g_is_variable kp_is_variable b_is_variable .nil pass0 (pa_cons (pv 8) pa_nil))) (pss_one (ps_par (i := 9) (j := 10) rfl sc_unify_within.nd rfl rfl (by decide) rfl rfl (pa_cons (pe_ix ix_tup (pv 8) pe_int (fun _ _ => rfl)) (pa_cons (pe_meth (pv 4) E.cl_Side M_Side_take_rest G_Side_take_rest (hr.mono (by decide)) b_Side_take_rest .nil pass0 (pa_cons (pv 7) (pa_cons (pv 6) pa_nil))) pa_nil)) (by rfl))) (pss_one (ps_ret pe_non)))))
      (pss_cons (ps_if (pt_cmpR (op_inT (units65 hr)) (pe_tup (pa_cons pe_str (pa_cons (pv 9) pa_nil))) (pv 10) (by rfl)) (pss_one (ps_ret pe_non)) pss_nil)
      (pss_cons (ps_dput (hu_of hr) (pv 6) (pv 9) (pv 10) (by rfl))
      (pss_cons (ps_expr (pe_meth (pv 4) E.cl_Side M_Side_bind G_Side_bind (hr.mono (by decide)) b_Side_bind .nil pass0 (pa_cons (pv 9) (pa_cons (pv 10) pa_nil))))
      (pss_cons (ps_expr (pe_meth (pv 5) E.cl_Side M_Side_bind G_Side_bind (hr.mono (by decide)) b_Side_bind .nil pass0 (pa_cons (pv 9) (pa_cons (pv 10) pa_nil))))
      (pss_one (ps_if (pt_cmpR op_gt (pe_callB (call_max2 rfl) (by rfl) E.b_max (by decide +kernel) (pa_cons (pe_fld (pv 4) rfl) (pa_cons (pe_fld (pv 5) rfl) pa_nil))) (pv 3) (nomark _)) (pss_one (ps_raise rfl (takes_of rfl rfl rfl rfl) (pmk_own PySem.F.excBase_ValueError E.x_TooLarge.xC E.x_TooLarge.gC E.x_TooLarge.kC (raises_own E.x_TooLarge.bC E.x_TooLarge.tC) rfl))) pss_nil))))))))))
      (pss_one (ps_ret (pe_call G_settle (hr.mono (by decide)) (by rfl) g_settle kp_settle b_settle .nil pass0 (pa_cons (pv 6) pa_nil)))))))), ?_⟩
    refine st_of (σ := [some _, some _, some _, none, none, none, none, none, none, none, none]) rfl ?_
    walk_at "go"
    obtain ⟨ax, xs, rfl, sx, axs⟩ := dp_tup dx
    obtain ⟨ay, ys, rfl, sy, ays⟩ := dp_tup dy
    have lx := DpAll.len axs
    have ly := DpAll.len ays
    refine ⟨_, _, rfl, .inr sx, ?_⟩
    walk_at "go"
    refine ⟨_, _, rfl, .inr sy, ?_⟩
    walk_at "go"
    refine ⟨_, _, _, _, rfl, max3_int _ _ _, ?_⟩
    walk_at "go"
    have eB : max (max m (xs.length : Int)) (ys.length : Int) = ((max m.toNat (max L.length R.length) : Nat) : Int) := by omega
    rw [eB]
    have Bl : max m.toNat (max L.length R.length) ≤ 1000 := by omega
    have Bx : L.length ≤ max m.toNat (max L.length R.length) := by omega
    have By : R.length ≤ max m.toNat (max L.length R.length) := by omega
    generalize max m.toNat (max L.length R.length) = B at eg Bl eB Bx By
    intro o1 dx1 no1 nd1 d1o
    have sA : Same H (upd (upd H dx1 (.own o1)) o1 (.ins (clsA K "Side") dx1 [])) := (same_upd nd1).trans (same_upd (by rw [upd_ne d1o.symm]; exact no1))
    have hA : (upd (upd H dx1 (.own o1)) o1 (.ins (clsA K "Side") dx1 [])) o1 = some (.ins (clsA K "Side") dx1 []) := upd_same
    generalize (upd (upd H dx1 (.own o1)) o1 (.ins (clsA K "Side") dx1 [])) = HA at sA hA
    refine ⟨o1, dx1, .ref ax, L, rfl, hA, dp_same sA _ _ dx, tl.2, by omega, fun r1 c1 HB nr1 nc1 sd1 st1 ct1 ro1 co1 rc1 b1 => ⟨rfl, ?_⟩⟩
    have sB : Same H HB := fun b o e => b1 b o (ne_of_none e no1) (sA b o e)
    walk_at "go"
    intro o2 dx2 no2 nd2 d2o
    have sC : Same HB (upd (upd HB dx2 (.own o2)) o2 (.ins (clsA K "Side") dx2 [])) := (same_upd nd2).trans (same_upd (by rw [upd_ne d2o.symm]; exact no2))
    have hC : (upd (upd HB dx2 (.own o2)) o2 (.ins (clsA K "Side") dx2 [])) o2 = some (.ins (clsA K "Side") dx2 []) := upd_same
    generalize (upd (upd HB dx2 (.own o2)) o2 (.ins (clsA K "Side") dx2 [])) = HC at sC hC
    refine ⟨o2, dx2, .ref ay, R, rfl, hC, dp_same (sB.trans sC) _ _ dy, tr.2, by omega, fun r2 c2 HD nr2 nc2 sd2 st2 ct2 ro2 co2 rc2 b2 => ⟨rfl, ?_⟩⟩
    walk_at "go"
    intro z nz
    walk_at "go"
    have sD : Same H HD := fun b o e => b2 b o (ne_of_none (sB b o e) no2) (sC _ _ (sB b o e))
    have sE := same_upd (o := .dK []) nz
    have keep : ∀ x o, HB x = some o → HD x = some o := fun x o e => b2 x o (ne_of_none e no2) (sC _ _ e)
    have u0 : UH K (upd HD z (.dK [])) o1 r1 c1 o2 r2 c2 z (L.length : Int) (R.length : Int) L R (fun n => cntN n L) (fun n => cntN n R) L.length R.length [] := by
      obtain ⟨i1, e1⟩ := sd1.ob
      obtain ⟨i2, e2⟩ := sd2.ob
      obtain ⟨x1, g1, m1⟩ := st1.at_
      obtain ⟨x2, g2, m2⟩ := st2.at_
      obtain ⟨y1, k1, w1⟩ := ct1.at_
      obtain ⟨y2, k2, w2⟩ := ct2.at_
      have sBD : Same HB HD := keep
      exact ⟨⟨i1, sE _ _ (keep _ _ e1)⟩, ⟨i2, sE _ _ e2⟩, ⟨⟨x1, sE _ _ (keep _ _ g1), dp_sameAll (sBD.trans sE) _ _ m1⟩, st1.nd⟩, ⟨⟨x2, sE _ _ g2, dp_sameAll sE _ _ m2⟩, st2.nd⟩, ⟨y1, sE _ _ (keep _ _ k1), w1⟩, ⟨y2, sE _ _ k2, w2⟩, ⟨[], upd_same, True.intro⟩, (fun _ w => (nomatch w)), ne_of_none e1 no2, (fun w => by rw [← w, sC _ _ g1] at nr2; cases nr2), (fun w => by rw [← w, sC _ _ k1] at nc2; cases nc2), (ne_of_none (keep _ _ k1) nz).symm, (ne_of_none k2 nz).symm⟩
    have sF := sD.trans sE
    have fz : H z = Option.none := none_back sD nz
    have fr1 : H r1 = Option.none := none_back sA nr1
    have fc1 : H c1 = Option.none := none_back sA nc1
    have fr2 : H r2 = Option.none := none_back (sB.trans sC) nr2
    have fc2 : H c2 = Option.none := none_back (sB.trans sC) nc2
    have fo2 : H o2 = Option.none := none_back sB no2
    generalize upd HD z (.dK []) = HE at u0 sF
    refine while_m (fun j σ H' => ∃ (k : Nat) (L' R' : List PyData) (T F : Tab) (p ds1 ds2 : List PyData) (M1 M2 : Nat) (v7 v8 v9 v10 : Option V),
        σ = [some (.ref ax), some (.ref ay), some (.int m), some (.int (B : Nat)), some (.ref o1), some (.ref o2), some (.ref z), v7, v8, v9, v10] ∧ Same H H' ∧
        UH K H' o1 r1 c1 o2 r2 c2 z (L'.length : Int) (R'.length : Int) ds1 ds2 (fun n => cntN n L') (fun n => cntN n R') M1 M2 F ∧
        Eg B k L' R' T s ∧ Sol L' R' T ∧ Tri F T ∧ L'.length ≤ B ∧ R'.length ≤ B ∧ M1 + k * 1000 ≤ 2001000 ∧ M2 + k * 1000 ≤ 2001000 ∧ F.length + k ≤ 2000 ∧
        L' = p ++ appM T ds1 ∧ R' = p ++ appM T ds2 ∧ j = k * 1001 + (appM T ds1).length)
      ⟨_, k, L, R, [], [], [], L, R, _, _, _, _, _, _, rfl, sF, u0, eg, sol_zero tl tr, tri_zero, Bx, By, by omega, by omega, by rw [List.length_nil]; omega, (appM_none L).symm, (appM_none R).symm, rfl⟩ ?_
    rintro j σ H1 ⟨k, L', R', T, F, p, ds1, ds2, M1, M2, v7, v8, v9, v10, rfl, s1, u, eg, S, tri, bl, br, w1, w2, fl, eL, eR, rfl⟩
    walk_at "go"
    obtain ⟨i1, p1⟩ := u.s1.ob
    obtain ⟨xs1, g1, m1'⟩ := u.k1.at_
    have lx1 := DpAll.len m1'
    rw [List.length_reverse] at lx1
    refine ⟨o1, _, _, _, _, rfl, p1, E.cl_Side, E.nA_Side_rest, fs_Side_rest, ?_⟩
    walk_at "go"
    refine ⟨_, _, rfl, .inl (SqL.of g1), ?_⟩
    walk_at "go"
    have dr1 : (appM T ds1).length ≤ L'.length := by rw [eL, List.length_append]; omega
    have dr2 : (appM T ds2).length ≤ R'.length := by rw [eR, List.length_append]; omega
    have tT := S.t
    have hl := S.l
    have hr := S.r
    rw [eL] at hl
    rw [eR] at hr
    refine ite2 (fun hm => ?_) (fun hm => ?_)
    · have hm : (0 : Int) < xs1.length := of_decide_eq_true hm
      refine while_n ?_
      have ne1 : ds1 ≠ [] := fun w => by rw [w] at lx1; rw [List.length_nil] at lx1; omega
      have ne2 : ds2 ≠ [] := fun w => by
        rw [w] at hr
        have := same_len hl hr rfl
        have := appM_len tT ds1
        rw [‹appM T ds1 = []›, List.length_nil] at this
        exact ne1 (List.eq_nil_of_length_eq_zero (by omega))
      walk_at "go"
      obtain ⟨i2, p2⟩ := u.s2.ob
      refine ⟨o1, i1, _, rfl, p1, fs_Side_no_take, ?_⟩
      walk_at "go"
      refine ⟨o1, r1, c1, z, _, ds1, F, T, rfl, u.s1, u.k1, u.fd, tri, tT, ne1, by omega, fun v1 e1 ds1' H2 nn1 nk1 ap1 k1' d1 b1' => ?_⟩
      have u1 := u.stk1 b1' k1'
      have s2 : Same H H2 := fun b o e => b1' b o (ne_of_none e fr1) (s1 b o e)
      walk_at "go"
      obtain ⟨i3, p3⟩ := u1.s2.ob
      refine ⟨o2, i3, _, rfl, p3, fs_Side_no_take, ?_⟩
      walk_at "go"
      refine ⟨o2, r2, c2, z, _, ds2, F, T, rfl, u1.s2, u1.k2, u1.fd, tri, tT, ne2, by omega, fun v2 e2 ds2' H3 nn2 nk2 ap2 k2' d2 b2' => ?_⟩
      have u2 := u1.stk2 b2' k2'
      have s3 : Same H H3 := fun b o e => b2' b o (ne_of_none e fr2) (s2 b o e)
      have d1 : Dp K H3 v1 e1 := dp_map (fun _ _ q => (KpP.sqL b2').sqT u1.k2.nt u1.k2.nt q) _ _ (nd_noL nn1) d1
      clear u u1 s1 s2 b1' b2' k1' k2' p1 p2 p3 g1 m1' lx1 hm ne1 ne2
      rw [ap1] at eL hl dr1
      rw [ap2] at eR hr dr2
      walk_at "go"
      refine ⟨e1, e2, d1, d2, nd_shaped nn1, nd_shaped nn2, _, rfl, ite2 (fun he => ?_) (fun he => ?_)⟩
      · obtain rfl := (eq_nd nn1 nn2).mp he
        walk_at "go"
        exact ⟨_, by rw [ap1, List.length_cons]; omega, k, L', R', T, F, p ++ [e1], ds1', ds2', M1, M2, _, _, _, _, rfl, s3, u2, eg, S, tri, bl, br, w1, w2, fl, by rw [List.append_assoc]; exact eL, by rw [List.append_assoc]; exact eR, rfl⟩
      · have ne : e1 ≠ e2 := fun w => he ((eq_nd nn1 nn2).mpr w)
        have dif := eg_dif eg ne eL eR
        walk_at "gs"
        refine nx_via (fun σ H' => ∃ (n : Int) (v : List PyData) (vv : V) (es1 es2 x y : List PyData), σ = [some (.ref ax), some (.ref ay), some (.int m), some (.int (B : Nat)), some (.ref o1), some (.ref o2), some (.ref z), some v1, some v2, some (.int n), some vv] ∧ Same H H' ∧
          UH K H' o1 r1 c1 o2 r2 c2 z (L'.length : Int) (R'.length : Int) es1 es2 (fun n => cntN n L') (fun n => cntN n R') M1 M2 F ∧
          bindM (e1 :: appM T ds1') (e2 :: appM T ds2') = some (n, v) ∧ NdA (vN n) ∧ (∀ d ∈ v, NdA d) ∧ Dp K H' vv (.tuple v) ∧ L' = p ++ (x ++ appM T es1) ∧ R' = p ++ (y ++ appM T es2) ∧ (vN n ∉ v → appM [(n, v)] x = v ∧ appM [(n, v)] y = v)) ?_ fun hu => ?_
        · rintro σ H4 ⟨n, v, vv, es1, es2, x, y, rfl, s4, u4, bm, nn, nv, dv, eL', eR', xy⟩
          walk_at "go"
          refine ⟨by show 2 ≤ sizeLine; decide, fun tp ntp => ?_⟩
          have st := same_upd (o := .tup [V.str (Str.ofString "v"), V.int n]) ntp
          have dn : Dp K (upd H4 tp (.tup [V.str (Str.ofString "v"), V.int n])) (.ref tp) (vN n) := .tup (SqT.of upd_same) (.cons (.str _) (.cons (.int _) .nil))
          have u5 := u4.same st
          have s5 := s4.trans st
          have dv5 := dp_same st _ _ dv
          clear u4 s4 dv
          generalize (upd H4 tp (.tup [V.str (Str.ofString "v"), V.int n])) = H5 at dn u5 s5 dv5
          walk_at "go"
          refine ⟨vN n, v, dn, dv5, nd_shaped nn, tup_shaped nv, _, rfl, ite2 (fun hin => ?_) (fun hin => ?_)⟩
          · have own := (any_nd nv nn).mp hin
            walk_at "go"
            rcases dif with ⟨e, _⟩ | ⟨n', v', e, ⟨_, es⟩ | ⟨no, _⟩⟩
            · rw [bm] at e; cases e
            · subst es
              exact q _ s5
            · rw [bm] at e; cases e; exact absurd own no
          have own : vN n ∉ v := fun w => hin ((any_nd nv nn).mpr w)
          obtain ⟨xv, yv⟩ := xy own
          have bnd : Bnd L' R' T n v := by
            have := bind_ok (T := T) hl hr bm own
            rw [← eL, ← eR] at this
            exact this
          have nF : n ∉ F.map (·.1) := fun w => by
            rw [tri.keys] at w
            exact bnd.at_.elim (fun x => free_keys.mp S.fl n w x) fun x => free_keys.mp S.fr n w x
          obtain ⟨kvs, hz, tk⟩ := u5.fd.at_
          have lkv := TabK.len tk
          walk_at "go"
          refine ⟨z, _, rfl, DPut.k (k := Sum.inl n) hz (Nat.lt_of_le_of_lt (show _ ≤ 100000 by omega) (by decide)), ?_⟩
          have u6 := u5.put hz nF nv dv5
          have ntz : notTup H5 z := .inr (.inl ⟨_, hz⟩)
          have dv6 := dp_put (o := .dK (putK kvs (Sum.inl n) vv)) ntz _ _ (tup_noL nv) dv5
          have s6 : Same H (upd H5 z (.dK (putK kvs (Sum.inl n) vv))) := fun b o e => by rw [upd_ne (ne_of_none e fz)]; exact s5 _ _ e
          clear u5 s5 dv5 tk
          generalize (upd H5 z (.dK (putK kvs (Sum.inl n) vv))) = H6 at u6 s6 dv6
          walk_at "go"
          have vl : v.length ≤ 1000 := by
            exact bnd.inf.elim (fun w => by have := w.length_le; omega) (fun w => by have := w.length_le; omega)
          have cl := cnt_le n L'
          have cr := cnt_le n R'
          obtain ⟨i6, p6⟩ := u6.s1.ob
          refine ⟨o1, i6, _, rfl, p6, fs_Side_no_bind, ?_⟩
          walk_at "go"
          refine ⟨o1, r1, c1, _, vv, v, n, _, M1, rfl, u6.s1, u6.t1, dv6, nv, by omega, by show cntN n L' ≤ _; omega, by omega, fun H7 s7 t7 k7 => ?_⟩
          have u7 := u6.bnd1 k7 s7 t7
          have ss7 : Same H H7 := fun b o e => k7 b o (ne_of_none e no1) (ne_of_none e fc1) (s6 b o e)
          have dv7 : Dp K H7 vv (.tuple v) := dp_map (fun _ _ q => KpP.sqT k7 u6.s1.nt u6.t1.nt q) _ _ (tup_noL nv) dv6
          clear u6 s6 dv6 p6
          walk_at "go"
          obtain ⟨i7, p7⟩ := u7.s2.ob
          refine ⟨o2, i7, _, rfl, p7, fs_Side_no_bind, ?_⟩
          walk_at "go"
          refine ⟨o2, r2, c2, _, vv, v, n, _, M2, rfl, u7.s2, u7.t2, dv7, nv, by omega, by show cntN n R' ≤ _; omega, by omega, fun H8 s8 t8 k8 => ?_⟩
          have u8 := u7.bnd2 k8 s8 t8
          have ss8 : Same H H8 := fun b o e => k8 b o (ne_of_none e fo2) (ne_of_none e fc2) (ss7 b o e)
          clear u7 dv7 p7 ss7
          have lL : (L'.length : Int) + (cntN n L' : Int) * ((v.length : Int) - 1) = ((appM [(n, v)] L').length : Int) := (len_bind S.l.2).symm
          have lR : (R'.length : Int) + (cntN n R' : Int) * ((v.length : Int) - 1) = ((appM [(n, v)] R').length : Int) := (len_bind S.r.2).symm
          rw [lL, lR] at u8
          walk_at "go"
          obtain ⟨i8, p8⟩ := u8.s1.ob
          refine ⟨o1, _, _, _, _, rfl, p8, E.cl_Side, E.nA_Side_total, fs_Side_total, ?_⟩
          walk_at "go"
          obtain ⟨i9, p9⟩ := u8.s2.ob
          refine ⟨o2, _, _, _, _, rfl, p9, E.cl_Side, E.nA_Side_total, fs_Side_total, ?_⟩
          walk_at "go"
          refine ⟨_, _, rfl, ?_⟩
          walk_at "go"
          have T1 := app_up1 (n := n) (v := v) (T := T) u8.k1.nd
          have T2 := app_up1 (n := n) (v := v) (T := T) u8.k2.nd
          rcases dif with ⟨e, _⟩ | ⟨n', v', e, ⟨no, _⟩ | ⟨_, ⟨big, es⟩ | ⟨fit, j, ek, eg'⟩⟩⟩
          · rw [bm] at e; cases e
          · rw [bm] at e; cases e; exact absurd no own
          · rw [bm] at e; cases e
            subst es
            refine ite2 (fun _ => q _ ss8) (fun w => absurd (decide_eq_true ?_) w)
            split <;> omega
          · rw [bm] at e; cases e
            refine ite2 (fun w => absurd (of_decide_eq_true w) (by split <;> omega)) (fun _ => ?_)
            walk_at "go"
            have eL2 : appM [(n, v)] L' = appM [(n, v)] p ++ v ++ appM (up1 n v T) es1 := by rw [T1, eL', appM_app, appM_app, xv, List.append_assoc]
            have eR2 : appM [(n, v)] R' = appM [(n, v)] p ++ v ++ appM (up1 n v T) es2 := by rw [T2, eR', appM_app, appM_app, yv, List.append_assoc]
            have lm := congrArg List.length eL2
            rw [List.length_append] at lm
            exact ⟨_, by omega, j, _, _, _, _, appM [(n, v)] p ++ v, es1, es2, M1 + v.length, M2 + v.length, _, _, _, _, rfl, ss8, ⟨u8.s1, u8.s2, u8.k1, u8.k2, u8.t1.cong fun z => cnt_after nv S.l.2 own z, u8.t2.cong fun z => cnt_after nv S.r.2 own z, u8.fd, u8.fn, u8.oo, u8.rr, u8.cc, u8.z1, u8.z2⟩, eg', S.next bnd, tri.next S bnd, by omega, by omega, by omega, by omega, by rw [List.length_append, List.length_singleton]; omega, eL2, eR2, rfl⟩
        · refine ifc (toA e1 e2) (fun QT hQ => ?_) (fun hA => ?_) (fun hB => ?_)
          · walk_at "go"
            refine ⟨v1, e1, rfl, d1, nn1, ?_⟩
            unfold toA at hQ
            by_cases va : isVarN e1 = true
            · rw [va, Bool.true_and] at hQ
              rw [va]
              walk_at "go"
              refine ⟨v2, e2, rfl, d2, nn2, ?_⟩
              by_cases vb : isVarN e2 = true
              · rw [vb, Bool.true_and] at hQ
                rw [vb]
                have ea := var_vN nn1 va
                have eb := var_vN nn2 vb
                rw [ea] at d1
                rw [eb] at d2
                obtain ⟨t1, xs1, rfl, q1, y1⟩ := dp_tup d1
                obtain ⟨t2, xs2, rfl, q2, y2⟩ := dp_tup d2
                obtain ⟨w1, hw1, dw1⟩ := DpAll.get (i := 1) y1 rfl
                obtain ⟨w2, hw2, dw2⟩ := DpAll.get (i := 1) y2 rfl
                cases dw1
                cases dw2
                walk_at "go"
                refine ixT (j := 1) q2 hw2 ?_
                walk_at "go"
                refine ixT (j := 1) q1 hw1 ?_
                walk_at "go"
                exact hQ
              · have vb : isVarN e2 = false := Bool.eq_false_iff.mpr vb
                rw [vb, Bool.false_and] at hQ
                rw [vb]
                walk_at "go"
                exact hQ
            · have va : isVarN e1 = false := Bool.eq_false_iff.mpr va
              rw [va, Bool.false_and] at hQ
              rw [va]
              walk_at "go"
              exact hQ
          · have bm := bind_A (l := appM T ds1') (r := appM T ds2') nn1 nn2 ne hA
            have va : isVarN e1 = true := by
              unfold toA at hA
              rw [Bool.and_eq_true] at hA
              exact hA.1
            have ea := var_vN nn1 va
            have d1' := d1
            rw [ea] at d1'
            obtain ⟨t1, xs1, rfl, q1, y1⟩ := dp_tup d1'
            obtain ⟨w1, hw1, dw1⟩ := DpAll.get (i := 1) y1 rfl
            cases dw1
            walk_at "go"
            refine ixT (j := 1) q1 hw1 ?_
            obtain ⟨i3, p3⟩ := u2.s2.ob
            walk_at "go"
            refine ⟨o2, i3, _, rfl, p3, fs_Side_no_take_rest, ?_⟩
            walk_at "go"
            obtain ⟨kk, tm⟩ := tms_mid hr
            refine ⟨o2, r2, c2, z, _, v2, e2, ds2', F, T, kk, rfl, u2.s2, u2.k2, u2.fd, tri, tT, d2, nn2, tm, by rw [List.length_cons] at dr2; omega, fun vv es2 H4 ae k4 dv b4 => ?_⟩
            have u4 := u2.stk2 b4 k4
            have s4 : Same H H4 := fun b o e => b4 b o (ne_of_none e fr2) (s3 b o e)
            have sub := tms_sub tm
            refine ⟨_, _, rfl, ?_⟩
            refine hu _ _ ⟨numN e1, sub1 (e2 :: appM T ds2'), vv, ds1', es2, [e1], sub1 (e2 :: appM T ds2'), rfl, s4, u4, bm, by rw [← ea]; exact nn1, sub.1.2, dv, eL, ?_, fun own => ⟨?_, app_self sub.1.2 own⟩⟩
            · rw [ae, ← sub.2.2]; exact eR
            · rw [ea]; exact app_sing _ _
          · walk_at "gs"
            refine ifc (isVarN e2) (fun QT hQ => ?_) (fun vb => ?_) (fun vb => ?_)
            · walk_at "go"
              exact ⟨v2, e2, rfl, d2, nn2, _, rfl, hQ⟩
            · have bm := bind_B (l := appM T ds1') (r := appM T ds2') nn1 nn2 hB vb
              have eb := var_vN nn2 vb
              have d2' := d2
              rw [eb] at d2'
              obtain ⟨t1, xs1, rfl, q1, y1⟩ := dp_tup d2'
              obtain ⟨w1, hw1, dw1⟩ := DpAll.get (i := 1) y1 rfl
              cases dw1
              walk_at "go"
              refine ixT (j := 1) q1 hw1 ?_
              obtain ⟨i3, p3⟩ := u2.s1.ob
              walk_at "go"
              refine ⟨o1, i3, _, rfl, p3, fs_Side_no_take_rest, ?_⟩
              walk_at "go"
              obtain ⟨kk, tm⟩ := tms_mid hl
              refine ⟨o1, r1, c1, z, _, v1, e1, ds1', F, T, kk, rfl, u2.s1, u2.k1, u2.fd, tri, tT, d1, nn1, tm, by rw [List.length_cons] at dr1; omega, fun vv es1 H4 ae k4 dv b4 => ?_⟩
              have u4 := u2.stk1 b4 k4
              have s4 : Same H H4 := fun b o e => b4 b o (ne_of_none e fr1) (s3 b o e)
              have sub := tms_sub tm
              refine ⟨_, _, rfl, ?_⟩
              refine hu _ _ ⟨numN e2, sub1 (e1 :: appM T ds1'), vv, es1, ds2', sub1 (e1 :: appM T ds1'), [e2], rfl, s4, u4, bm, by rw [← eb]; exact nn2, sub.1.2, dv, ?_, eR, fun own => ⟨app_self sub.1.2 own, ?_⟩⟩
              · rw [ae, ← sub.2.2]; exact eL
              · rw [eb]; exact app_sing _ _
            · have bm := bind_C (l := appM T ds1') (r := appM T ds2') hB vb
              walk_at "go"
              rcases dif with ⟨_, es⟩ | ⟨n', v', e, _⟩
              · subst es
                exact q _ s3
              · rw [bm] at e; cases e
    · have e0 : ds1 = [] := List.eq_nil_of_length_eq_zero (by
        have : ¬ (0 : Int) < xs1.length := fun w => hm (decide_eq_true w)
        omega)
      subst e0
      have e3 : appM T ds2 = [] := same_len hr hl rfl
      rw [e3] at eR
      rw [show appM T [] = [] from rfl] at eL
      obtain rfl := eL.trans eR.symm
      have es := eg_same eg rfl
      subst es
      walk_at "go"
      refine ⟨z, F, T, rfl, u.fd, tri, S.nd, tT, fun q hq => ?_, by omega, fun d H' sH nd fd => q d H' (s1.trans sH) ?_ fd⟩
      · exact (S.inf q hq).elim (fun w => by have := w.length_le; omega) (fun w => by have := w.length_le; omega)
      · cases e : H d with
        | none => rfl
        | some o => rw [s1 _ _ e] at nd; cases nd

theorem ok_unify {f : Addr} {fd : FuncData} (F : Fun K "unify" "unify" s_unify f fd) (E : Bi K mg) (D_unify_within : HasX P w K mg base 5 "unify_within" ["left", "right", "most"] (sp_unify_within K)) : FnOk P w K mg base (L2.CX P w) 6 f fd ["left", "right"] (sp_unify K) := by
  obtain ⟨f_unify_within, fd_unify_within, G_unify_within, g_unify_within, kp_unify_within, b_unify_within⟩ := D_unify_within
  refine F.okX sc_unify (fun vs H Q E h => ?_) (fun cdv A outer s H vs Q E' hr h => ?_)
  · obtain ⟨x, y, L, R, k, s, rfl, _⟩ := h
    rfl
  · obtain ⟨x, y, L, R, k, s, rfl, dx, dy, tl, tr, l1, l2, eg, k1, q⟩ := h
    refine ⟨_, (pss_one (ps_ret (pe_callS G_unify_within (hr.mono (by decide)) (by rfl) g_unify_within kp_unify_within b_unify_within (fun σ => passAt (takes_of rfl rfl rfl rfl) σ) (pa_cons (pv 0) (pa_cons (pv 1) (pa_cons (pe_gC (by rfl) E.c_MOST_NODES) pa_nil)))))), ?_⟩
    refine st_of (σ := [some _, some _]) rfl ?_
    walk_at "go"
    exact ⟨x, y, L, R, 200, k, s, rfl, dx, dy, tl, tr, l1, l2, by decide, by decide, eg, k1, q⟩

theorem ok__law_unify {f : Addr} {fd : FuncData} (F : Fun K "_law_unify" "_law_unify" s__law_unify f fd) (E : Bi K mg) (D_unify : HasX P w K mg base 6 "unify" ["left", "right"] (sp_unify K)) : FnOk P w K mg base CX0 7 f fd ["left", "right"] (sp__law_unify K) := by
  obtain ⟨f_unify, fd_unify, G_unify, g_unify, kp_unify, b_unify⟩ := D_unify
  refine F.ok sc__law_unify (fun vs H Q E h => ?_) (fun cdv A outer s H vs Q E' hr h => ?_)
  · obtain ⟨x, y, L, R, k, s, rfl, _⟩ := h
    rfl
  · obtain ⟨x, y, L, R, k, s, rfl, dx, dy, tl, tr, l1, l2, eg, k1, q⟩ := h
    refine ⟨_, (pss_cons (ps_try_as (i := 2) rfl rfl sc__law_unify.nd rfl rfl ⟨rfl, by decide, .inl E.x_TooLarge.gC⟩ takes0 (fun W pn xe tk po => (pss_one (ps_ret (pe_callS G_unify (hr.mono (by decide)) (by rfl) g_unify kp_unify b_unify (fun σ => passAt tk σ) (pa_cons (pv 0) (pa_cons (pv 1) pa_nil)))))) (fun ea oe ecls ed pn hz hf => (pss_under (P := ecls = .ref (clsA K "TooLarge") ∧ ed = Option.none) fun hP => by obtain ⟨hP1, hP2⟩ := hP; subst hP1 hP2; exact (pss_one (ps_if (pt_val (pe_callB (call_isE E.k_TooLarge hz hf) (by rfl) E.b_isinstance (by decide +kernel) (pa_cons (pv 2) (pa_cons (pe_gC (by rfl) ⟨_, E.x_HornbookError.gC, relRef _⟩) pa_nil)))) (pss_one (ps_ret pe_str)) pss_nil)))))
      (pss_one (ps_ret pe_int))), ?_⟩
    refine st_of (σ := [some _, some _, none]) rfl ?_
    walk_at "go"
    refine ⟨x, y, L, R, k, s, rfl, dx, dy, tl, tr, l1, l2, eg, k1, ?_⟩
    cases s with
    | non =>
      intro H1 s1
      walk_at "go"
      exact q _ s1
    | tab T =>
      intro d H1 s1 n1 f1
      walk_at "go"
      exact q _ _ s1 n1 f1
    | big =>
      intro H1 s1
      walk_at "go"
      refine ⟨true, E.e_TooLarge_TooLarge, fun _ ea ha => ⟨⟨rfl, rfl⟩, ?_⟩, fun z => nomatch z⟩
      walk_at "go"
      refine ⟨_, _, _, rfl, (fun u ru => ru), E.i_TooLarge_HornbookError, ?_⟩
      walk_at "go"
      exact q _ s1

theorem ok_law {f : Addr} {fd : FuncData} (F : Fun K "law" "law" s_law f fd) (E : Bi K mg) (D__law_stream : Has P w K mg base 1 "_law_stream" ["script"] (sp__law_stream K)) (D__law_draw : Has P w K mg base 1 "_law_draw" ["stream", "many"] (sp__law_draw K)) (D__law_list : Has P w K mg base 1 "_law_list" ["rows"] (sp__law_list K)) (D__law_due : Has P w K mg base 2 "_law_due" ["left", "right"] (sp__law_due K)) (D__law_unify : Has P w K mg base 7 "_law_unify" ["left", "right"] (sp__law_unify K)) : FnOk P w K mg base CX0 8 f fd ["script"] (sp_law K) := by
  obtain ⟨f__law_stream, fd__law_stream, G__law_stream, g__law_stream, kp__law_stream, b__law_stream⟩ := D__law_stream
  obtain ⟨f__law_draw, fd__law_draw, G__law_draw, g__law_draw, kp__law_draw, b__law_draw⟩ := D__law_draw
  obtain ⟨f__law_list, fd__law_list, G__law_list, g__law_list, kp__law_list, b__law_list⟩ := D__law_list
  obtain ⟨f__law_due, fd__law_due, G__law_due, g__law_due, kp__law_due, b__law_due⟩ := D__law_due
  obtain ⟨f__law_unify, fd__law_unify, G__law_unify, g__law_unify, kp__law_unify, b__law_unify⟩ := D__law_unify
  refine F.ok sc_law (fun vs H Q E h => ?_) (fun cdv A outer s H vs Q E' hr h => ?_)
  · obtain ⟨a, ns, rfl, _⟩ := h
    rfl
  · obtain ⟨a, ns, rfl, hs, hl, q⟩ := h
    refine ⟨_, (pss_cons (ps_set (i := 1) sc_law.nd rfl (Or.inl rfl) (pe_call G__law_stream (hr.mono (by decide)) (by rfl) g__law_stream kp__law_stream b__law_stream .nil pass0 (pa_cons (pv 0) pa_nil)))
      (pss_cons (ps_set (i := 2) sc_law.nd rfl (Or.inl rfl) (pe_op op_add pe_int (pe_call G__law_draw (hr.mono (by decide)) (by rfl) g__law_draw kp__law_draw b__law_draw .nil pass0 (pa_cons (pv 1) (pa_cons pe_int pa_nil)))))
      (pss_cons (ps_set (i := 3) sc_law.nd rfl (Or.inl rfl) (pe_lst pa_nil))
      (pss_cons (ps_set (i := 4) sc_law.nd rfl (Or.inl rfl) (pe_lst pa_nil))
      (pss_cons (ps_for PassesOwn.never rfl (pi_range1 (by rfl) E.b_range (pa_cons (pv 2) pa_nil)) (pg_name (i := 5) sc_law.nd rfl (Or.inl rfl)) (pss_cons (ps_expr (pe_bm PySem.F.plainAttrs_list PySem.F.slot_list_append PySem.F.type_list_append mt_append (pv 3) (pa_cons (pe_tup (pa_cons (pe_tup (pa_cons pe_str (pa_cons (pv 5) pa_nil))) pa_nil)) pa_nil)))
      (pss_one (ps_expr (pe_bm PySem.F.plainAttrs_list PySem.F.slot_list_append PySem.F.type_list_append mt_append (pv 4) (pa_cons (pe_tup (pa_cons (pe_tup (pa_cons pe_str (pa_cons pe_str (pa_cons pe_int pa_nil)))) (pa_cons (pe_tup (pa_cons pe_str (pa_cons (pe_op op_add (pv 5) pe_int) pa_nil))) (pa_cons (pe_tup (pa_cons pe_str (pa_cons (pe_op op_add (pv 5) pe_int) pa_nil))) pa_nil)))) pa_nil))))))
      (pss_cons (ps_if (pt_cmpR op_eq (pe_call G__law_draw (hr.mono (by decide)) (by rfl) g__law_draw kp__law_draw b__law_draw .nil pass0 (pa_cons (pv 1) (pa_cons pe_int pa_nil))) pe_int (nomark _)) (pss_cons (ps_expr (pe_bm PySem.F.plainAttrs_list PySem.F.slot_list_append PySem.F.type_list_append mt_append (pv 3) (pa_cons (pe_tup (pa_cons (pe_tup (pa_cons pe_str (pa_cons (pv 2) pa_nil))) pa_nil)) pa_nil)))
      (pss_one (ps_expr (pe_bm PySem.F.plainAttrs_list PySem.F.slot_list_append PySem.F.type_list_append mt_append (pv 4) (pa_cons (pe_tup (pa_cons (pe_tup (pa_cons pe_str (pa_cons pe_str (pa_cons pe_int pa_nil)))) pa_nil)) pa_nil))))) pss_nil)
      (pss_cons (ps_if (pt_cmpR op_eq (pe_call G__law_draw (hr.mono (by decide)) (by rfl) g__law_draw kp__law_draw b__law_draw .nil pass0 (pa_cons (pv 1) (pa_cons pe_int pa_nil))) pe_int (nomark _)) (pss_cons (ps_set (i := 3) sc_law.nd rfl (Or.inl rfl) (pe_revL (pv 3)))
      (pss_one (ps_set (i := 4) sc_law.nd rfl (Or.inl rfl) (pe_revL (pv 4))))) pss_nil)
      (pss_cons (ps_if (pt_cmpR op_eq (pe_call G__law_draw (hr.mono (by decide)) (by rfl) g__law_draw kp__law_draw b__law_draw .nil pass0 (pa_cons (pv 1) (pa_cons pe_int pa_nil))) pe_int (nomark _)) (pss_cons (ps_expr (pe_bm PySem.F.plainAttrs_list PySem.F.slot_list_append PySem.F.type_list_append mt_append (pv 3) (pa_cons (pe_tup (pa_cons (pe_tup (pa_cons pe_str (pa_cons pe_str (pa_cons pe_int pa_nil)))) pa_nil)) pa_nil)))
      (pss_one (ps_expr (pe_bm PySem.F.plainAttrs_list PySem.F.slot_list_append PySem.F.type_list_append mt_append (pv 4) (pa_cons (pe_tup (pa_cons (pe_tup (pa_cons pe_str (pa_cons pe_str (pa_cons pe_int pa_nil)))) pa_nil)) pa_nil))))) pss_nil)
      (pss_cons (ps_if (pt_cmpR op_eq (pe_call G__law_draw (hr.mono (by decide)) (by rfl) g__law_draw kp__law_draw b__law_draw .nil pass0 (pa_cons (pv 1) (pa_cons pe_int pa_nil))) pe_int (nomark _)) (pss_cons (ps_setLc (i := 6) (own := [("k", 5)]) (g := gName 5) (tt := tYes) rfl sc_law.nd rfl rfl (by rfl) (pi_range1 (by rfl) E.b_range (pa_cons (pe_op op_add pe_int (pe_call G__law_draw (hr.mono (by decide)) (by rfl) g__law_draw kp__law_draw b__law_draw .nil pass0 (pa_cons (pv 1) (pa_cons pe_int pa_nil)))) pa_nil)) (blkOk_by (N := N_law) (sc := defScope s_law) (by decide +kernel)) (fun _ _ _ _ _ => pg_name (i := 5) sc_law.nd rfl (Or.inl rfl)) (fun _ _ _ _ _ => pts_nil) (fun _ _ _ _ _ => (pe_tup (pa_cons (pe_tup (pa_cons pe_str (pa_cons pe_str (pa_cons pe_int pa_nil)))) pa_nil))))
      (pss_cons (ps_set (i := 3) sc_law.nd rfl (Or.inl rfl) (pe_op op_cat (pv 6) (pv 3)))
      (pss_one (ps_set (i := 4) sc_law.nd rfl (Or.inl rfl) (pe_op op_cat (pv 6) (pv 4)))))) pss_nil)
      (pss_cons (ps_set (i := 7) sc_law.nd rfl (Or.inl rfl) (pe_call G__law_list (hr.mono (by decide)) (by rfl) g__law_list kp__law_list b__law_list .nil pass0 (pa_cons (pv 3) pa_nil)))
      (pss_cons (ps_set (i := 8) sc_law.nd rfl (Or.inl rfl) (pe_call G__law_list (hr.mono (by decide)) (by rfl) g__law_list kp__law_list b__law_list .nil pass0 (pa_cons (pv 4) pa_nil)))
      (pss_cons (ps_if (pt_cmpR op_eq (pe_call G__law_draw (hr.mono (by decide)) (by rfl) g__law_draw kp__law_draw b__law_draw .nil pass0 (pa_cons (pv 1) (pa_cons pe_int pa_nil))) pe_int (nomark _)) (pss_one (ps_par (i := 7) (j := 8) rfl sc_law.nd rfl rfl (by decide) rfl rfl (pa_cons (pv 8) (pa_cons (pv 7) pa_nil)) (by rfl))) pss_nil)
      (pss_cons (ps_if (pt_cmpR op_ne (pe_gC (by rfl) E.c_MOST_NODES) pe_int (nomark _)) (pss_one (ps_ret pe_bl)) pss_nil)
      (pss_cons (ps_set (i := 9) sc_law.nd rfl (Or.inr rfl) (pe_call G__law_due (hr.mono (by decide)) (by rfl) g__law_due kp__law_due b__law_due .nil pass0 (pa_cons (pv 7) (pa_cons (pv 8) pa_nil))))
      (pss_cons (ps_set (i := 10) sc_law.nd rfl (Or.inr rfl) (pe_call G__law_unify (hr.mono (by decide)) (by rfl) g__law_unify kp__law_unify b__law_unify .nil pass0 (pa_cons (pv 7) (pa_cons (pv 8) pa_nil))))
      (pss_cons (ps_if (pt_cmpR op_isN (pv 9) pe_non (nomark _)) (pss_one (ps_ret (pe_cmpR op_isN (pv 10) pe_non (nomark _)))) pss_nil)
      (pss_cons (ps_if (pt_cmpR (op_eqX (Nat.lt_of_succ_lt (hu_of hr))) (pv 9) pe_str (nomark _)) (pss_one (ps_ret (pe_cmpR (op_eqX (Nat.lt_of_succ_lt (hu_of hr))) (pv 10) pe_str (nomark _)))) pss_nil)
      (pss_cons (ps_if (pw_or (pt_not (pt_val (pe_callB call_isi (by rfl) E.b_isinstance (by decide +kernel) (pa_cons (pv 10) (pa_cons (pe_ty "dict" (by rfl) E.b_dict (by decide +kernel)) pa_nil))))) (pw_or1 (pt_cmpR op_ne (pe_callB call_lenD (by rfl) E.b_len PySem.boot_len (pa_cons (pv 10) pa_nil)) (pe_callB call_lenD (by rfl) E.b_len PySem.boot_len (pa_cons (pv 9) pa_nil)) (nomark _)))).pt (pss_one (ps_ret pe_bl)) pss_nil)
      (pss_one (ps_ret (pe_callB (cr_all rfl) (by rfl) E.b_all (by decide +kernel) (pa_cons (pe_lock (pe_lc (own := [("number", 11)]) (g := gName 11) (tt := tYes) rfl sc_law.nd (pi_keys (pv 9)) (blkOk_by (N := N_law) (sc := defScope s_law) (by decide +kernel)) (fun _ _ _ _ _ => pg_name (i := 11) sc_law.nd rfl (Or.inl rfl)) (fun _ _ _ _ _ => pts_nil) (fun _ _ _ _ _ => (pe_and (pe_cmp (pc_din (hu_of hr) (pv 11) (pv 10))) (pe_one (pe_cmpR (show OpR _ (compareOp .Eq) (rEqD K) from op_eqD hr.units) (pe_dget (hu_of hr) (pv 10) (pv 11) (fun _ _ => rfl)) (pe_dget (hu_of hr) (pv 9) (pv 11) (fun _ _ => rfl)) (nomark _))))))) pa_nil)))))))))))))))))))))), ?_⟩
    refine st_of (σ := [some _, none, none, none, none, none, none, none, none, none, none, none]) rfl ?_
    walk_at "go"
    refine ⟨a, ns, rfl, hs, hl, fun s l H1 hs1 hl1 s1 St1 => ?_⟩
    walk_at "go"
    refine drw St1 (by decide) (by decide) fun n1 H2 n10 n11 b2 S2 => ?_
    walk_at "go"
    refine newN (n := 0) rfl (by decide) fun r1 nr1 => ?_
    walk_at "go"
    refine newN (n := 0) rfl (by decide) fun r2 nr2 => ?_
    walk_at "go"
    obtain ⟨os2, hos2⟩ := S2.at_s
    obtain ⟨ol2, hol2⟩ := S2.at_l
    have sr1 : s ≠ r1 := ne_of_none hos2 nr1
    have lr1 : l ≠ r1 := ne_of_none hol2 nr1
    have S3 := S2.put (o := .lst []) sr1 lr1
    obtain ⟨os3, hos3⟩ := S3.at_s
    obtain ⟨ol3, hol3⟩ := S3.at_l
    have sr2 : s ≠ r2 := ne_of_none hos3 nr2
    have lr2 : l ≠ r2 := ne_of_none hol3 nr2
    have r12 : r1 ≠ r2 := ne_of_none upd_same nr2
    have S4 := S3.put (o := .lst []) sr2 lr2
    refine ⟨_, rfl, by omega, by omega, ?_⟩
    refine for_range (lo := 0) (n := (1 + n1).toNat) (fun i σ H' => ∃ (v5 : Option V), σ = [some (.ref a), some (.ref s), some (.int (1 + n1)), some (.ref r1), some (.ref r2), v5, none, none, none, none, none, none] ∧ Stm H' s l ∧ RowsA K H' r1 r2 (cl i) (cr i))
      ⟨none, rfl, S4, ⟨r12, ⟨[], by rw [upd_ne r12]; exact upd_same, .nil⟩, ⟨[], upd_same, .nil⟩⟩⟩ ?_ ?_
    · rintro i σ H5 hi ⟨v5, rfl, S5, R5⟩
      rw [Int.zero_add]
      walk_at "go"
      obtain ⟨xs1, e1, d1⟩ := R5.l
      have lx1 := DpAll.len d1
      refine tyl (SqL.of e1) ?_
      walk_at "go"
      refine newN (n := 2) rfl (by decide) fun t1 nt1 => ?_
      walk_at "go"
      refine newN (n := 1) rfl (by decide) fun t2 nt2 => ?_
      walk_at "go"
      have sA := (same_upd (o := .tup [V.str (Str.ofString "v"), V.int i]) nt1).trans (same_upd (o := .tup [V.ref t1]) nt2)
      have dA : Dp K (upd (upd H5 t1 (.tup [V.str (Str.ofString "v"), V.int i])) t2 (.tup [V.ref t1])) (.ref t2) (.tuple [vN i]) := .tup (SqT.of upd_same) (.cons (.tup (SqT.of (by rw [upd_ne (ne_of_none upd_same nt2)]; exact upd_same)) (.cons (.str _) (.cons (.int _) .nil))) .nil)
      have R6 := R5.same sA
      have S6 := S5.keep sA
      have e6 := sA _ _ e1
      generalize (upd (upd H5 t1 (.tup [V.str (Str.ofString "v"), V.int i])) t2 (.tup [V.ref t1])) = H6 at dA R6 S6 e6
      refine rap e6 (by rw [lx1, List.length_map]; unfold cl; rw [List.length_map, List.length_range]; omega) ?_
      have R7 : RowsA K (upd H6 r1 (.lst (xs1 ++ [V.ref t2]))) r1 r2 (cl (i + 1)) (cr i) := ⟨r12, by
        rw [cl_succ]
        exact RowL.add e6 (dp_sameAll (Same.refl _) _ _ (by obtain ⟨ys, e, d⟩ := R6.l; rw [e6] at e; cases e; exact d)) (cl_nd i) dA (vN_row i), R6.r.put (cr_nd i) (.inl ⟨_, e6⟩) r12.symm⟩
      have S7 : Stm (upd H6 r1 (.lst (xs1 ++ [V.ref t2]))) s l := S6.put sr1 lr1
      clear R6 S6 dA e6 e1 d1
      generalize upd H6 r1 (.lst (xs1 ++ [V.ref t2])) = H7 at R7 S7
      walk_at "go"
      obtain ⟨xs2, e2, d2⟩ := R7.r
      have lx2 := DpAll.len d2
      refine tyl (SqL.of e2) ?_
      walk_at "go"
      refine newN (n := 3) rfl (by decide) fun t3 nt3 => ?_
      walk_at "go"
      refine newN (n := 2) rfl (by decide) fun t4 nt4 => ?_
      walk_at "go"
      refine newN (n := 2) rfl (by decide) fun t5 nt5 => ?_
      walk_at "go"
      refine newN (n := 3) rfl (by decide) fun t6 nt6 => ?_
      walk_at "go"
      have q3 := same_upd (o := .tup [V.str (Str.ofString "f"), V.str (Str.ofString "p"), V.int 2]) nt3
      have q4 := same_upd (o := .tup [V.str (Str.ofString "v"), V.int ((i : Int) + 1)]) nt4
      have q5 := same_upd (o := .tup [V.str (Str.ofString "v"), V.int ((i : Int) + 1)]) nt5
      have q6 := same_upd (o := .tup [V.ref t3, V.ref t4, V.ref t5]) nt6
      have h3 := (q4.trans (q5.trans q6)) _ _ (upd_same (H := H7) (a := t3) (o := .tup [V.str (Str.ofString "f"), V.str (Str.ofString "p"), V.int 2]))
      have h4 := (q5.trans q6) _ _ (upd_same (H := upd H7 t3 (.tup [V.str (Str.ofString "f"), V.str (Str.ofString "p"), V.int 2])) (a := t4) (o := .tup [V.str (Str.ofString "v"), V.int ((i : Int) + 1)]))
      have h5 := q6 _ _ (upd_same (H := upd (upd H7 t3 (.tup [V.str (Str.ofString "f"), V.str (Str.ofString "p"), V.int 2])) t4 (.tup [V.str (Str.ofString "v"), V.int ((i : Int) + 1)])) (a := t5) (o := .tup [V.str (Str.ofString "v"), V.int ((i : Int) + 1)]))
      have qq := q3.trans (q4.trans (q5.trans q6))
      have dB : Dp K (upd (upd (upd (upd H7 t3 (.tup [V.str (Str.ofString "f"), V.str (Str.ofString "p"), V.int 2])) t4 (.tup [V.str (Str.ofString "v"), V.int ((i : Int) + 1)])) t5 (.tup [V.str (Str.ofString "v"), V.int ((i : Int) + 1)])) t6 (.tup [V.ref t3, V.ref t4, V.ref t5])) (.ref t6) (.tuple (pp i)) :=
        .tup (SqT.of upd_same) (.cons (.tup (SqT.of h3) (.cons (.str _) (.cons (.str _) (.cons (.int _) .nil)))) (.cons (.tup (SqT.of h4) (.cons (.str _) (.cons (.int _) .nil))) (.cons (.tup (SqT.of h5) (.cons (.str _) (.cons (.int _) .nil))) .nil)))
      have R8 := R7.same qq
      have S8 := S7.keep qq
      have e8 := qq _ _ e2
      generalize (upd (upd (upd (upd H7 t3 (.tup [V.str (Str.ofString "f"), V.str (Str.ofString "p"), V.int 2])) t4 (.tup [V.str (Str.ofString "v"), V.int ((i : Int) + 1)])) t5 (.tup [V.str (Str.ofString "v"), V.int ((i : Int) + 1)])) t6 (.tup [V.ref t3, V.ref t4, V.ref t5])) = H8 at dB R8 S8 e8
      refine rap e8 (by rw [lx2, List.length_map]; unfold cr; rw [List.length_map, List.length_range]; omega) ?_
      walk_at "go"
      refine ⟨_, rfl, S8.put sr2 lr2, ?_⟩
      rw [cr_succ]
      exact R8.add2 (cl_nd _) (cr_nd _) e8 dB (pp_nd i)
    · rintro σ H5 ⟨v5, rfl, S5, R5⟩
      have en : (1 + n1).toNat ≤ 12 := by omega
      have G5 := rows_base (1 + n1).toNat en
      walk_at "gs"
      have LSd : ∀ σ H', (∃ (v5 : Option V) (r1 r2 : Addr) (ls rs : List (List PyData)), σ = [some (.ref a), some (.ref s), some (.int (1 + n1)), some (.ref r1), some (.ref r2), v5, none, none, none, none, none, none] ∧ Stm H' s l ∧ RowsA K H' r1 r2 ls rs ∧ Gd 13 ls rs ∧ s ≠ r1 ∧ l ≠ r1 ∧ s ≠ r2 ∧ l ≠ r2) → True := fun _ _ _ => True.intro
      clear LSd
      refine nx_via (fun σ H' => ∃ (v5 : Option V) (r1 r2 : Addr) (ls rs : List (List PyData)), σ = [some (.ref a), some (.ref s), some (.int (1 + n1)), some (.ref r1), some (.ref r2), v5, none, none, none, none, none, none] ∧ Stm H' s l ∧ RowsA K H' r1 r2 ls rs ∧ Gd 13 ls rs ∧ s ≠ r1 ∧ l ≠ r1 ∧ s ≠ r2 ∧ l ≠ r2) ?_ fun hu => ?_
      rotate_left
      · walk_at "go"
        refine drw S5 (by decide) (by decide) fun n2 H6 n20 n21 b6 S6 => ?_
        have R6 := R5.but (cl_nd _) (cr_nd _) S5 b6 (Ne.symm sr1) (Ne.symm sr2)
        walk_at "go"
        refine ite2 (fun _ => ?_) (fun _ => ?_)
        · walk_at "go"
          obtain ⟨xs1, e1, d1⟩ := R6.l
          have lx1 := DpAll.len d1
          rw [List.length_map] at lx1
          refine tyl (SqL.of e1) ?_
          walk_at "go"
          refine newN (n := 2) rfl (by decide) fun t1 nt1 => ?_
          walk_at "go"
          refine newN (n := 1) rfl (by decide) fun t2 nt2 => ?_
          walk_at "go"
          have sA := (same_upd (o := .tup [V.str (Str.ofString "v"), V.int (1 + n1)]) nt1).trans (same_upd (o := .tup [V.ref t1]) nt2)
          have dA : Dp K (upd (upd H6 t1 (.tup [V.str (Str.ofString "v"), V.int (1 + n1)])) t2 (.tup [V.ref t1])) (.ref t2) (.tuple [vN (1 + n1)]) := .tup (SqT.of upd_same) (.cons (.tup (SqT.of (by rw [upd_ne (ne_of_none upd_same nt2)]; exact upd_same)) (.cons (.str _) (.cons (.int _) .nil))) .nil)
          have R7 := R6.same sA
          have S7 := S6.keep sA
          have e7 := sA _ _ e1
          generalize (upd (upd H6 t1 (.tup [V.str (Str.ofString "v"), V.int (1 + n1)])) t2 (.tup [V.ref t1])) = H7 at dA R7 S7 e7
          have nv1 : NdA (vN (1 + n1)) := ⟨2 + n1, .v _ (by omega) (by omega)⟩
          refine rap e7 (by have := G5.len; omega) ?_
          have R8 := R7.add1 (cl_nd _) (cr_nd _) e7 dA (fun d hd => by rw [List.mem_singleton.mp hd]; exact nv1)
          have S8 : Stm (upd H7 r1 (.lst (xs1 ++ [V.ref t2]))) s l := S7.put sr1 lr1
          generalize upd H7 r1 (.lst (xs1 ++ [V.ref t2])) = H8 at R8 S8
          walk_at "go"
          obtain ⟨xs2, e2, d2⟩ := R8.r
          have lx2 := DpAll.len d2
          rw [List.length_map] at lx2
          refine tyl (SqL.of e2) ?_
          walk_at "go"
          refine newN (n := 3) rfl (by decide) fun t3 nt3 => ?_
          walk_at "go"
          refine newN (n := 1) rfl (by decide) fun t4 nt4 => ?_
          walk_at "go"
          have sB := (same_upd (o := .tup [V.str (Str.ofString "f"), V.str (Str.ofString "a"), V.int 0]) nt3).trans (same_upd (o := .tup [V.ref t3]) nt4)
          have dB : Dp K (upd (upd H8 t3 (.tup [V.str (Str.ofString "f"), V.str (Str.ofString "a"), V.int 0])) t4 (.tup [V.ref t3])) (.ref t4) (.tuple [sy "a" 0]) := .tup (SqT.of upd_same) (.cons (.tup (SqT.of (by rw [upd_ne (ne_of_none upd_same nt4)]; exact upd_same)) (.cons (.str _) (.cons (.str _) (.cons (.int _) .nil)))) .nil)
          have R9 := R8.same sB
          have S9 := S8.keep sB
          have e9 := sB _ _ e2
          generalize (upd (upd H8 t3 (.tup [V.str (Str.ofString "f"), V.str (Str.ofString "a"), V.int 0])) t4 (.tup [V.ref t3])) = H9 at dB R9 S9 e9
          have na : NdA (sy "a" 0) := ⟨10, .f "a" 0 (by decide) (by decide) (by decide)⟩
          have oa := one_row na rfl (.inr rfl)
          have ov := one_row nv1 rfl (.inl rfl)
          have nl1 : NdR (cl (1 + n1).toNat ++ [[vN (1 + n1)]]) := (cl_nd _).snoc ov.1.2
          refine rap e9 (by have := G5.len; have := G5.le; omega) ?_
          have RA := R9.add2 nl1 (cr_nd _) e9 dB oa.1.2
          walk_at "gs"
          exact hu _ _ ⟨_, r1, r2, _, _, rfl, S9.put sr2 lr2, RA, G5.add ov oa, sr1, lr1, sr2, lr2⟩
        · walk_at "gs"
          exact hu _ _ ⟨_, r1, r2, _, _, rfl, S6, R6, G5.up (by decide), sr1, lr1, sr2, lr2⟩
      rintro σ H6 ⟨v5', r1, r2, ls, rs, rfl, S6, R6, G6, sr1, lr1, sr2, lr2⟩
      clear R5 S5 G5
      walk_at "gs"
      refine nx_via (fun σ H' => ∃ (v5 : Option V) (r1 r2 : Addr) (ls rs : List (List PyData)), σ = [some (.ref a), some (.ref s), some (.int (1 + n1)), some (.ref r1), some (.ref r2), v5, none, none, none, none, none, none] ∧ Stm H' s l ∧ RowsA K H' r1 r2 ls rs ∧ Gd 13 ls rs ∧ s ≠ r1 ∧ l ≠ r1 ∧ s ≠ r2 ∧ l ≠ r2) ?_ fun hu => ?_
      rotate_left
      · walk_at "go"
        refine drw S6 (by decide) (by decide) fun n2 H7 n20 n21 b7 S7 => ?_
        have R7 := R6.but G6.ndl G6.ndr S6 b7 (Ne.symm sr1) (Ne.symm sr2)
        walk_at "go"
        refine ite2 (fun _ => ?_) (fun _ => ?_)
        · walk_at "go"
          obtain ⟨xs1, e1, d1⟩ := R7.l
          obtain ⟨os, hos⟩ := S7.at_s
          obtain ⟨ol, hol⟩ := S7.at_l
          refine ⟨r1, xs1, rfl, SqL.of e1, fun w1 nw1 => ?_⟩
          have z1 := same_upd (o := .lst xs1.reverse) nw1
          walk_at "go"
          obtain ⟨xs2, e2, d2⟩ := (R7.same z1).r
          refine ⟨r2, xs2, rfl, SqL.of e2, fun w2 nw2 => ?_⟩
          have z2 := same_upd (o := .lst xs2.reverse) nw2
          have w12 : w1 ≠ w2 := ne_of_none upd_same nw2
          walk_at "gs"
          refine hu _ _ ⟨_, w1, w2, ls.reverse, rs.reverse, rfl, S7.keep (z1.trans z2), ⟨w12, ⟨xs1.reverse, by rw [upd_ne w12]; exact upd_same, ?_⟩, ⟨xs2.reverse, upd_same, ?_⟩⟩, G6.rev, ne_of_none hos nw1, ne_of_none hol nw1, ne_of_none (z1 _ _ hos) nw2, ne_of_none (z1 _ _ hol) nw2⟩
          · rw [List.map_reverse]
            exact dpAll_rev (dp_sameAll (z1.trans z2) _ _ d1)
          · rw [List.map_reverse]
            exact dpAll_rev (dp_sameAll z2 _ _ d2)
        · walk_at "gs"
          exact hu _ _ ⟨_, r1, r2, _, _, rfl, S7, R7, G6, sr1, lr1, sr2, lr2⟩
      rintro σ H7 ⟨v5', r1, r2, ls, rs, rfl, S7, R7, G7, sr1, lr1, sr2, lr2⟩
      clear R6 S6 G6
      walk_at "gs"
      refine nx_via (fun σ H' => ∃ (v5 : Option V) (r1 r2 : Addr) (ls rs : List (List PyData)), σ = [some (.ref a), some (.ref s), some (.int (1 + n1)), some (.ref r1), some (.ref r2), v5, none, none, none, none, none, none] ∧ Stm H' s l ∧ RowsA K H' r1 r2 ls rs ∧ Gd 14 ls rs ∧ s ≠ r1 ∧ l ≠ r1 ∧ s ≠ r2 ∧ l ≠ r2) ?_ fun hu => ?_
      rotate_left
      · walk_at "go"
        refine drw S7 (by decide) (by decide) fun n2 H8 n20 n21 b8 S8 => ?_
        have R8 := R7.but G7.ndl G7.ndr S7 b8 (Ne.symm sr1) (Ne.symm sr2)
        walk_at "go"
        refine ite2 (fun _ => ?_) (fun _ => ?_)
        · walk_at "go"
          obtain ⟨xs1, e1, d1⟩ := R8.l
          have lx1 := DpAll.len d1
          rw [List.length_map] at lx1
          refine tyl (SqL.of e1) ?_
          walk_at "go"
          refine newN (n := 3) rfl (by decide) fun t1 nt1 => ?_
          walk_at "go"
          refine newN (n := 1) rfl (by decide) fun t2 nt2 => ?_
          walk_at "go"
          have sA := (same_upd (o := .tup [V.str (Str.ofString "f"), V.str (Str.ofString "a"), V.int 0]) nt1).trans (same_upd (o := .tup [V.ref t1]) nt2)
          have dA : Dp K (upd (upd H8 t1 (.tup [V.str (Str.ofString "f"), V.str (Str.ofString "a"), V.int 0])) t2 (.tup [V.ref t1])) (.ref t2) (.tuple [sy "a" 0]) := .tup (SqT.of upd_same) (.cons (.tup (SqT.of (by rw [upd_ne (ne_of_none upd_same nt2)]; exact upd_same)) (.cons (.str _) (.cons (.str _) (.cons (.int _) .nil)))) .nil)
          have R9 := R8.same sA
          have S9 := S8.keep sA
          have e9 := sA _ _ e1
          generalize (upd (upd H8 t1 (.tup [V.str (Str.ofString "f"), V.str (Str.ofString "a"), V.int 0])) t2 (.tup [V.ref t1])) = H9 at dA R9 S9 e9
          have na : NdA (sy "a" 0) := ⟨10, .f "a" 0 (by decide) (by decide) (by decide)⟩
          have nb : NdA (sy "b" 0) := ⟨10, .f "b" 0 (by decide) (by decide) (by decide)⟩
          have oa := one_row na rfl (.inr rfl)
          have ob := one_row nb rfl (.inr rfl)
          refine rap e9 (by have := G7.len; omega) ?_
          have RA := R9.add1 G7.ndl G7.ndr e9 dA oa.1.2
          have SA : Stm (upd H9 r1 (.lst (xs1 ++ [V.ref t2]))) s l := S9.put sr1 lr1
          generalize upd H9 r1 (.lst (xs1 ++ [V.ref t2])) = HA at RA SA
          walk_at "go"
          obtain ⟨xs2, e2, d2⟩ := RA.r
          have lx2 := DpAll.len d2
          rw [List.length_map] at lx2
          refine tyl (SqL.of e2) ?_
          walk_at "go"
          refine newN (n := 3) rfl (by decide) fun t3 nt3 => ?_
          walk_at "go"
          refine newN (n := 1) rfl (by decide) fun t4 nt4 => ?_
          walk_at "go"
          have sB := (same_upd (o := .tup [V.str (Str.ofString "f"), V.str (Str.ofString "b"), V.int 0]) nt3).trans (same_upd (o := .tup [V.ref t3]) nt4)
          have dB : Dp K (upd (upd HA t3 (.tup [V.str (Str.ofString "f"), V.str (Str.ofString "b"), V.int 0])) t4 (.tup [V.ref t3])) (.ref t4) (.tuple [sy "b" 0]) := .tup (SqT.of upd_same) (.cons (.tup (SqT.of (by rw [upd_ne (ne_of_none upd_same nt4)]; exact upd_same)) (.cons (.str _) (.cons (.str _) (.cons (.int _) .nil)))) .nil)
          have RB := RA.same sB
          have SB := SA.keep sB
          have eB := sB _ _ e2
          generalize (upd (upd HA t3 (.tup [V.str (Str.ofString "f"), V.str (Str.ofString "b"), V.int 0])) t4 (.tup [V.ref t3])) = HB at dB RB SB eB
          refine rap eB (by have := G7.len; have := G7.le; omega) ?_
          have RC := RB.add2 (G7.ndl.snoc oa.1.2) G7.ndr eB dB ob.1.2
          walk_at "gs"
          exact hu _ _ ⟨_, r1, r2, _, _, rfl, SB.put sr2 lr2, RC, G7.add oa ob, sr1, lr1, sr2, lr2⟩
        · walk_at "gs"
          exact hu _ _ ⟨_, r1, r2, _, _, rfl, S8, R8, G7.up (by decide), sr1, lr1, sr2, lr2⟩
      rintro σ H8 ⟨v5', r1, r2, ls, rs, rfl, S8, R8, G8, sr1, lr1, sr2, lr2⟩
      clear R7 S7 G7
      walk_at "gs"
      refine nx_via (fun σ H' => ∃ (v5 v6 : Option V) (r1 r2 : Addr) (ls rs : List (List PyData)), σ = [some (.ref a), some (.ref s), some (.int (1 + n1)), some (.ref r1), some (.ref r2), v5, v6, none, none, none, none, none] ∧ Stm H' s l ∧ RowsA K H' r1 r2 ls rs ∧ Gd 160 ls rs) ?_ fun hu => ?_
      rotate_left
      · walk_at "go"
        refine drw S8 (by decide) (by decide) fun n2 H9 n20 n21 b9 S9 => ?_
        have R9 := R8.but G8.ndl G8.ndr S8 b9 (Ne.symm sr1) (Ne.symm sr2)
        walk_at "go"
        refine ite2 (fun _ => ?_) (fun _ => ?_)
        · walk_at "go"
          refine drw S9 (by decide) (by decide) fun n3 HA n30 n31 bA SA => ?_
          have RA := R9.but G8.ndl G8.ndr S9 bA (Ne.symm sr1) (Ne.symm sr2)
          walk_at "go"
          refine ⟨_, rfl, by omega, by omega, fun D nD => ?_⟩
          have na : NdA (sy "a" 0) := ⟨10, .f "a" 0 (by decide) (by decide) (by decide)⟩
          have oa := one_row na rfl (.inr rfl)
          have n3l : (80 + n3).toNat ≤ 139 := by omega
          generalize (80 + n3).toNat = np at n3l
          refine lc_it walk_range (fun i H' => ∃ ys, H' D = some (.lst ys) ∧ DpAll K H' ys ((List.replicate i [sy "a" 0]).map PyData.tuple) ∧ Same HA H')
            ⟨[], upd_same, .nil, same_upd nD⟩ (fun i H' _ _ => True.intro) ?_ ?_
          · rintro i xk H1' H2' hi ⟨ys, e, d, sD⟩ hY
            have ly := DpAll.len d
            rw [List.length_map, List.length_replicate] at ly
            obtain ⟨rfl, hY⟩ := hY
            refine gname ⟨rfl, ?_⟩
            dsimp only [tYes]
            rw [if_pos rfl]
            walk_at "go"
            refine newN (n := 3) rfl (by decide) fun t1 nt1 => ?_
            walk_at "go"
            refine newN (n := 1) rfl (by decide) fun t2 nt2 => ?_
            have sT := (same_upd (o := .tup [V.str (Str.ofString "f"), V.str (Str.ofString "a"), V.int 0]) nt1).trans (same_upd (o := .tup [V.ref t1]) nt2)
            have dT : Dp K (upd (upd H2' t1 (.tup [V.str (Str.ofString "f"), V.str (Str.ofString "a"), V.int 0])) t2 (.tup [V.ref t1])) (.ref t2) (.tuple [sy "a" 0]) := .tup (SqT.of upd_same) (.cons (.tup (SqT.of (by rw [upd_ne (ne_of_none upd_same nt2)]; exact upd_same)) (.cons (.str _) (.cons (.str _) (.cons (.int _) .nil)))) .nil)
            have eT := sT _ _ e
            have dd := dp_sameAll sT _ _ d
            have sDT := sD.trans sT
            generalize (upd (upd H2' t1 (.tup [V.str (Str.ofString "f"), V.str (Str.ofString "a"), V.int 0])) t2 (.tup [V.ref t1])) = HT at dT eT dd sDT
            walk_at "go"
            have ntD : notTup HT D := .inl ⟨_, eT⟩
            refine ⟨ys, eT, Nat.lt_of_le_of_lt (show _ ≤ 100000 by omega) (by decide), ys ++ [.ref t2], upd_same, ?_, fun b o eb => by rw [upd_ne (ne_of_none eb nD)]; exact sDT _ _ eb⟩
            rw [List.replicate_succ', List.map_append]
            exact dpAll_end (dp_putAll ntD _ _ (rows_noL' fun r hr => by rw [(List.mem_replicate.mp hr).2]; exact oa.1.2) dd) (dp_put ntD _ _ (tup_noL oa.1.2) dT)
          · rintro HB ⟨ys, e, d, sD⟩
            have ly := DpAll.len d
            rw [List.length_map, List.length_replicate] at ly
            have RB := RA.same sD
            have SB := SA.keep sD
            obtain ⟨xs1, e1, d1⟩ := RB.l
            obtain ⟨xs2, e2, d2⟩ := RB.r
            have lx1 := DpAll.len d1
            have lx2 := DpAll.len d2
            rw [List.length_map] at lx1 lx2
            have gl8 := G8.len
            have gl9 := G8.le
            walk_at "go"
            refine ⟨D, r1, ys, xs1, rfl, rfl, e, e1, Nat.le_trans (show _ ≤ 100000 by omega) (by decide), fun p1 np1 => ?_⟩
            have z1 := same_upd (o := .lst (ys ++ xs1)) np1
            walk_at "go"
            refine ⟨D, r2, ys, xs2, rfl, rfl, z1 _ _ e, z1 _ _ e2, Nat.le_trans (show _ ≤ 100000 by omega) (by decide), fun p2 np2 => ?_⟩
            have z2 := same_upd (o := .lst (ys ++ xs2)) np2
            have p12 : p1 ≠ p2 := ne_of_none upd_same np2
            refine hu _ _ ⟨_, _, p1, p2, List.replicate np [sy "a" 0] ++ ls, List.replicate np [sy "a" 0] ++ rs, rfl, SB.keep (z1.trans z2), ⟨p12, ⟨ys ++ xs1, by rw [upd_ne p12]; exact upd_same, ?_⟩, ⟨ys ++ xs2, upd_same, ?_⟩⟩, (G8.pad oa).up (by omega)⟩
            · rw [List.map_append]
              exact DpAll.app (dp_sameAll (z1.trans z2) _ _ d) (dp_sameAll (z1.trans z2) _ _ d1)
            · rw [List.map_append]
              exact DpAll.app (dp_sameAll (z1.trans z2) _ _ d) (dp_sameAll (z1.trans z2) _ _ d2)
        · exact hu _ _ ⟨_, _, r1, r2, _, _, rfl, S9, R9, G8.up (by decide)⟩
      rintro σ H9 ⟨v5', v6, r1, r2, ls, rs, rfl, S9, R9, G9⟩
      clear R8 S8 G8
      walk_at "go"
      obtain ⟨xs1, e1, d1⟩ := R9.l
      refine ⟨r1, xs1, ls, rfl, SqL.of e1, d1, G9.ndl, ?_, fun vl HA sA dl => ?_⟩
      · have := (lst_gd G9.len G9.nl).len; omega
      walk_at "go"
      obtain ⟨xs2, e2, d2⟩ := (R9.same sA).r
      refine ⟨r2, xs2, rs, rfl, SqL.of e2, d2, G9.ndr, ?_, fun vr HB sB dr => ?_⟩
      · have := (lst_gd (by rw [← G9.le]; exact G9.len) G9.nr).len; omega
      have dl := dp_same sB _ _ dl
      have SB := S9.keep (sA.trans sB)
      walk_at "gs"
      refine nx_via (fun σ H' => ∃ (x y : V) (v3 v4 v5 v6 : Option V) (L R : List PyData), σ = [some (.ref a), some (.ref s), some (.int (1 + n1)), v3, v4, v5, v6, some x, some y, none, none, none] ∧ Dp K H' x (.tuple L) ∧ Dp K H' y (.tuple R) ∧ GdT L ∧ GdT R) ?_ fun hu => ?_
      rotate_left
      · walk_at "go"
        refine drw SB (by decide) (by decide) fun n2 HC n20 n21 bC SC => ?_
        have gl : GdT (lstR ls) := lst_gd G9.len G9.nl
        have gr : GdT (lstR rs) := lst_gd (by rw [← G9.le]; exact G9.len) G9.nr
        have dlC := dp_but SB bC gl.tm.2 dl
        have drC := dp_but SB bC gr.tm.2 dr
        walk_at "go"
        refine ite2 (fun _ => ?_) (fun _ => ?_)
        · walk_at "gs"
          exact hu _ _ ⟨vr, vl, _, _, _, _, _, _, rfl, drC, dlC, gr, gl⟩
        · walk_at "gs"
          exact hu _ _ ⟨vl, vr, _, _, _, _, _, _, rfl, dlC, drC, gl, gr⟩
      rintro σ HC ⟨x, y, v3, v4, v5'', v6', L, R, rfl, dx, dy, gl, gr⟩
      obtain ⟨k, sr, eg, hk⟩ := eg_any (max 200 (max L.length R.length)) gl.tm gr.tm
      have gll := gl.len
      have grl := gr.len
      walk_at "go"
      refine iteF ?_
      walk_at "go"
      refine ⟨x, y, L, R, k, sr, rfl, dx, dy, gl.tm, gr.tm, by omega, by omega, gl.vf, gr.vf, eg, by omega, ?_⟩
      cases sr with
      | non =>
        intro HD sD
        walk_at "go"
        refine ⟨x, y, L, R, k, .non, rfl, dp_same sD _ _ dx, dp_same sD _ _ dy, gl.tm, gr.tm, by omega, by omega, eg, by omega, fun HE sE => ?_⟩
        walk_at "go"
        refine ⟨rfl, _, rfl, iteT ?_⟩
        walk_at "go"
        refine ⟨rfl, ?_⟩
        rw [decide_eq_true rfl]
        exact q _
      | big =>
        intro HD sD
        walk_at "go"
        refine ⟨x, y, L, R, k, .big, rfl, dp_same sD _ _ dx, dp_same sD _ _ dy, gl.tm, gr.tm, by omega, by omega, eg, by omega, fun HE sE => ?_⟩
        walk_at "go"
        refine ⟨rfl, _, rfl, ?_⟩
        rw [show decide (V.str (Str.ofString "large") = V.non) = false from decide_eq_false fun z => nomatch z]
        refine iteF ?_
        walk_at "go"
        refine .inl ⟨rfl, _, rfl, ?_⟩
        rw [decide_eq_true rfl]
        refine iteT ?_
        walk_at "go"
        refine .inl ⟨rfl, ?_⟩
        rw [decide_eq_true rfl]
        exact q _
      | tab T =>
        obtain ⟨tT, ndT⟩ := eg_tab eg (sol_zero gl.tm gr.tm) T rfl
        intro d1 HD sD nd1 f1
        walk_at "go"
        refine ⟨x, y, L, R, k, .tab T, rfl, dp_same sD _ _ dx, dp_same sD _ _ dy, gl.tm, gr.tm, by omega, by omega, eg, by omega, fun d2 HE sE nd2 f2 => ?_⟩
        obtain ⟨_, ed1, _⟩ := f1.at_
        have f1 := f1.same' tT.nd sE
        obtain ⟨k1, e1, t1⟩ := f1.at_
        obtain ⟨k2, e2, t2⟩ := f2.at_
        have lk1 := TabK.len t1
        have lk2 := TabK.len t2
        walk_at "go"
        refine ⟨rfl, _, rfl, ?_⟩
        rw [show decide (V.ref d1 = V.non) = false from decide_eq_false fun z => nomatch z]
        refine iteF ?_
        walk_at "go"
        refine .inr ⟨d1, k1, _, rfl, rfl, e1, _, rfl, iteF ?_⟩
        walk_at "go"
        refine ⟨_, _, _, _, _, rfl, .ty _, .base (.dK e2), kit_ty (show kitB "dict" "dict" = some true by decide +kernel), ?_⟩
        walk_at "go"
        refine ⟨d2, k2, rfl, e2, ?_⟩
        walk_at "go"
        refine ⟨d1, k1, rfl, e1, ?_⟩
        walk_at "go"
        rw [show (!decide ((k2.length : Int) = (k1.length : Int))) = false by rw [decide_eq_true (by rw [lk1, lk2])]; rfl]
        refine iteF ?_
        walk_at "go"
        refine ⟨d1, _, e1, trivial, fun od => ?_⟩
        refine ⟨_, rfl, d1, od, rfl, .inl ⟨k1, upd_same, fun D hD => ?_⟩⟩
        have d12 : d1 ≠ d2 := ne_of_none ed1 nd2
        have nf : notTup HE d1 := .inr (.inl ⟨_, e1⟩)
        have TF := tab_put (o := .frz od (.dK k1)) nf tT.nd t1
        have TG := tab_put (o := .frz od (.dK k1)) nf tT.nd t2
        have e2F : (upd HE d1 (.frz od (.dK k1))) d2 = some (.dK k2) := by rw [upd_ne d12.symm]; exact e2
        have sD2 := same_upd (o := .lst []) hD
        refine lc_it walk_keys (fun i H' => Same (upd HE d1 (.frz od (.dK k1))) H' ∧ H' D = some (.lst ((List.replicate i true).map V.bl)))
          ⟨sD2, upd_same⟩ (fun i H' _ ⟨e, _⟩ => e _ _ upd_same) ?_ ?_
        · rintro i xk HB HC hi ⟨sB, b1⟩ ⟨rfl, kk, vv', hk, rfl⟩
          obtain ⟨qq, hq1, hq2, _⟩ := TabK.get TF hk
          have hq2 : kk = Sum.inl qq.1 := hq2
          subst hq2
          have mq := List.mem_of_getElem? hq1
          have vq := valT_at ndT mq
          have TC := tab_same sB tT.nd TF
          have TD := tab_same sB tT.nd TG
          rcases TabK.val qq.1 TC with ⟨_, w2⟩ | ⟨u1, w1, u2, u3, u4⟩
          · rw [vq] at w2; cases w2
          rcases TabK.val qq.1 TD with ⟨_, w2⟩ | ⟨u1', w1', u2', u3', u4'⟩
          · rw [vq] at w2; cases w2
          rw [vq] at u3 u3'
          cases u3
          cases u3'
          have g1 : DGet HC d1 (.int qq.1) (some u1) := .inl ⟨k1, Sum.inl qq.1, .inr ⟨od, sB _ _ upd_same⟩, rfl, u2.symm⟩
          have g2 : DGet HC d2 (.int qq.1) (some u1') := by have := DGet.k (k := Sum.inl qq.1) (sB _ _ e2F); rw [u2'] at this; exact this
          refine gname ⟨rfl, ?_⟩
          dsimp only [tYes]
          rw [if_pos rfl]
          have nq := tT.nd qq mq
          have eqq : PyData.eqv (.tuple qq.2) (.tuple qq.2) = true := by
            simp only [PyData.eqv]
            exact nds_rf nq
          refine ⟨_, rfl, _, rfl, d2, some u1', rfl, g2, ?_⟩
          refine ⟨_, rfl, iteT ?_⟩
          refine ⟨_, rfl, _, rfl, d2, u1', rfl, g2, _, rfl, _, rfl, d1, u1, rfl, g1, .tuple qq.2, .tuple qq.2, u4', u4, tup_shaped nq, tup_shaped nq, ?_⟩
          rw [eqq]
          have li : i ≤ 100000 := by
            have : k1.length = T.length := lk1
            have h9 := tab_small eg (sol_zero gl.tm gr.tm) T rfl
            rw [List.length_nil] at h9
            omega
          refine ⟨_, b1, Nat.lt_of_le_of_lt (show _ ≤ 100000 by rw [List.length_map, List.length_replicate]; exact li) (by decide), fun b o e => by rw [upd_ne (ne_of_none e hD)]; exact sB _ _ e, ?_⟩
          rw [List.replicate_succ', List.map_append]
          exact upd_same
        · rintro HB ⟨sB, b1⟩
          have fB := sB _ _ upd_same
          have Dd1 : D ≠ d1 := fun w => by rw [w, upd_same] at hD; cases hD
          refine ⟨fB, ?_⟩
          have hD2 : (upd HB d1 (.dK k1)) D = some (.lst ((List.replicate k1.length true).map V.bl)) := by rw [upd_ne Dd1]; exact b1
          walk_at "go"
          refine ⟨D, _, rfl, SqL.of hD2, ?_⟩
          rw [show (List.replicate k1.length true).all id = true from List.all_eq_true.mpr fun b hb => by rw [(List.mem_replicate.mp hb).2]; rfl]
          exact q _

end
/-! ### the end -/
theorem all_mk {l : PySem.W.OpenLaw} {w : World} {K : PySem.W.Frag} {h : Heap} {mg : Str → Option Value} {fa f1 f2 f3 f4 f5 f6 f7 f8 f9 f10 f11 f12 f13 f14 f15 f16 f17 f18 f19 f20 : Addr} (X : K.In h) (G : h.Ns mainGlobals mg) (hfa : mg "law" = some (.ref fa))
    {od1 an1 od2 an2 od3 an3 od4 an4 od5 an5 od6 an6 od7 an7 od8 an8 od9 an9 od10 an10 od11 an11 od12 an12 od13 an13 od14 an14 od15 an15 od16 an16 od17 an17 od18 an18 od19 an19 od20 an20 : Option Addr} {sl1 sl2 sl3 sl4 sl5 sl6 sl7 sl8 sl9 sl10 sl11 sl12 sl13 sl14 sl15 sl16 sl17 sl18 sl19 sl20 : Array (Option Value)} {oc1 kV1 dc1 pm1 cd1 ct1 oc2 kV2 dc2 pm2 cd2 ct2 oc3 kV3 dc3 pm3 cd3 ct3 oc4 kV4 dc4 pm4 cd4 ct4 oc5 kV5 dc5 pm5 cd5 ct5 oc6 kV6 dc6 pm6 cd6 ct6 oc7 kV7 dc7 pm7 cd7 ct7 oc8 kV8 dc8 pm8 cd8 ct8 oc9 kV9 dc9 pm9 cd9 ct9 oc10 kV10 dc10 pm10 cd10 ct10 oc11 kV11 dc11 pm11 cd11 ct11 oc12 kV12 dc12 pm12 cd12 ct12 oc13 kV13 dc13 pm13 cd13 ct13 oc14 kV14 dc14 pm14 cd14 ct14 oc15 kV15 dc15 pm15 cd15 ct15 oc16 kV16 dc16 pm16 cd16 ct16 oc17 kV17 dc17 pm17 cd17 ct17 oc18 kV18 dc18 pm18 cd18 ct18 oc19 kV19 dc19 pm19 cd19 ct19 oc20 kV20 dc20 pm20 cd20 ct20 : Value} {tk0 : Tok}

    {PC0 : Addr} (pa0 : PySem.W.nsIn K mainGlobals "Side" = some (some (.ref PC0))) (pg0 : PySem.W.plainGet K PC0 Str.empty = true) (phd0 : PySem.W.hasDictIn K PC0 = true) (po0 : PySem.W.plainOver K PC0 = true) (psa0 : PySem.W.findIn K (.ref PC0) "__setattr__" = some (some (.builtin "object.__setattr__"))) (pm0k : PySem.W.makesIn K PC0 = true) (pk0 : PySem.W.keepIn K (.ref PC0) = true)
    (pn0_0 : PySem.W.findIn K (.ref PC0) "rest" = some none)
    (pn0_1 : PySem.W.findIn K (.ref PC0) "total" = some none)
    (pn0_2 : PySem.W.findIn K (.ref PC0) "counts" = some none)
    (a1 : PySem.W.nsIn K mainGlobals "is_variable" = some (some (.ref f1))) (l1 : K.lookup f1 = some ⟨oc1, od1, .func (PySem.W.fnOf "is_variable" "is_variable" (defArgs s_is_variable) (defBody s_is_variable) (defScope s_is_variable) .none kV1 dc1 pm1 an1 cd1 ct1), sl1⟩) (c1 : PySem.W.codeIn K cd1 "is_variable" = true) (k1 : PySem.W.keepIn K (.ref f1) = true)
    (a2 : PySem.W.nsIn K mainGlobals "is_symbol" = some (some (.ref f2))) (l2 : K.lookup f2 = some ⟨oc2, od2, .func (PySem.W.fnOf "is_symbol" "is_symbol" (defArgs s_is_symbol) (defBody s_is_symbol) (defScope s_is_symbol) .none kV2 dc2 pm2 an2 cd2 ct2), sl2⟩) (c2 : PySem.W.codeIn K cd2 "is_symbol" = true) (k2 : PySem.W.keepIn K (.ref f2) = true)
    (a3 : PySem.W.nsIn K mainGlobals "arity_of" = some (some (.ref f3))) (l3 : K.lookup f3 = some ⟨oc3, od3, .func (PySem.W.fnOf "arity_of" "arity_of" (defArgs s_arity_of) (defBody s_arity_of) (defScope s_arity_of) .none kV3 dc3 pm3 an3 cd3 ct3), sl3⟩) (c3 : PySem.W.codeIn K cd3 "arity_of" = true) (k3 : PySem.W.keepIn K (.ref f3) = true)
    (a4 : PySem.W.findIn K (.ref PC0) "__init__" = some (some (.ref f4))) (i4 : PySem.W.isFn K (.ref f4) = true) (l4 : K.lookup f4 = some ⟨oc4, od4, .func (PySem.W.fnOf "__init__" "Side.__init__" (defArgs s_Side___init__) (defBody s_Side___init__) (defScope s_Side___init__) .none kV4 dc4 pm4 an4 cd4 ct4), sl4⟩) (c4 : PySem.W.codeIn K cd4 "Side.__init__" = true) (k4 : PySem.W.keepIn K (.ref f4) = true)
    (a5 : PySem.W.findIn K (.ref PC0) "add_variables" = some (some (.ref f5))) (i5 : PySem.W.isFn K (.ref f5) = true) (l5 : K.lookup f5 = some ⟨oc5, od5, .func (PySem.W.fnOf "add_variables" "Side.add_variables" (defArgs s_Side_add_variables) (defBody s_Side_add_variables) (defScope s_Side_add_variables) .none kV5 dc5 pm5 an5 cd5 ct5), sl5⟩) (c5 : PySem.W.codeIn K cd5 "Side.add_variables" = true) (k5 : PySem.W.keepIn K (.ref f5) = true)
    (a6 : PySem.W.findIn K (.ref PC0) "take" = some (some (.ref f6))) (i6 : PySem.W.isFn K (.ref f6) = true) (l6 : K.lookup f6 = some ⟨oc6, od6, .func (PySem.W.fnOf "take" "Side.take" (defArgs s_Side_take) (defBody s_Side_take) (defScope s_Side_take) .none kV6 dc6 pm6 an6 cd6 ct6), sl6⟩) (c6 : PySem.W.codeIn K cd6 "Side.take" = true) (k6 : PySem.W.keepIn K (.ref f6) = true)
    (a7 : PySem.W.findIn K (.ref PC0) "take_rest" = some (some (.ref f7))) (i7 : PySem.W.isFn K (.ref f7) = true) (l7 : K.lookup f7 = some ⟨oc7, od7, .func (PySem.W.fnOf "take_rest" "Side.take_rest" (defArgs s_Side_take_rest) (defBody s_Side_take_rest) (defScope s_Side_take_rest) .none kV7 dc7 pm7 an7 cd7 ct7), sl7⟩) (c7 : PySem.W.codeIn K cd7 "Side.take_rest" = true) (k7 : PySem.W.keepIn K (.ref f7) = true)
    (a8 : PySem.W.findIn K (.ref PC0) "bind" = some (some (.ref f8))) (i8 : PySem.W.isFn K (.ref f8) = true) (l8 : K.lookup f8 = some ⟨oc8, od8, .func (PySem.W.fnOf "bind" "Side.bind" (defArgs s_Side_bind) (defBody s_Side_bind) (defScope s_Side_bind) .none kV8 dc8 pm8 an8 cd8 ct8), sl8⟩) (c8 : PySem.W.codeIn K cd8 "Side.bind" = true) (k8 : PySem.W.keepIn K (.ref f8) = true)
    (a9 : PySem.W.nsIn K mainGlobals "apply" = some (some (.ref f9))) (l9 : K.lookup f9 = some ⟨oc9, od9, .func (PySem.W.fnOf "apply" "apply" (defArgs s_apply) (defBody s_apply) (defScope s_apply) .none kV9 dc9 pm9 an9 cd9 ct9), sl9⟩) (c9 : PySem.W.codeIn K cd9 "apply" = true) (k9 : PySem.W.keepIn K (.ref f9) = true)
    (a10 : PySem.W.nsIn K mainGlobals "settle" = some (some (.ref f10))) (l10 : K.lookup f10 = some ⟨oc10, od10, .func (PySem.W.fnOf "settle" "settle" (defArgs s_settle) (defBody s_settle) (defScope s_settle) .none kV10 dc10 pm10 an10 cd10 ct10), sl10⟩) (c10 : PySem.W.codeIn K cd10 "settle" = true) (k10 : PySem.W.keepIn K (.ref f10) = true)
    (a11 : PySem.W.nsIn K mainGlobals "unify" = some (some (.ref f11))) (l11 : K.lookup f11 = some ⟨oc11, od11, .func (PySem.W.fnOf "unify" "unify" (defArgs s_unify) (defBody s_unify) (defScope s_unify) .none kV11 dc11 pm11 an11 cd11 ct11), sl11⟩) (c11 : PySem.W.codeIn K cd11 "unify" = true) (k11 : PySem.W.keepIn K (.ref f11) = true)
    (a12 : PySem.W.nsIn K mainGlobals "unify_within" = some (some (.ref f12))) (l12 : K.lookup f12 = some ⟨oc12, od12, .func (PySem.W.fnOf "unify_within" "unify_within" (defArgs s_unify_within) (defBody s_unify_within) (defScope s_unify_within) .none kV12 dc12 pm12 an12 cd12 ct12), sl12⟩) (c12 : PySem.W.codeIn K cd12 "unify_within" = true) (k12 : PySem.W.keepIn K (.ref f12) = true)
    (a13 : PySem.W.nsIn K mainGlobals "_law_stream" = some (some (.ref f13))) (l13 : K.lookup f13 = some ⟨oc13, od13, .func (PySem.W.fnOf "_law_stream" "_law_stream" (defArgs s__law_stream) (defBody s__law_stream) (defScope s__law_stream) .none kV13 dc13 pm13 an13 cd13 ct13), sl13⟩) (c13 : PySem.W.codeIn K cd13 "_law_stream" = true) (k13 : PySem.W.keepIn K (.ref f13) = true)
    (a14 : PySem.W.nsIn K mainGlobals "_law_draw" = some (some (.ref f14))) (l14 : K.lookup f14 = some ⟨oc14, od14, .func (PySem.W.fnOf "_law_draw" "_law_draw" (defArgs s__law_draw) (defBody s__law_draw) (defScope s__law_draw) .none kV14 dc14 pm14 an14 cd14 ct14), sl14⟩) (c14 : PySem.W.codeIn K cd14 "_law_draw" = true) (k14 : PySem.W.keepIn K (.ref f14) = true)
    (a15 : PySem.W.nsIn K mainGlobals "_law_apply" = some (some (.ref f15))) (l15 : K.lookup f15 = some ⟨oc15, od15, .func (PySem.W.fnOf "_law_apply" "_law_apply" (defArgs s__law_apply) (defBody s__law_apply) (defScope s__law_apply) .none kV15 dc15 pm15 an15 cd15 ct15), sl15⟩) (c15 : PySem.W.codeIn K cd15 "_law_apply" = true) (k15 : PySem.W.keepIn K (.ref f15) = true)
    (a16 : PySem.W.nsIn K mainGlobals "_law_end" = some (some (.ref f16))) (l16 : K.lookup f16 = some ⟨oc16, od16, .func (PySem.W.fnOf "_law_end" "_law_end" (defArgs s__law_end) (defBody s__law_end) (defScope s__law_end) .none kV16 dc16 pm16 an16 cd16 ct16), sl16⟩) (c16 : PySem.W.codeIn K cd16 "_law_end" = true) (k16 : PySem.W.keepIn K (.ref f16) = true)
    (a17 : PySem.W.nsIn K mainGlobals "_law_list" = some (some (.ref f17))) (l17 : K.lookup f17 = some ⟨oc17, od17, .func (PySem.W.fnOf "_law_list" "_law_list" (defArgs s__law_list) (defBody s__law_list) (defScope s__law_list) .none kV17 dc17 pm17 an17 cd17 ct17), sl17⟩) (c17 : PySem.W.codeIn K cd17 "_law_list" = true) (k17 : PySem.W.keepIn K (.ref f17) = true)
    (a18 : PySem.W.nsIn K mainGlobals "_law_due" = some (some (.ref f18))) (l18 : K.lookup f18 = some ⟨oc18, od18, .func (PySem.W.fnOf "_law_due" "_law_due" (defArgs s__law_due) (defBody s__law_due) (defScope s__law_due) .none kV18 dc18 pm18 an18 cd18 ct18), sl18⟩) (c18 : PySem.W.codeIn K cd18 "_law_due" = true) (k18 : PySem.W.keepIn K (.ref f18) = true)
    (a19 : PySem.W.nsIn K mainGlobals "_law_unify" = some (some (.ref f19))) (l19 : K.lookup f19 = some ⟨oc19, od19, .func (PySem.W.fnOf "_law_unify" "_law_unify" (defArgs s__law_unify) (defBody s__law_unify) (defScope s__law_unify) .none kV19 dc19 pm19 an19 cd19 ct19), sl19⟩) (c19 : PySem.W.codeIn K cd19 "_law_unify" = true) (k19 : PySem.W.keepIn K (.ref f19) = true)
    (a20 : PySem.W.nsIn K mainGlobals "law" = some (some (.ref f20))) (l20 : K.lookup f20 = some ⟨oc20, od20, .func (PySem.W.fnOf "law" "law" (defArgs s_law) (defBody s_law) (defScope s_law) .none kV20 dc20 pm20 an20 cd20 ct20), sl20⟩) (c20 : PySem.W.codeIn K cd20 "law" = true) (k20 : PySem.W.keepIn K (.ref f20) = true)
    {C0 : Addr} (aC0 : PySem.W.nsIn K mainGlobals "TooLarge" = some (some (.ref C0))) (xC0 : PySem.W.excIn K C0 [.type "ValueError", .type "Exception", .type "BaseException", .type "object"] "ValueError.__new__" = true) (kC0 : PySem.W.keepIn K (.ref C0) = true) (bC0 : PySem.W.subIn K (.ref C0) (.type "BaseException") = some true) (tC0 : PySem.W.typeIn K (.ref C0) = some (.type "type")) (iC0 : PySem.W.isClsIn K C0 = true)
    {C1 : Addr} (aC1 : PySem.W.nsIn K mainGlobals "HornbookError" = some (some (.ref C1))) (xC1 : PySem.W.excIn K C1 [.type "ValueError", .type "Exception", .type "BaseException", .type "object"] "ValueError.__new__" = true) (kC1 : PySem.W.keepIn K (.ref C1) = true) (bC1 : PySem.W.subIn K (.ref C1) (.type "BaseException") = some true) (tC1 : PySem.W.typeIn K (.ref C1) = some (.type "type")) (iC1 : PySem.W.isClsIn K C1 = true)
    (sC0 : PySem.W.subIn K (.ref C0) (.ref C0) = some true)
    (Ehg0 : (PySem.W.findIn K (.ref C0) "__getattribute__" = some (some (.builtin "BaseException.__getattribute__"))))
    (Ehk0 : (PySem.W.findIn K (.ref C0) "__getattr__" = some none))
    (Ehd0 : (PySem.W.hasDictIn K C0 = true))
    (Eha0 : (PySem.W.findIn K (.ref C0) "__class__" = some (some (.builtin "object.__class__"))))
    (Ehn0 : (PySem.W.specialIn K (.builtin "object.__class__") "__get__" = some (some (.builtin "getset_descriptor.__get__"))))
    (Eht0 : (PySem.W.takesIn K (.builtin "object.__class__") = some true))
    (Ehm0 : (PySem.W.mroIn K C0 (.type "object") = some true))
    (kt0 : PySem.W.kitOne K (.ref C0) (.ref C1) = some true)
    (z0 : PySem.W.nsIn K mainGlobals "abs" = some none)
    (z1 : PySem.W.nsIn K mainGlobals "all" = some none)
    (z2 : PySem.W.nsIn K mainGlobals "dict" = some none)
    (z3 : PySem.W.nsIn K mainGlobals "int" = some none)
    (z4 : PySem.W.nsIn K mainGlobals "isinstance" = some none)
    (z5 : PySem.W.nsIn K mainGlobals "len" = some none)
    (z6 : PySem.W.nsIn K mainGlobals "list" = some none)
    (z7 : PySem.W.nsIn K mainGlobals "max" = some none)
    (z8 : PySem.W.nsIn K mainGlobals "range" = some none)
    (z9 : PySem.W.nsIn K mainGlobals "reversed" = some none)
    (z10 : PySem.W.nsIn K mainGlobals "tuple" = some none)
    (y0 : PySem.W.nsIn K mainGlobals "MOST_NODES" = some (some (.int 200 tk0)))
    : ∃ fd : FuncData, (∀ (s : Shared) (v : Value), BindsTo s fd ⟨[v], []⟩ [("script", v)]) ∧ ∀ base : Heap, K.In base → base.Ns mainGlobals mg → FnOk l.prog w K mg base CX0 8 fa fd ["script"] (sp_law K) := by
  have e := hfa.symm.trans (PySem.W.mg_of X G a20)
  cases e
  have F1 := fun_mk (st := s_is_variable) l1 c1 k1
  have b1 := F1.binds (ps := ["node"]) fun _ _ _ _ _ _ us hl => match us, hl with | [_], _ => rfl
  have F2 := fun_mk (st := s_is_symbol) l2 c2 k2
  have b2 := F2.binds (ps := ["node"]) fun _ _ _ _ _ _ us hl => match us, hl with | [_], _ => rfl
  have F3 := fun_mk (st := s_arity_of) l3 c3 k3
  have b3 := F3.binds (ps := ["node"]) fun _ _ _ _ _ _ us hl => match us, hl with | [_], _ => rfl
  have F4 := fun_mk (st := s_Side___init__) l4 c4 k4
  have b4 := F4.binds (ps := ["self", "term"]) fun _ _ _ _ _ _ us hl => match us, hl with | [_, _], _ => rfl
  have F5 := fun_mk (st := s_Side_add_variables) l5 c5 k5
  have b5 := F5.binds (ps := ["self", "term", "times"]) fun _ _ _ _ _ _ us hl => match us, hl with | [_, _, _], _ => rfl
  have F6 := fun_mk (st := s_Side_take) l6 c6 k6
  have b6 := F6.binds (ps := ["self", "found"]) fun _ _ _ _ _ _ us hl => match us, hl with | [_, _], _ => rfl
  have F7 := fun_mk (st := s_Side_take_rest) l7 c7 k7
  have b7 := F7.binds (ps := ["self", "node", "found"]) fun _ _ _ _ _ _ us hl => match us, hl with | [_, _, _], _ => rfl
  have F8 := fun_mk (st := s_Side_bind) l8 c8 k8
  have b8 := F8.binds (ps := ["self", "number", "value"]) fun _ _ _ _ _ _ us hl => match us, hl with | [_, _, _], _ => rfl
  have F9 := fun_mk (st := s_apply) l9 c9 k9
  have b9 := F9.binds (ps := ["substitution", "term"]) fun _ _ _ _ _ _ us hl => match us, hl with | [_, _], _ => rfl
  have F10 := fun_mk (st := s_settle) l10 c10 k10
  have b10 := F10.binds (ps := ["found"]) fun _ _ _ _ _ _ us hl => match us, hl with | [_], _ => rfl
  have F11 := fun_mk (st := s_unify) l11 c11 k11
  have b11 := F11.binds (ps := ["left", "right"]) fun _ _ _ _ _ _ us hl => match us, hl with | [_, _], _ => rfl
  have F12 := fun_mk (st := s_unify_within) l12 c12 k12
  have b12 := F12.binds (ps := ["left", "right", "most"]) fun _ _ _ _ _ _ us hl => match us, hl with | [_, _, _], _ => rfl
  have F13 := fun_mk (st := s__law_stream) l13 c13 k13
  have b13 := F13.binds (ps := ["script"]) fun _ _ _ _ _ _ us hl => match us, hl with | [_], _ => rfl
  have F14 := fun_mk (st := s__law_draw) l14 c14 k14
  have b14 := F14.binds (ps := ["stream", "many"]) fun _ _ _ _ _ _ us hl => match us, hl with | [_, _], _ => rfl
  have F15 := fun_mk (st := s__law_apply) l15 c15 k15
  have b15 := F15.binds (ps := ["table", "term"]) fun _ _ _ _ _ _ us hl => match us, hl with | [_, _], _ => rfl
  have F16 := fun_mk (st := s__law_end) l16 c16 k16
  have b16 := F16.binds (ps := ["term", "at"]) fun _ _ _ _ _ _ us hl => match us, hl with | [_, _], _ => rfl
  have F17 := fun_mk (st := s__law_list) l17 c17 k17
  have b17 := F17.binds (ps := ["rows"]) fun _ _ _ _ _ _ us hl => match us, hl with | [_], _ => rfl
  have F18 := fun_mk (st := s__law_due) l18 c18 k18
  have b18 := F18.binds (ps := ["left", "right"]) fun _ _ _ _ _ _ us hl => match us, hl with | [_, _], _ => rfl
  have F19 := fun_mk (st := s__law_unify) l19 c19 k19
  have b19 := F19.binds (ps := ["left", "right"]) fun _ _ _ _ _ _ us hl => match us, hl with | [_, _], _ => rfl
  have F20 := fun_mk (st := s_law) l20 c20 k20
  have E : Bi K mg := ⟨(by rw [clsA_of pa0]; exact ⟨pg0, phd0, po0, psa0⟩), (by rw [clsA_of pa0]; exact pn0_0), (by rw [clsA_of pa0]; exact pn0_1), (by rw [clsA_of pa0]; exact pn0_2), (by rw [clsA_of aC0]; exact ⟨PySem.W.mg_of X G aC0, xC0, kC0, bC0, tC0, iC0⟩), (by rw [clsA_of aC1]; exact ⟨PySem.W.mg_of X G aC1, xC1, kC1, bC1, tC1, iC1⟩), (by rw [clsA_of aC0]; exact exm_pair bC0 iC0 tC0 sC0), (by rw [clsA_of aC0]; exact ⟨Ehg0, Ehk0, bC0, Ehd0, Eha0, Ehn0, Eht0, Ehm0⟩), (by rw [clsA_of aC0, clsA_of aC1]; exact kt0), PySem.W.mg_none_of X G z0, PySem.W.mg_none_of X G z1, PySem.W.mg_none_of X G z2, PySem.W.mg_none_of X G z3, PySem.W.mg_none_of X G z4, PySem.W.mg_none_of X G z5, PySem.W.mg_none_of X G z6, PySem.W.mg_none_of X G z7, PySem.W.mg_none_of X G z8, PySem.W.mg_none_of X G z9, PySem.W.mg_none_of X G z10, ⟨_, PySem.W.mg_of X G y0, ⟨_, rfl⟩⟩⟩
  refine ⟨PySem.W.fnOf "law" "law" (defArgs s_law) (defBody s_law) (defScope s_law) .none kV20 dc20 pm20 an20 cd20 ct20, fun s v => .of_eq rfl, fun base _ _ => ?_⟩
  have D1 : Has l.prog w K mg base 1 "is_variable" ["node"] (sp_is_variable K) := ⟨_, _, ok_is_variable F1 E , PySem.W.mg_of X G a1, k1, b1⟩
  have D2 : Has l.prog w K mg base 1 "is_symbol" ["node"] (sp_is_symbol K) := ⟨_, _, ok_is_symbol F2 E , PySem.W.mg_of X G a2, k2, b2⟩
  have D13 : Has l.prog w K mg base 1 "_law_stream" ["script"] (sp__law_stream K) := ⟨_, _, ok__law_stream F13 E , PySem.W.mg_of X G a13, k13, b13⟩
  have D14 : Has l.prog w K mg base 1 "_law_draw" ["stream", "many"] (sp__law_draw K) := ⟨_, _, ok__law_draw F14 E , PySem.W.mg_of X G a14, k14, b14⟩
  have D15 : Has l.prog w K mg base 1 "_law_apply" ["table", "term"] (sp__law_apply K) := ⟨_, _, ok__law_apply F15 E , PySem.W.mg_of X G a15, k15, b15⟩
  have D16 : Has l.prog w K mg base 1 "_law_end" ["term", "at"] (sp__law_end K) := ⟨_, _, ok__law_end F16 E , PySem.W.mg_of X G a16, k16, b16⟩
  have D17 : Has l.prog w K mg base 1 "_law_list" ["rows"] (sp__law_list K) := ⟨_, _, ok__law_list F17 E , PySem.W.mg_of X G a17, k17, b17⟩
  have D3 : Has l.prog w K mg base 2 "arity_of" ["node"] (sp_arity_of K) := ⟨_, _, ok_arity_of F3 E D2, PySem.W.mg_of X G a3, k3, b3⟩
  have D5 : HasM l.prog w K mg base 2 "Side" "add_variables" ["self", "term", "times"] (sp_Side_add_variables K) := ⟨_, _, ok_Side_add_variables F5 E D1, by rw [clsA_of pa0]; exact ⟨a5, i5, k5⟩, b5⟩
  have D6 : HasM l.prog w K mg base 2 "Side" "take" ["self", "found"] (sp_Side_take K) := ⟨_, _, ok_Side_take F6 E D1, by rw [clsA_of pa0]; exact ⟨a6, i6, k6⟩, b6⟩
  have D9 : Has l.prog w K mg base 2 "apply" ["substitution", "term"] (sp_apply K) := ⟨_, _, ok_apply F9 E D1, PySem.W.mg_of X G a9, k9, b9⟩
  have D18 : Has l.prog w K mg base 2 "_law_due" ["left", "right"] (sp__law_due K) := ⟨_, _, ok__law_due F18 E D16 D15, PySem.W.mg_of X G a18, k18, b18⟩
  have D4 : HasI l.prog w K mg base 3 "Side" ["self", "term"] (sp_Side___init__ K) := ⟨_, _, ok_Side___init__ F4 E D5, by rw [clsA_of pa0]; exact ⟨pm0k, a4, i4, pk0⟩, by rw [clsA_of pa0]; exact PySem.W.mg_of X G pa0, b4⟩
  have D7 : HasM l.prog w K mg base 3 "Side" "take_rest" ["self", "node", "found"] (sp_Side_take_rest K) := ⟨_, _, ok_Side_take_rest F7 E D3 D6, by rw [clsA_of pa0]; exact ⟨a7, i7, k7⟩, b7⟩
  have D8 : HasM l.prog w K mg base 3 "Side" "bind" ["self", "number", "value"] (sp_Side_bind K) := ⟨_, _, ok_Side_bind F8 E D5, by rw [clsA_of pa0]; exact ⟨a8, i8, k8⟩, b8⟩
  have D10 : Has l.prog w K mg base 3 "settle" ["found"] (sp_settle K) := ⟨_, _, ok_settle F10 E D9, PySem.W.mg_of X G a10, k10, b10⟩
  have D12 : HasX l.prog w K mg base 5 "unify_within" ["left", "right", "most"] (sp_unify_within K) := ⟨_, _, ok_unify_within F12 E D4 D6 D1 D7 D8 D10, PySem.W.mg_of X G a12, k12, b12⟩
  have D11 : HasX l.prog w K mg base 6 "unify" ["left", "right"] (sp_unify K) := ⟨_, _, ok_unify F11 E D12, PySem.W.mg_of X G a11, k11, b11⟩
  have D19 : Has l.prog w K mg base 7 "_law_unify" ["left", "right"] (sp__law_unify K) := ⟨_, _, ok__law_unify F19 E D11, PySem.W.mg_of X G a19, k19, b19⟩
  exact ok_law F20 E D13 D14 D17 D18 D19
end My
open PySem PySem.W PyProof.Rows
set_option maxRecDepth 100000 in
set_option maxHeartbeats 0 in
theorem PySem.Challenge.cw_hornbook_k09_unify_too_large_holds : PySem.Challenge.rw_hornbook_k09_unify_too_large.Holds := by
  w_on; o_law; k_head; (case hw => w_witness2)
  k_fill
  refine L2.walk_of (l := PySem.Challenge.rw_hornbook_k09_unify_too_large) (n := 63) (k := 8) (x := "script") (CX := fun _ => L2.CX0) (sp := fun w => My.sp_law _) rfl (by decide) rfl ⟨rfl, by decide, by decide⟩ (fun w h Y => PySem.W.kIn_of Y) ?F (fun _ _ a ns hl _ hS => ⟨a, ns, rfl, hS, hl, fun _ => rfl⟩) (fun _ _ _ _ _ h => h)
  case F =>
    intro w mg fa h KX G hmg
    refine' My.all_mk KX G hmg ?pa0 ?pg0 ?phd0 ?po0 ?psa0 ?pm0k ?pk0 ?pn0_0 ?pn0_1 ?pn0_2 ?a1 ?l1 ?c1 ?k1 ?a2 ?l2 ?c2 ?k2 ?a3 ?l3 ?c3 ?k3 ?i4 ?a4 ?l4 ?c4 ?k4 ?i5 ?a5 ?l5 ?c5 ?k5 ?i6 ?a6 ?l6 ?c6 ?k6 ?i7 ?a7 ?l7 ?c7 ?k7 ?i8 ?a8 ?l8 ?c8 ?k8 ?a9 ?l9 ?c9 ?k9 ?a10 ?l10 ?c10 ?k10 ?a11 ?l11 ?c11 ?k11 ?a12 ?l12 ?c12 ?k12 ?a13 ?l13 ?c13 ?k13 ?a14 ?l14 ?c14 ?k14 ?a15 ?l15 ?c15 ?k15 ?a16 ?l16 ?c16 ?k16 ?a17 ?l17 ?c17 ?k17 ?a18 ?l18 ?c18 ?k18 ?a19 ?l19 ?c19 ?k19 ?a20 ?l20 ?c20 ?k20 ?aC0 ?xC0 ?kC0 ?bC0 ?tC0 ?iC0 ?aC1 ?xC1 ?kC1 ?bC1 ?tC1 ?iC1 ?sC0 ?Ehg0 ?Ehk0 ?Ehd0 ?Eha0 ?Ehn0 ?Eht0 ?Ehm0 ?kt0 ?z0 ?z1 ?z2 ?z3 ?z4 ?z5 ?z6 ?z7 ?z8 ?z9 ?z10 ?y0
    (case pa0 => k_is)
    (case pg0 => k_is)
    (case phd0 => k_is)
    (case po0 => k_is)
    (case psa0 => k_is)
    (case pm0k => k_is)
    (case pk0 => k_is)
    (case pn0_0 => k_is)
    (case pn0_1 => k_is)
    (case pn0_2 => k_is)
    (case a1 => k_is)
    (case l1 => k_is)
    (case c1 => k_is)
    (case k1 => k_is)
    (case a2 => k_is)
    (case l2 => k_is)
    (case c2 => k_is)
    (case k2 => k_is)
    (case a3 => k_is)
    (case l3 => k_is)
    (case c3 => k_is)
    (case k3 => k_is)
    (case i4 => k_is)
    (case a4 => k_is)
    (case l4 => k_is)
    (case c4 => k_is)
    (case k4 => k_is)
    (case i5 => k_is)
    (case a5 => k_is)
    (case l5 => k_is)
    (case c5 => k_is)
    (case k5 => k_is)
    (case i6 => k_is)
    (case a6 => k_is)
    (case l6 => k_is)
    (case c6 => k_is)
    (case k6 => k_is)
    (case i7 => k_is)
    (case a7 => k_is)
    (case l7 => k_is)
    (case c7 => k_is)
    (case k7 => k_is)
    (case i8 => k_is)
    (case a8 => k_is)
    (case l8 => k_is)
    (case c8 => k_is)
    (case k8 => k_is)
    (case a9 => k_is)
    (case l9 => k_is)
    (case c9 => k_is)
    (case k9 => k_is)
    (case a10 => k_is)
    (case l10 => k_is)
    (case c10 => k_is)
    (case k10 => k_is)
    (case a11 => k_is)
    (case l11 => k_is)
    (case c11 => k_is)
    (case k11 => k_is)
    (case a12 => k_is)
    (case l12 => k_is)
    (case c12 => k_is)
    (case k12 => k_is)
    (case a13 => k_is)
    (case l13 => k_is)
    (case c13 => k_is)
    (case k13 => k_is)
    (case a14 => k_is)
    (case l14 => k_is)
    (case c14 => k_is)
    (case k14 => k_is)
    (case a15 => k_is)
    (case l15 => k_is)
    (case c15 => k_is)
    (case k15 => k_is)
    (case a16 => k_is)
    (case l16 => k_is)
    (case c16 => k_is)
    (case k16 => k_is)
    (case a17 => k_is)
    (case l17 => k_is)
    (case c17 => k_is)
    (case k17 => k_is)
    (case a18 => k_is)
    (case l18 => k_is)
    (case c18 => k_is)
    (case k18 => k_is)
    (case a19 => k_is)
    (case l19 => k_is)
    (case c19 => k_is)
    (case k19 => k_is)
    (case a20 => k_is)
    (case l20 => k_is)
    (case c20 => k_is)
    (case k20 => k_is)
    (case aC0 => k_is)
    (case xC0 => k_exc)
    (case kC0 => k_is)
    (case bC0 => k_is)
    (case tC0 => k_is)
    (case iC0 => k_is)
    (case aC1 => k_is)
    (case xC1 => k_exc)
    (case kC1 => k_is)
    (case bC1 => k_is)
    (case tC1 => k_is)
    (case iC1 => k_is)
    (case sC0 => first | rfl | k_is)
    (case Ehg0 => k_is)
    (case Ehk0 => k_is)
    (case Ehd0 => k_is)
    (case Eha0 => k_is)
    (case Ehn0 => k_is)
    (case Eht0 => k_is)
    (case Ehm0 => k_is)
    (case kt0 => first | rfl | k_is)
    (case z0 => k_is)
    (case z1 => k_is)
    (case z2 => k_is)
    (case z3 => k_is)
    (case z4 => k_is)
    (case z5 => k_is)
    (case z6 => k_is)
    (case z7 => k_is)
    (case z8 => k_is)
    (case z9 => k_is)
    (case z10 => k_is)
    (case y0 => k_is)
