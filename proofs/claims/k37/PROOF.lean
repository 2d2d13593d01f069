import PyProof.Rows.All
import Wide.All
import OpenK.AllK
import Wide.FinOn
import HandS.ForMost
import HandS.IsInst
import HandS.Wide
import HandS.Codes
import HandS.Style
import HandS.TupLe
import HandS.TupAny
import HandS.EndBits
import HandS.Walk
import HandS.Zip
import KE.LtData
import HandS.ForExc
import HandS.ExcIs
import HandS.RaiseMore
import HandS.FStr
import HandS.Defaults
import HandS.SortKw
import KE.KRevSl
import HandS.DictComp
import HandS.DictEq
import PyProof.EqKinds
import HandS.DeepEq
import PyProof.NeKinds
import HandS.Star
import KE.DatumOrd
import HandS.SetKeys
import HandS.WordsDict
import HandS.DictComp
import HandS.DictTup
import HandS.Conv
import HandS.Flt
import HandS.More
import HandS.Deep
import HandS.TupMul
import HandS.Defaults
import PySem.Challenge.RW_hornbook_k37_resolve
set_option Elab.async false
set_option linter.all false
set_option maxRecDepth 100000
set_option maxHeartbeats 4000000
set_option exponentiation.threshold 10000
namespace My
open PySem PySem.Spec PyProof.Rows L2
/-- a def of the text that keeps a promise, as its callers want it -/
def Has (P : Program) (w : World) (K : PySem.W.Frag) (mg : Str → Option Value) (base : Heap) (k : Nat) (x : Str) (ps : List Str) (sp : Sp) : Prop :=
  ∃ (f : Addr) (fd : FuncData), FnOk P w K mg base CX0 k f fd ps sp ∧ mg x = some (.ref f) ∧ PySem.W.keepIn K (.ref f) = true ∧ Binds K fd ps []
theorem same_upd {H : Hp} {p : Addr} {o : HO} (h : H p = none) : Same H (upd H p o) := fun b x e => by
  rw [upd_ne (ne_of_none e h)]
  exact e
/-- all but the object at s is as it was -/
def But (s : Addr) (H H' : Hp) : Prop := ∀ b o, b ≠ s → H b = some o → H' b = some o
theorem But.refl (s : Addr) (H : Hp) : But s H H := fun _ _ _ e => e
theorem But.trans {s : Addr} {H H1 H2 : Hp} (a : But s H H1) (b : But s H1 H2) : But s H H2 := fun c o hc e => b c o hc (a c o hc e)
theorem But.of {s : Addr} {H H' : Hp} (a : Same H H') : But s H H' := fun b o _ e => a b o e
theorem But.put {s : Addr} {H : Hp} {o : HO} : But s H (upd H s o) := fun b u hb e => by rw [upd_ne hb]; exact e
/-! ### what a value is -/
mutual
inductive Im (K : PySem.W.Frag) (G : Addr → Prop) (H : Hp) : V → PyData → Prop
  | non : Im K G H .non .none
  | bl (b : Bool) : Im K G H (.bl b) (.bool b)
  | int (i : Int) : Im K G H (.int i) (.int i)
  | str (x : Str) : Im K G H (.str x) (.str x)
  | lst {a : Addr} {xs : List V} {ds : List PyData} : G a → H a = some (.lst xs) → ImAll K G H xs ds → Im K G H (.ref a) (.list ds)
  | tup {a : Addr} {xs : List V} {ds : List PyData} : G a → H a = some (.tup xs) → ImAll K G H xs ds → Im K G H (.ref a) (.tuple ds)
inductive ImAll (K : PySem.W.Frag) (G : Addr → Prop) (H : Hp) : List V → List PyData → Prop
  | nil : ImAll K G H [] []
  | cons {v : V} {vs : List V} {d : PyData} {ds : List PyData} : Im K G H v d → ImAll K G H vs ds → ImAll K G H (v :: vs) (d :: ds)
end
section
variable {K : PySem.W.Frag} {G G' : Addr → Prop} {H H' : Hp}
mutual
theorem Im.mono (hH : ∀ b o, G b → H b = some o → H' b = some o) (hG : ∀ b, G b → G' b) : ∀ (d : PyData) (v : V), Im K G H v d → Im K G' H' v d
  | .none, _, h => by cases h; exact .non
  | .bool b, _, h => by cases h; exact .bl b
  | .int i, _, h => by cases h; exact .int i
  | .str x, _, h => by cases h; exact .str x
  | .list ds, _, h => by
    cases h with
    | lst g e ha => exact .lst (hG _ g) (hH _ _ g e) (Im.monoAll hH hG ds _ ha)
  | .tuple ds, _, h => by
    cases h with
    | tup g e ha => exact .tup (hG _ g) (hH _ _ g e) (Im.monoAll hH hG ds _ ha)
  | .dict _, _, h => by cases h
theorem Im.monoAll (hH : ∀ b o, G b → H b = some o → H' b = some o) (hG : ∀ b, G b → G' b) : ∀ (ds : List PyData) (vs : List V), ImAll K G H vs ds → ImAll K G' H' vs ds
  | [], _, h => by cases h; exact .nil
  | d :: ds, _, h => by
    cases h with
    | cons h1 h2 => exact .cons (Im.mono hH hG d _ h1) (Im.monoAll hH hG ds _ h2)
end
mutual
theorem Im.dp : ∀ (d : PyData) (v : V), Im K G H v d → Dp K H v d
  | .none, _, h => by cases h; exact .non
  | .bool b, _, h => by cases h; exact .bl b
  | .int i, _, h => by cases h; exact .int i
  | .str x, _, h => by cases h; exact .str x
  | .list ds, _, h => by
    cases h with
    | lst g e ha => exact .lst (SqL.of e) (Im.dpAll ds _ ha)
  | .tuple ds, _, h => by
    cases h with
    | tup g e ha => exact .tup (SqT.of e) (Im.dpAll ds _ ha)
  | .dict _, _, h => by cases h
theorem Im.dpAll : ∀ (ds : List PyData) (vs : List V), ImAll K G H vs ds → DpAll K H vs ds
  | [], _, h => by cases h; exact .nil
  | d :: ds, _, h => by
    cases h with
    | cons h1 h2 => exact .cons (Im.dp d _ h1) (Im.dpAll ds _ h2)
end
theorem ImAll.len : ∀ {vs : List V} {ds : List PyData}, ImAll K G H vs ds → vs.length = ds.length
  | _, _, .nil => rfl
  | _, _, .cons _ t => congrArg (· + 1) (ImAll.len t)
theorem ImAll.get : ∀ {vs : List V} {ds : List PyData} {i : Nat} {d : PyData}, ImAll K G H vs ds → ds[i]? = some d → ∃ v, vs[i]? = some v ∧ Im K G H v d
  | _, _, _, _, .nil, e => by simp at e
  | _, _, 0, _, .cons r _, e => by simp at e; subst e; exact ⟨_, rfl, r⟩
  | _, _, i + 1, _, .cons _ t, e => by
    obtain ⟨u, h1, h2⟩ := ImAll.get (i := i) t (by simpa using e)
    exact ⟨u, by simpa using h1, h2⟩
theorem ImAll.getV : ∀ {vs : List V} {ds : List PyData} {i : Nat} {v : V}, ImAll K G H vs ds → vs[i]? = some v → ∃ d, ds[i]? = some d ∧ Im K G H v d
  | _, _, _, _, .nil, e => by simp at e
  | _, _, 0, _, .cons r _, e => by simp at e; subst e; exact ⟨_, rfl, r⟩
  | _, _, i + 1, _, .cons _ t, e => by
    obtain ⟨u, h1, h2⟩ := ImAll.getV (i := i) t (by simpa using e)
    exact ⟨u, by simpa using h1, h2⟩
theorem ImAll.snoc : ∀ {vs : List V} {ds : List PyData} {v : V} {d : PyData}, ImAll K G H vs ds → Im K G H v d → ImAll K G H (vs ++ [v]) (ds ++ [d])
  | _, _, _, _, .nil, r => .cons r .nil
  | _, _, _, _, .cons q t, r => .cons q (ImAll.snoc t r)
theorem ImAll.app : ∀ {vs : List V} {ds : List PyData} {us : List V} {es : List PyData}, ImAll K G H vs ds → ImAll K G H us es → ImAll K G H (vs ++ us) (ds ++ es)
  | _, _, _, _, .nil, r => r
  | _, _, _, _, .cons q t, r => .cons q (ImAll.app t r)
end
section
variable {K : PySem.W.Frag} {H : Hp}
theorem DpAll.len : ∀ {vs : List V} {ds : List PyData}, DpAll K H vs ds → vs.length = ds.length
  | _, _, .nil => rfl
  | _, _, .cons _ t => congrArg (· + 1) (DpAll.len t)
theorem DpAll.get : ∀ {vs : List V} {ds : List PyData} {i : Nat} {d : PyData}, DpAll K H vs ds → ds[i]? = some d → ∃ v, vs[i]? = some v ∧ Dp K H v d
  | _, _, _, _, .nil, e => by simp at e
  | _, _, 0, _, .cons r _, e => by simp at e; subst e; exact ⟨_, rfl, r⟩
  | _, _, i + 1, _, .cons _ t, e => by
    obtain ⟨u, h1, h2⟩ := DpAll.get (i := i) t (by simpa using e)
    exact ⟨u, by simpa using h1, h2⟩
/-- the name of a value's class -/
def tyN : PyData → String
  | .none => "NoneType" | .bool _ => "bool" | .int _ => "int" | .str _ => "str" | .list _ => "list" | .tuple _ => "tuple" | .dict _ => "dict"
theorem tyx_of : ∀ {x : V} {d : PyData}, Dp K H x d → TyX K H x (.type (tyN d))
  | _, _, .non => .base .non
  | _, _, .bl b => .base (.bl b)
  | _, _, .int i => .base (.int i)
  | _, _, .str x => .base (.str x)
  | _, _, .lst h _ => by
    rcases h with (h | ⟨o, h⟩) | ⟨o, its, n, hk, hc, _⟩
    · exact .base (.lst h)
    · exact .base (.frz h)
    · exact .kList hk hc
  | _, _, .tup h _ => by
    rcases h with (h | ⟨o, h⟩) | ⟨o, its, n, hk, hc, _⟩
    · exact .base (.tup h)
    · exact .fTuple h
    · exact .kTuple hk hc
def isI : PyData → Bool
  | .int _ => true | .bool _ => true | _ => false
def isB : PyData → Bool
  | .bool _ => true | _ => false
def isS : PyData → Bool
  | .str _ => true | _ => false
def isT : PyData → Bool
  | .tuple _ => true | _ => false
def isL : PyData → Bool
  | .list _ => true | _ => false
theorem kitI (d : PyData) : kitB (tyN d) "int" = some (isI d) := by cases d <;> (show kitB _ "int" = _; simp only [tyN, isI]; decide +kernel)
theorem kitBo (d : PyData) : kitB (tyN d) "bool" = some (isB d) := by cases d <;> (show kitB _ "bool" = _; simp only [tyN, isB]; decide +kernel)
theorem kitS (d : PyData) : kitB (tyN d) "str" = some (isS d) := by cases d <;> (show kitB _ "str" = _; simp only [tyN, isS]; decide +kernel)
theorem kitT (d : PyData) : kitB (tyN d) "tuple" = some (isT d) := by cases d <;> (show kitB _ "tuple" = _; simp only [tyN, isT]; decide +kernel)
theorem kitL (d : PyData) : kitB (tyN d) "list" = some (isL d) := by cases d <;> (show kitB _ "list" = _; simp only [tyN, isL]; decide +kernel)
theorem isi_int {x : V} {d : PyData} {Q : VK} (h : Dp K H x d) (q : Q (.bl (isI d)) H) : rIsi K [x, .ty "int"] H Q := ⟨x, .ty "int", _, _, _, rfl, .ty _, tyx_of h, kit_ty (kitI d), q⟩
theorem isi_bool {x : V} {d : PyData} {Q : VK} (h : Dp K H x d) (q : Q (.bl (isB d)) H) : rIsi K [x, .ty "bool"] H Q := ⟨x, .ty "bool", _, _, _, rfl, .ty _, tyx_of h, kit_ty (kitBo d), q⟩
theorem isi_str {x : V} {d : PyData} {Q : VK} (h : Dp K H x d) (q : Q (.bl (isS d)) H) : rIsi K [x, .ty "str"] H Q := ⟨x, .ty "str", _, _, _, rfl, .ty _, tyx_of h, kit_ty (kitS d), q⟩
theorem isi_tup {x : V} {d : PyData} {Q : VK} (h : Dp K H x d) (q : Q (.bl (isT d)) H) : rIsi K [x, .ty "tuple"] H Q := ⟨x, .ty "tuple", _, _, _, rfl, .ty _, tyx_of h, kit_ty (kitT d), q⟩
theorem isi_list {x : V} {d : PyData} {Q : VK} (h : Dp K H x d) (q : Q (.bl (isL d)) H) : rIsi K [x, .ty "list"] H Q := ⟨x, .ty "list", _, _, _, rfl, .ty _, tyx_of h, kit_ty (kitL d), q⟩
end
/-! ### the stream of draws -/
structure Stm (H : Hp) (s l : Addr) : Prop where
  ex : ∃ (a b m : Int) (ns : List Int), H s = some (.lst [.ref l, .int a, .int b, .int m]) ∧ H l = some (.lst (ns.map V.int)) ∧ ns.length ≤ 63 ∧ 0 ≤ a ∧ 0 ≤ b ∧ 0 ≤ m ∧ m < 2147483647
theorem Stm.keep {H H' : Hp} {s l : Addr} (h : Stm H s l) (e : Same H H') : Stm H' s l := by
  obtain ⟨a, b, m, ns, h1, h2, r⟩ := h.ex
  exact ⟨a, b, m, ns, e _ _ h1, e _ _ h2, r⟩
/-- another object is changed -/
theorem Stm.put {H : Hp} {s l r : Addr} {o : HO} (h : Stm H s l) (h1 : s ≠ r) (h2 : l ≠ r) : Stm (upd H r o) s l := by
  obtain ⟨a, b, m, ns, e1, e2, q⟩ := h.ex
  exact ⟨a, b, m, ns, by rw [upd_ne h1]; exact e1, by rw [upd_ne h2]; exact e2, q⟩
theorem Stm.at_s {H : Hp} {s l : Addr} (h : Stm H s l) : ∃ o, H s = some o := by
  obtain ⟨a, b, m, ns, e1, e2, q⟩ := h.ex
  exact ⟨_, e1⟩
theorem Stm.at_l {H : Hp} {s l : Addr} (h : Stm H s l) : ∃ o, H l = some o := by
  obtain ⟨a, b, m, ns, e1, e2, q⟩ := h.ex
  exact ⟨_, e2⟩
/-- a constant of the module -/
def GV (mg : Str → Option Value) (x : Str) (v : V) : Prop := ∃ u, mg x = some u ∧ RelV v u
theorem pe_gC {X : Cx} {x : Str} {v : V} {pos : Pos} (hg : Gl X x) (h : GV X.mg x v) (hd : (x == ("__debug__" : Str)) = false := by decide) : PE X (.Name x pos) (tC v) := by
  obtain ⟨u, e, r⟩ := h
  exact pe_glob hg e r hd

/-! ### 'a' * 40 -/
section
variable {X : Cx}
theorem op_mulS : OpR X (binaryOp .Mult) (fun x y H Q => ∃ z i, x = .str z ∧ y = .int i ∧ MulOk z i ∧ Q (.str (Txt.mul z i)) H) := by
  intro pins s σ H x y v u Q I rx ry h
  obtain ⟨z, i, rfl, rfl, hk, q⟩ := h
  obtain ⟨t, rfl⟩ := rx
  obtain ⟨t', rfl⟩ := ry
  exact SB.mul hk fun t2 k => ⟨.str _, H, I.tok k, ⟨_, rfl⟩, q⟩
end
/-! ### data written out: each part of it is new -/
section
variable {K : PySem.W.Frag}
/-- an expression that makes data and changes nothing else -/
def Lit (K : PySem.W.Frag) (σ : L2.St) (t : TE) (d : PyData) : Prop := ∀ (H : Hp) (Q : VK), (∀ v H', Same H H' → Im K (fun b => H b = Option.none) H' v d → Q v H') → t σ H Q
def LitA (K : PySem.W.Frag) (σ : L2.St) (t : TA) (ds : List PyData) : Prop := ∀ (H : Hp) (Q : List V → Hp → Prop), (∀ vs H', Same H H' → ImAll K (fun b => H b = Option.none) H' vs ds → Q vs H') → t σ H Q
variable {σ : L2.St}
theorem lit_int {i : Int} : Lit K σ (tC (.int i)) (.int i) := fun H Q h => h _ H (Same.refl H) (.int i)
theorem lit_str {x : Str} : Lit K σ (tC (.str x)) (.str x) := fun H Q h => h _ H (Same.refl H) (.str x)
theorem lit_bl {b : Bool} : Lit K σ (tC (.bl b)) (.bool b) := fun H Q h => h _ H (Same.refl H) (.bl b)
theorem lit_non : Lit K σ (tC .non) .none := fun H Q h => h _ H (Same.refl H) .non
theorem litA_nil : LitA K σ tNil [] := fun H Q h => h _ H (Same.refl H) .nil
theorem litA_cons {t : TE} {ta : TA} {d : PyData} {ds : List PyData} (h1 : Lit K σ t d) (h2 : LitA K σ ta ds) : LitA K σ (tCons t ta) (d :: ds) := fun H Q h =>
  h1 H _ fun v H1 s1 i1 => h2 H1 _ fun vs H2 s2 i2 => h _ H2 (s1.trans s2) (.cons (Im.mono (fun b o _ e => s2 b o e) (fun _ e => e) _ _ i1) (Im.monoAll (fun _ _ _ e => e) (fun b e => s1.free e) _ _ i2))
theorem lit_tup {ta : TA} {ds : List PyData} (h1 : LitA K σ ta ds) (hz : ds.length ≤ sizeLine) : Lit K σ (tTup ta) (.tuple ds) := fun H Q h =>
  h1 H _ fun vs H1 s1 i1 => ⟨by rw [i1.len]; exact hz, fun p np => h _ _ (s1.trans (same_upd np)) (.tup (s1.free np) upd_same (Im.monoAll (fun b o _ e => same_upd np b o e) (fun _ e => e) _ _ i1))⟩
theorem lit_lst {ta : TA} {ds : List PyData} (h1 : LitA K σ ta ds) (hz : ds.length ≤ sizeLine) : Lit K σ (tLst ta) (.list ds) := fun H Q h =>
  h1 H _ fun vs H1 s1 i1 => ⟨by rw [i1.len]; exact hz, fun p np => h _ _ (s1.trans (same_upd np)) (.lst (s1.free np) upd_same (Im.monoAll (fun b o _ e => same_upd np b o e) (fun _ e => e) _ _ i1))⟩
/-- what is an int -/
theorem lit_neg {t : TE} {i : Int} (h1 : Lit K σ t (.int i)) : Lit K σ (tUn (rU fun i => .int (-i)) t) (.int (-i)) := fun H Q h =>
  h1 H _ fun v H1 s1 i1 => by
    cases i1
    exact ⟨_, rfl, h _ H1 s1 (.int _)⟩
theorem lit_sub {t u : TE} {i j : Int} (h1 : Lit K σ t (.int i)) (h2 : Lit K σ u (.int j)) : Lit K σ (tOp (rI0 fun i j => .int (i - j)) t u) (.int (i - j)) := fun H Q h =>
  h1 H _ fun v H1 s1 i1 => h2 H1 _ fun v2 H2 s2 i2 => by
    cases i1
    cases i2
    exact ⟨_, _, rfl, rfl, h _ H2 (s1.trans s2) (.int _)⟩
theorem lit_pow {t u : TE} {i j : Int} (h1 : Lit K σ t (.int i)) (h2 : Lit K σ u (.int j)) (hc : CPow i j) : Lit K σ (tOp (rI CPow fun i j => .int (i ^ j.toNat)) t u) (.int (i ^ j.toNat)) := fun H Q h =>
  h1 H _ fun v H1 s1 i1 => h2 H1 _ fun v2 H2 s2 i2 => by
    cases i1
    cases i2
    exact ⟨_, _, rfl, rfl, hc, h _ H2 (s1.trans s2) (.int _)⟩
theorem lit_mulS {t u : TE} {z : Str} {j : Int} (h1 : Lit K σ t (.str z)) (h2 : Lit K σ u (.int j)) (hc : MulOk z j) : Lit K σ (tOp (fun x y H Q => ∃ z i, x = .str z ∧ y = .int i ∧ MulOk z i ∧ Q (.str (Txt.mul z i)) H) t u) (.str (Txt.mul z j)) := fun H Q h =>
  h1 H _ fun v H1 s1 i1 => h2 H1 _ fun v2 H2 s2 i2 => by
    cases i1
    cases i2
    exact ⟨_, _, rfl, rfl, hc, h _ H2 (s1.trans s2) (.str _)⟩
end
section
variable {X : Cx} {pos : Pos}
/-- a built-in class as a value -/
theorem pe_ty {x : Str} (n : String) (hg : Gl X x) (hm : X.mg x = Option.none) (hv : bootBuiltins x = some (.type n)) (hn : x ≠ "__name__" := by decide) (hd : (x == ("__debug__" : Str)) = false := by decide) : PE X (.Name x pos) (tC (.ty n)) :=
  pe_bltn hg hm hv rfl hn hd
end
section
variable {K : PySem.W.Frag} {H H' : Hp}
theorem same_sqT {a : Addr} {xs : List V} (e : Same H H') (h : SqT K H a xs) : SqT K H' a xs := by
  rcases h with (h | ⟨o, h⟩) | h
  · exact .inl (.inl (e _ _ h))
  · exact .inl (.inr ⟨o, e _ _ h⟩)
  · exact .inr h
mutual
theorem dp_same (e : Same H H') : ∀ (d : PyData) (v : V), Dp K H v d → Dp K H' v d
  | .none, _, h => by cases h; exact .non
  | .bool b, _, h => by cases h; exact .bl b
  | .int i, _, h => by cases h; exact .int i
  | .str x, _, h => by cases h; exact .str x
  | .list ds, _, h => by
    cases h with
    | lst g ha => exact .lst (e.seq g) (dp_sameAll e ds _ ha)
  | .tuple ds, _, h => by
    cases h with
    | tup g ha => exact .tup (same_sqT e g) (dp_sameAll e ds _ ha)
  | .dict _, _, h => by cases h
theorem dp_sameAll (e : Same H H') : ∀ (ds : List PyData) (vs : List V), DpAll K H vs ds → DpAll K H' vs ds
  | [], _, h => by cases h; exact .nil
  | d :: ds, _, h => by
    cases h with
    | cons h1 h2 => exact .cons (dp_same e d _ h1) (dp_sameAll e ds _ h2)
end
end
theorem small_of {n : Nat} (h : n ≤ 1000) : n ≤ sizeLine := Nat.le_of_lt (small1000 h)
theorem seq_asg {te : TE} {g : TG} {u : TS} {D : Ends} {σ : L2.St} {H : Hp} (h : te σ H fun x H1 => g x σ H1 (u D)) : tSeq (tAsg te g) u D σ H := h
theorem gname {i : Nat} {v : V} {σ : L2.St} {H : Hp} {Q : L2.St → Hp → Prop} (h : Q (σ.set i (some v)) H) : gName i v σ H Q := h
theorem nxp {N : L2.St → Hp → Prop} {R : VK} {B C : L2.St → Hp → Prop} {σ : L2.St} {H : Hp} (h : N σ H) : ({ nx := N, rt := R, bk := B, ct := C } : Ends).nx σ H := h
theorem seq_if {c : TT} {t t2 : TS} {u : TS} {D : Ends} {σ : L2.St} {H : Hp} (h : c σ H fun b H1 => if b = true then t { D with nx := u D } σ H1 else t2 { D with nx := u D } σ H1) : tSeq (tIfS c t t2) u D σ H := h
theorem seq_ifN {c : TT} {t : TS} {u : TS} {D : Ends} {σ : L2.St} {H : Hp} (h : c σ H fun b H1 => if b = true then t { D with nx := u D } σ H1 else u D σ H1) : tSeq (tIfS c t tNext) u D σ H := h
theorem seq_any {t : TS} {u : TS} {D : Ends} {σ : L2.St} {H : Hp} (h : t { D with nx := u D } σ H) : tSeq t u D σ H := h
theorem asg1 {te : TE} {g : TG} {D : Ends} {σ : L2.St} {H : Hp} (h : te σ H fun x H1 => g x σ H1 D.nx) : tAsg te g D σ H := h
section
variable {K : PySem.W.Frag} {G G' : Addr → Prop} {H H' : Hp}
mutual
theorem Im.mono2 (hH : ∀ b o, G b → H b = some o → H' b = some o) (hG : ∀ b o, H b = some o → G b → G' b) : ∀ (d : PyData) (v : V), Im K G H v d → Im K G' H' v d
  | .none, _, h => by cases h; exact .non
  | .bool b, _, h => by cases h; exact .bl b
  | .int i, _, h => by cases h; exact .int i
  | .str x, _, h => by cases h; exact .str x
  | .list ds, _, h => by
    cases h with
    | lst g e ha => exact .lst (hG _ _ e g) (hH _ _ g e) (Im.mono2All hH hG ds _ ha)
  | .tuple ds, _, h => by
    cases h with
    | tup g e ha => exact .tup (hG _ _ e g) (hH _ _ g e) (Im.mono2All hH hG ds _ ha)
  | .dict _, _, h => by cases h
theorem Im.mono2All (hH : ∀ b o, G b → H b = some o → H' b = some o) (hG : ∀ b o, H b = some o → G b → G' b) : ∀ (ds : List PyData) (vs : List V), ImAll K G H vs ds → ImAll K G' H' vs ds
  | [], _, h => by cases h; exact .nil
  | d :: ds, _, h => by
    cases h with
    | cons h1 h2 => exact .cons (Im.mono2 hH hG d _ h1) (Im.mono2All hH hG ds _ h2)
end
end
theorem join_set {c : Prop} [Decidable c] {v : V} {i : Nat} {u : TS} {D : Ends} {σ : L2.St} {H : Hp} (P : L2.St → Prop) (h : ∀ σ2, P σ2 → u D σ2 H) (h1 : c → P (σ.set i (some v))) (h2 : ¬ c → P σ) :
    if c then tAsg (tC v) (gName i) { D with nx := u D } σ H else u D σ H := by
  by_cases hc : c
  · rw [if_pos hc]
    exact h _ (h1 hc)
  · rw [if_neg hc]
    exact h _ (h2 hc)
/-- a constant tuple of the module, by its data -/
def GC (K : PySem.W.Frag) (mg : Str → Option Value) (x : Str) (d : PyData) : Prop := ∃ (u : Value) (v : V), mg x = some u ∧ RelV v u ∧ Dp K (fun _ => Option.none) v d
theorem none_same (H : Hp) : Same (fun _ => Option.none) H := fun _ _ e => nomatch e
theorem kt_of {K : PySem.W.Frag} {a : Addr} {its : Array Value} {n : Nat} {dd : Option Addr} {sl : Array (Option Value)} {xs : List V} {ds : List PyData} (h : K.lookup a = some ⟨.type "tuple", dd, .seq its n, sl⟩) (hz : its.size ≤ 1000) (hv : Vals xs its.toList) (ha : DpAll K (fun _ => Option.none) xs ds) :
    Dp K (fun _ => Option.none) (.ref a) (.tuple ds) := .tup (.inr ⟨_, its, n, h, rfl, rfl, Nat.le_trans hz (by decide), hv⟩) ha
/-! ### list.extend(tuple) -/
section
open Builtin
theorem extT (l b : Addr) (xs ys : Array Value) (n k : Nat) (dd : Option Addr) (sl : Array (Option Value)) (hlong : ¬(!xs.isEmpty && Builtin.List.listTooLong (xs.size + ys.size)) = true) (h1 : xs.size ≤ sizeLine) (h2 : xs.size + ys.size ≤ sizeLine + 1) :
    Meets (Builtin.«list.extend» ⟨[.ref l, .ref b], []⟩) (fun _ R s => s.heap.get? l = some { cls := .type "list", dict := none, data := .seq xs n, slots := #[] } ∧ s.heap.get? b = some { cls := .type "tuple", dict := dd, data := .seq ys k, slots := sl } ∧ R (.ok (.ret Value.none)) { s with heap := s.heap.update l (Obj.mapSeq fun x => x ++ ys), toks := s.toks }) := by
  refine .of_wp fun prog w A R s h => ?_
  obtain ⟨hp, g, d, tk, os⟩ := s
  obtain ⟨ea, eb, q⟩ := h
  have i1 := AutoSeq1.idx_int
  have i2 := AutoSeq1.sub_tuple_tuple
  have i3 := AutoSeq1.sub_list_list
  have i4 := AutoSeq1.sub_tuple_list
  have i5 := AutoSeq1.sub_list_tuple
  have hz : (xs ++ ys).size ≤ sizeLine + 1 := by rw [Array.size_append]; exact h2
  wp_walk using (wpAny_updateSeq ea rfl (hz := h1) (_hz' := hz)), AutoSeq1.wpAny_loadPart' ea, AutoSeq1.wpAny_loadPart' eb
  exact ⟨_, rfl, q⟩
end
section
variable {X : Cx}
def rExtT (K : PySem.W.Frag) : V → List V → Hp → VK → Prop := fun x vs H Q => ∃ l b xs zs, x = .ref l ∧ vs = [.ref b] ∧ H l = some (.lst xs) ∧ SqT K H b zs ∧ xs.length + zs.length ≤ sizeLine ∧ Q .non (upd H l (.lst (xs ++ zs)))
theorem mt_extT : MtR X "list.extend" (rExtT X.K) := by
  intro pins s σ H x vs v us Q I rx rv h
  obtain ⟨l, b, xs, zs, rfl, rfl, hH, hB, hz, q⟩ := h
  cases rx
  obtain ⟨u, rfl, ru⟩ := rv.one
  cases ru
  obtain ⟨z, its, n, r, hl, e⟩ := I.lstM hH
  obtain ⟨its2, r2, ⟨⟨oc, od, dt, sl⟩, e2, ec, k2, ed⟩, _⟩ := I.tuple hB
  simp only at ec ed
  subst ec ed
  have z1 := r.length
  have z2 := r2.length
  have hsz : its.toArray.size + its2.toArray.size ≤ sizeLine := by rw [List.size_toArray, List.size_toArray]; omega
  have nl : ¬ (!its.toArray.isEmpty && Builtin.List.listTooLong (its.toArray.size + its2.toArray.size)) = true := by
    rw [notLongL hsz, Bool.and_false]
    exact Bool.false_ne_true
  refine call_meets F.slot_list_extend ⟨_, e, rfl⟩ F.entry_list_extend (F.args_list_extend_2 _ _) (extT l b its.toArray its2.toArray n k2 od sl nl (by rw [List.size_toArray]; omega) (by omega)) ⟨e, e2, ?_⟩
  refine ⟨.non, _, I.lset (its' := its ++ its2) hH e (by simp) (r.append r2) ?_, rfl, q⟩
  rw [List.length_append]
  omega
/-! ### x in (a, b, ..), data of any depth -/
def rInT (K : PySem.W.Frag) : R2 := fun x y H Q => ∃ d ds, Dp K H x d ∧ Dp K H y (.tuple ds) ∧ SeqAt.shaped d = true ∧ SeqAt.shaped (.tuple ds) = true ∧ Q (.bl (ds.any fun z => PyData.eqv z d)) H
def rNotInT (K : PySem.W.Frag) : R2 := fun x y H Q => ∃ d ds, Dp K H x d ∧ Dp K H y (.tuple ds) ∧ SeqAt.shaped d = true ∧ SeqAt.shaped (.tuple ds) = true ∧ Q (.bl (!ds.any fun z => PyData.eqv z d)) H
theorem op_inT (hu : X.A.units + 65 < cLine) : OpR X (compareOp .In) (rInT X.K) := by
  intro pins s σ H x y v u Q I rx ry h
  obtain ⟨d, ds, hd, he, sd, se, q⟩ := h
  obtain ⟨as, r1⟩ := Dp.reads I d x v hd rx
  obtain ⟨bs, r2⟩ := Dp.reads I (.tuple ds) y u he ry
  exact SeqAt.in_tuple_reads r2 r1 (SeqAt.canLay_of_shaped se) (SeqAt.canLay_of_shaped sd) (room_in_shaped sd hu) ⟨.bl _, H, I, rfl, q⟩
theorem op_notInT (hu : X.A.units + 65 < cLine) : OpR X (compareOp .NotIn) (rNotInT X.K) := by
  intro pins s σ H x y v u Q I rx ry h
  obtain ⟨d, ds, hd, he, sd, se, q⟩ := h
  obtain ⟨as, r1⟩ := Dp.reads I d x v hd rx
  obtain ⟨bs, r2⟩ := Dp.reads I (.tuple ds) y u he ry
  exact SeqAt.notIn_tuple_reads r2 r1 (SeqAt.canLay_of_shaped se) (SeqAt.canLay_of_shaped sd) (room_in_shaped sd hu) ⟨.bl _, H, I, rfl, q⟩
theorem units65 {k : Nat} {A : Around} (r : Room k A) : A.units + 65 < cLine := by
  have := r.un
  omega
end
section
variable {K : PySem.W.Frag} {H : Hp}
theorem DpAll.dropt : ∀ {xs : List V} {ds : List PyData} (n : Nat), DpAll K H xs ds → DpAll K H (xs.drop n) (ds.drop n)
  | _, _, 0, r => r
  | _, _, _ + 1, .nil => .nil
  | _, _, n + 1, .cons _ t => DpAll.dropt n t
theorem DpAll.taket : ∀ {xs : List V} {ds : List PyData} (n : Nat), DpAll K H xs ds → DpAll K H (xs.take n) (ds.take n)
  | _, _, 0, _ => .nil
  | _, _, _ + 1, .nil => .nil
  | _, _, n + 1, .cons r t => .cons r (DpAll.taket n t)
theorem DpAll.app : ∀ {xs ys : List V} {ds es : List PyData}, DpAll K H xs ds → DpAll K H ys es → DpAll K H (xs ++ ys) (ds ++ es)
  | _, _, _, _, .nil, r => r
  | _, _, _, _, .cons q t, r => .cons q (DpAll.app t r)
theorem DpAll.getV : ∀ {vs : List V} {ds : List PyData} {i : Nat} {v : V}, DpAll K H vs ds → vs[i]? = some v → ∃ d, ds[i]? = some d ∧ Dp K H v d
  | _, _, _, _, .nil, e => by simp at e
  | _, _, 0, _, .cons r _, e => by simp at e; subst e; exact ⟨_, rfl, r⟩
  | _, _, i + 1, _, .cons _ t, e => by
    obtain ⟨u, h1, h2⟩ := DpAll.getV (i := i) t (by simpa using e)
    exact ⟨u, by simpa using h1, h2⟩
end
/-- a part of a tuple, also the whole -/
theorem cut_nat (xs : List V) (i j : Nat) (h1 : i ≤ xs.length) (h2 : j ≤ xs.length) : cutV xs (some (i : Int)) (some (j : Int)) = (xs.drop i).take (j - i) := by
  unfold cutV
  rw [HT.sIx_nat, HT.sIx_nat, Nat.min_eq_left h1, Nat.min_eq_left h2]
theorem slA_nat {K : PySem.W.Frag} {H : Hp} {a : Addr} {xs : List V} {i j : Nat} {Q : VK} (hs : SqT K H a xs) (h1 : i ≤ xs.length) (h2 : j ≤ xs.length) (h : ∀ b H', Same H H' → SqT K H' b ((xs.drop i).take (j - i)) → (∀ c, H c = Option.none → c ≠ b → H' c = Option.none) → Q (.ref b) H') :
    rSlA K (.ref a) (some (i : Int)) (some (j : Int)) H Q := by
  refine ⟨a, xs, rfl, hs, fun z => ?_, fun z p np => ?_⟩
  · rw [HT.sIx_nat, HT.sIx_nat, Nat.min_eq_left h1, Nat.min_eq_left h2] at z
    refine h a H (Same.refl H) ?_ fun _ e _ => e
    rw [z.1, z.2, List.drop_zero, Nat.sub_zero, List.take_length]
    exact hs
  · rw [cut_nat xs i j h1 h2]
    exact h p _ (same_upd np) (SqT.of upd_same) fun c e hc => by rw [upd_ne hc]; exact e
theorem cat_dp {K : PySem.W.Frag} {H : Hp} {x y : V} {ds es : List PyData} {Q : VK} (hx : Dp K H x (.tuple ds)) (hy : Dp K H y (.tuple es)) (hne : ds ≠ []) (hz : ds.length + es.length ≤ 1000) (h : ∀ v H', Same H H' → Dp K H' v (.tuple (ds ++ es)) → Q v H') : rCatT K x y H Q := by
  cases hx with
  | @tup a xs _ sx ax =>
  cases hy with
  | @tup b ys _ sy ay =>
  have lx := DpAll.len ax
  have ly := DpAll.len ay
  refine ⟨a, b, xs, ys, rfl, rfl, sx, sy, fun z => ?_, small_of (by omega), fun z => ?_, fun z p np => ?_⟩
  · rw [z] at lx
    exact hne (List.eq_nil_of_length_eq_zero lx.symm)
  · subst z
    cases ay
    rw [List.append_nil] at h
    exact h _ H (Same.refl H) (.tup sx ax)
  · exact h _ _ (same_upd np) (.tup (SqT.of upd_same) (dp_sameAll (same_upd np) _ _ (DpAll.app ax ay)))
theorem cut_from1 (v : V) (xs : List V) : cutV (v :: xs) (some 1) Option.none = xs := by
  unfold cutV
  rw [show (some (1 : Int)) = some ((1 : Nat) : Int) from rfl, HT.sIx_nat, HT.sIx_none, List.length_cons, Nat.min_eq_left (by omega), List.drop_succ_cons, List.drop_zero, Nat.add_sub_cancel]
  exact List.take_length
section
variable {σ : L2.St} {H : Hp}
theorem args1 {t : TE} {ta : TA} {Q : List V → Hp → Prop} (h : t σ H fun x H1 => ta σ H1 fun xs H2 => Q (x :: xs) H2) : tCons t ta σ H Q := h
theorem tup_of {ta : TA} {Q : VK} (h : ta σ H fun xs H1 => xs.length ≤ sizeLine ∧ ∀ p, H1 p = Option.none → Q (.ref p) (upd H1 p (.tup xs))) : tTup ta σ H Q := h
theorem const_of {v : V} {Q : VK} (h : Q v H) : tC v σ H Q := h
theorem op_of {r : R2} {ta tb : TE} {Q : VK} (h : ta σ H fun x H1 => tb σ H1 fun y H2 => r x y H2 Q) : tOp r ta tb σ H Q := h
theorem nil_of {Q : List V → Hp → Prop} (h : Q [] H) : tNil σ H Q := h
end
section
variable {σ : L2.St} {H : Hp}
theorem call_of {sp : Sp} {dvs : List V} {E : XK} {t : TA} {Q : VK} (h : t σ H fun vs H1 => sp (vs ++ dvs) H1 Q E) : tCall sp dvs E t σ H Q := h
theorem args_and {r : R2} {sp : Sp} {dvs : List V} {E : XK} {t : TA} {tb tc : TE} {D : Ends} (h : t σ H fun vs H1 => sp (vs ++ dvs) H1 (fun x H1 => tb σ H1 fun y H2 => r x y H2 fun x H1 => ∃ c, x = .bl c ∧ if c = true then tc σ H1 D.rt else D.rt (.bl false) H1) E) : tRet (tAndV (tOp r (tCall sp dvs E t) tb) tc) D σ H := h
end
theorem relStr (x : Str) (t : Tok) : RelV (.str x) (.str x t) := ⟨_, rfl⟩
theorem relInt (i : Int) (t : Tok) : RelV (.int i) (.int i t) := ⟨_, rfl⟩
theorem relRef (a : Addr) : RelV (.ref a) (.ref a) := rfl
/-! ### a < b of data whose places are alike -/
section
variable {X : Cx}
def rLtD (K : PySem.W.Frag) : R2 := fun x y H Q => ∃ d e, Dp K H x d ∧ Dp K H y e ∧ PySem.W.alike d e = true ∧ d ≠ .none ∧ d.depth ≤ 8 ∧ Q (.bl (PySem.W.dataLt d e)) H
theorem op_ltD (hu : X.A.units + 64 < cLine) : OpR X (compareOp .Lt) (rLtD X.K) := by
  intro pins s σ H x y v u Q I rx ry h
  obtain ⟨d, e, hd, he, ha, hn, hz, q⟩ := h
  obtain ⟨as, r1⟩ := Dp.reads I d x v hd rx
  obtain ⟨bs, r2⟩ := Dp.reads I e y u he ry
  have R := PySem.W.rcLt_alike d e X.A s v u as bs r1 r2 ha hn (Nat.lt_of_le_of_lt (Nat.add_le_add_left (Nat.le_trans (Nat.min_le_left _ _) (Nat.le_trans hz (by decide : 8 ≤ 64))) _) hu)
  have z : wpAny (model X.prog X.w) X.A (compareOp .Lt v u) (EP X pins σ Q) X.xe s := R X.prog X.w X.xe (EP X pins σ Q) ⟨.bl _, H, I, rfl, q⟩
  exact z
end
/-! ### zip of two tuples -/
theorem walk_zipT {K : PySem.W.Frag} {a b : Addr} {xs ys : List V} {n : Nat} (hn : n = min xs.length ys.length) : Walk (RZ.ItzT K a b) n (fun H => SqT K H a xs ∧ SqT K H b ys) (YPair (fun i => xs[i]?) (fun i => ys[i]?)) := by
  subst hn
  refine ⟨fun i H hi q => ?_, fun H q => ⟨xs, ys, q.1, q.2, by omega⟩, fun i H v H' hi q y => ?_⟩
  · have h1 : i < xs.length := by omega
    have h2 : i < ys.length := by omega
    exact ⟨xs, ys, _, _, q.1, q.2, List.getElem?_eq_getElem h1, List.getElem?_eq_getElem h2⟩
  · obtain ⟨T, x, y, e1, e2, e3, e4, e5⟩ := y
    exact ⟨T, x, y, e1, e2, e3, e4 xs q.1, e5 ys q.2⟩
/-! ### () + t -/
section
open Builtin
theorem addE (l b : Addr) (xs ys : Array Value) (n k : Nat) (dd dd2 : Option Addr) (sl sl2 : Array (Option Value)) (he : xs.isEmpty = true) :
    Meets (Builtin.«tuple.__add__» ⟨[.ref l, .ref b], []⟩) (fun _ R s => s.heap.get? l = some { cls := .type "tuple", dict := dd, data := .seq xs n, slots := sl } ∧ s.heap.get? b = some { cls := .type "tuple", dict := dd2, data := .seq ys k, slots := sl2 } ∧ R (.ok (.ret (Value.ref b))) s) := by
  refine .of_wp fun prog w A R s h => ?_
  obtain ⟨hp, g, d, tk, os⟩ := s
  obtain ⟨ea, eb, q⟩ := h
  have i1 := AutoSeq1.idx_int
  have i2 := AutoSeq1.sub_tuple_tuple
  have i3 := AutoSeq1.sub_list_list
  have i4 := AutoSeq1.sub_tuple_list
  have i5 := AutoSeq1.sub_list_tuple
  wp_walk using AutoSeq1.wpAny_loadPart' ea, AutoSeq1.wpAny_loadPart' eb
  exact ⟨_, rfl, q⟩
end
section
variable {X : Cx}
def rCatA (K : PySem.W.Frag) : R2 := fun x y H Q => ∃ a b xs ys, x = .ref a ∧ y = .ref b ∧ SqT K H a xs ∧ SqT K H b ys ∧ xs.length + ys.length ≤ sizeLine ∧ (xs = [] → Q (.ref b) H) ∧ (ys = [] → Q (.ref a) H) ∧ ∀ p, H p = Option.none → Q (.ref p) (upd H p (.tup (xs ++ ys)))
theorem op_catA : OpR X (binaryOp .Add) (rCatA X.K) := by
  intro pins s σ H x y v u Q I rx ry h
  obtain ⟨a, b, xs, ys, rfl, rfl, ha, hb, hz, q1, q2, q3⟩ := h
  by_cases hx : xs = []
  · subst hx
    cases rx
    cases ry
    obtain ⟨its, r1, p1, _⟩ := I.tuple ha
    obtain ⟨its2, r2, p2, _⟩ := I.tuple hb
    cases r1
    obtain ⟨⟨oc, od, dt, sl⟩, e1, c1, n, d1⟩ := p1
    obtain ⟨⟨oc2, od2, dt2, sl2⟩, e2, c2, n2, d2⟩ := p2
    simp only at c1 d1 c2 d2
    subst c1 d1 c2 d2
    exact concat_meets ⟨_, e1, rfl⟩ ⟨_, e2, rfl⟩ noFill_tuple_add seq_tuple_add PySem.F.slot_tuple_add PySem.F.entry_tuple_add (PySem.F.args_tuple_add_2 _ _)
      (addE a b #[] its2.toArray n n2 od od2 sl sl2 rfl) ⟨e1, e2, ⟨.ref b, H, I, rfl, q1 rfl⟩⟩
  · exact op_catT pins s σ H (.ref a) (.ref b) v u Q I rx ry ⟨a, b, xs, ys, rfl, rfl, ha, hb, hx, hz, q2, fun _ p np => q3 p np⟩
end
section
variable {K : PySem.W.Frag} {G : Addr → Prop} {H : Hp}
theorem ImAll.dropt : ∀ {xs : List V} {ds : List PyData} (n : Nat), ImAll K G H xs ds → ImAll K G H (xs.drop n) (ds.drop n)
  | _, _, 0, r => r
  | _, _, _ + 1, .nil => .nil
  | _, _, n + 1, .cons _ t => ImAll.dropt n t
theorem ImAll.taket : ∀ {xs : List V} {ds : List PyData} (n : Nat), ImAll K G H xs ds → ImAll K G H (xs.take n) (ds.take n)
  | _, _, 0, _ => .nil
  | _, _, _ + 1, .nil => .nil
  | _, _, n + 1, .cons r t => .cons r (ImAll.taket n t)
theorem im_new {xs : List V} {ds : List PyData} {p : Addr} (np : H p = Option.none) (ia : ImAll K G H xs ds) : Im K (fun b => G b ∨ H b = Option.none) (upd H p (.tup xs)) (.ref p) (.tuple ds) :=
  .tup (.inr np) upd_same (Im.monoAll (fun b o _ e => same_upd np b o e) (fun _ g => .inl g) _ _ ia)
theorem im_cut {x : V} {ds es : List PyData} {lo hi : Option Int} {Q : VK} (iv : Im K G H x (.tuple ds)) (hc : ∀ xs : List V, ImAll K G H xs ds → ImAll K G H (cutV xs lo hi) es) (h : ∀ v H', Same H H' → (∀ b, G b ∨ H b = Option.none → G b ∨ H b = Option.none) → Im K (fun b => G b ∨ H b = Option.none) H' v (.tuple es) → Q v H') : rSlA K x lo hi H Q := by
  cases iv with
  | @tup a xs _ g e ia =>
  refine ⟨a, xs, rfl, SqT.of e, fun z => ?_, fun z p np => ?_⟩
  · have hw : cutV xs lo hi = xs := by
      unfold cutV
      rw [z.1, z.2, List.drop_zero, Nat.sub_zero, List.take_length]
    have := hc xs ia
    rw [hw] at this
    exact h _ H (Same.refl H) (fun _ q => q) (.tup (.inl g) e (Im.monoAll (fun _ _ _ e => e) (fun _ g => .inl g) _ _ this))
  · exact h _ _ (same_upd np) (fun _ q => q) (im_new np (hc xs ia))
theorem im_take {x : V} {ds : List PyData} {k : Nat} {Q : VK} (iv : Im K G H x (.tuple ds)) (hk : k ≤ ds.length) (h : ∀ v H', Same H H' → Im K (fun b => G b ∨ H b = Option.none) H' v (.tuple (ds.take k)) → Q v H') : rSlA K x Option.none (some (k : Int)) H Q :=
  im_cut iv (fun xs ia => by
    unfold cutV
    rw [HT.sIx_none, HT.sIx_nat, Nat.min_eq_left (by rw [ia.len]; exact hk), List.drop_zero, Nat.sub_zero]
    exact ImAll.taket _ ia) fun v H' s _ i => h v H' s i
theorem im_drop {x : V} {ds : List PyData} {k : Nat} {Q : VK} (iv : Im K G H x (.tuple ds)) (hk : k ≤ ds.length) (h : ∀ v H', Same H H' → Im K (fun b => G b ∨ H b = Option.none) H' v (.tuple (ds.drop k)) → Q v H') : rSlA K x (some (k : Int)) Option.none H Q :=
  im_cut iv (fun xs ia => by
    unfold cutV
    rw [HT.sIx_none, HT.sIx_nat, Nat.min_eq_left (by rw [ia.len]; exact hk), List.take_of_length_le (by rw [List.length_drop]; exact Nat.le_refl _)]
    exact ImAll.dropt _ ia) fun v H' s _ i => h v H' s i
theorem im_cat {x y : V} {ds es : List PyData} {Q : VK} (iv : Im K G H x (.tuple ds)) (iw : Im K G H y (.tuple es)) (hz : ds.length + es.length ≤ 1000) (h : ∀ v H', Same H H' → Im K (fun b => G b ∨ H b = Option.none) H' v (.tuple (ds ++ es)) → Q v H') : rCatA K x y H Q := by
  have w1 := Im.mono (G' := fun b => G b ∨ H b = Option.none) (fun _ _ _ e => e) (fun _ g => .inl g) _ _ iv
  have w2 := Im.mono (G' := fun b => G b ∨ H b = Option.none) (fun _ _ _ e => e) (fun _ g => .inl g) _ _ iw
  cases iv with
  | @tup a xs _ g e ia =>
  cases iw with
  | @tup b ys _ g2 e2 ib =>
  have l1 := ia.len
  have l2 := ib.len
  refine ⟨a, b, xs, ys, rfl, rfl, SqT.of e, SqT.of e2, small_of (by omega), fun z => ?_, fun z => ?_, fun p np => ?_⟩
  · subst z
    cases ia
    exact h _ H (Same.refl H) w2
  · subst z
    cases ib
    rw [List.append_nil] at h
    exact h _ H (Same.refl H) w1
  · exact h _ _ (same_upd np) (im_new np (ImAll.app ia ib))
end
end My
namespace My
open PySem PySem.Spec PyProof.Rows L2 SkE
/-! ### defs that may raise, and the program's own error classes -/
def HasX (P : Program) (w : World) (K : PySem.W.Frag) (mg : Str → Option Value) (base : Heap) (k : Nat) (x : Str) (ps : List Str) (sp : Sp) : Prop :=
  ∃ (f : Addr) (fd : FuncData), FnOk P w K mg base (L2.CX P w) k f fd ps sp ∧ mg x = some (.ref f) ∧ PySem.W.keepIn K (.ref f) = true ∧ Binds K fd ps []
/-- where the class of this name stands -/
def clsA (K : PySem.W.Frag) (x : Str) : Addr := match PySem.W.nsIn K mainGlobals x with
  | some (some (.ref C)) => C | _ => 0
theorem clsA_of {K : PySem.W.Frag} {x : Str} {C : Addr} (h : PySem.W.nsIn K mainGlobals x = some (some (.ref C))) : clsA K x = C := by
  unfold clsA
  rw [h]
structure Xc (K : PySem.W.Frag) (mg : Str → Option Value) (x : Str) (C : Addr) : Prop where
  gC : mg x = some (.ref C)
  xC : PySem.W.excIn K C [.type "ValueError", .type "Exception", .type "BaseException", .type "object"] "ValueError.__new__" = true
  kC : PySem.W.keepIn K (.ref C) = true
  bC : PySem.W.subIn K (.ref C) (.type "BaseException") = some true
  tC : PySem.W.typeIn K (.ref C) = some (.type "type")
  iC : PySem.W.isClsIn K C = true
theorem exm_pair {K : PySem.W.Frag} {T S : Addr} {b : Bool} (h1 : PySem.W.subIn K (.ref S) (.type "BaseException") = some true) (h2 : PySem.W.isClsIn K S = true) (h3 : PySem.W.typeIn K (.ref S) = some (.type "type")) (h4 : PySem.W.subIn K (.ref T) (.ref S) = some b) :
    PySem.W.exmOne K (.ref T) (.ref S) = some b := by
  have e1 : (PySem.W.subIn K (.ref S) (.type "BaseException") == some true) = true := by rw [h1] <;> rfl
  have e2 : ((PySem.W.clsIn K S).isSome && PySem.W.typeIn K (.ref S) == some (.type "type")) = true := by
    have h2' : (PySem.W.clsIn K S).isSome = true := h2
    rw [h2', h3] <;> rfl
  show (if (PySem.W.subIn K (.ref S) (.type "BaseException") == some true) = true then (if ((PySem.W.clsIn K S).isSome && PySem.W.typeIn K (.ref S) == some (.type "type")) = true then PySem.W.subIn K (.ref T) (.ref S) else none) else none) = some b
  rw [if_pos e1, if_pos e2]
  exact h4
theorem pss_under {X : Cx} {b : List Stmt} {t : TS} {P : Prop} (h : P → PSs X b t) : PSs X b (fun D σ H => P ∧ t D σ H) := ⟨fun pins s σ H D I ⟨p, q⟩ => (h p).run pins s σ H D I q⟩
end My
namespace My
open PySem PySem.Spec PyProof.Rows L2
/-! ### one step of a reading each -/
section
variable {σ : L2.St} {H : Hp} {Q : VK} {QA : List V → Hp → Prop} {QT : Bool → Hp → Prop} {te ta tb : TE} {tr tk : TA} {t u : TS} {c d : TT} {D : Ends} {v x y : V} {i j : Int} {g : TG} {K : PySem.W.Frag}
theorem st_of {N : List Str} {vs : List V} (e : L2.start N vs = σ) (h : t D σ H) : t D (L2.start N vs) H := e ▸ h
theorem g_var {n : Nat} (e : σ[n]? = some (some v)) (h : Q v H) : tVar n σ H Q := ⟨v, e, h⟩
theorem g_c (h : Q v H) : tC v σ H Q := h
theorem g_nil (h : QA [] H) : tNil σ H QA := h
theorem g_cons (h : ta σ H fun x H1 => tr σ H1 fun xs H2 => QA (x :: xs) H2) : tCons ta tr σ H QA := h
theorem g_op {r : R2} (h : ta σ H fun x H1 => tb σ H1 fun y H2 => r x y H2 Q) : tOp r ta tb σ H Q := h
theorem g_un {r : V → Hp → VK → Prop} (h : ta σ H fun x H1 => r x H1 Q) : tUn r ta σ H Q := h
theorem g_i0 {f : Int → Int → V} (h : Q (f i j) H) : rI0 f (.int i) (.int j) H Q := ⟨i, j, rfl, rfl, h⟩
theorem g_i1 {C : Int → Int → Prop} {f : Int → Int → V} (hc : C i j) (h : Q (f i j) H) : rI C f (.int i) (.int j) H Q := ⟨i, j, rfl, rfl, hc, h⟩
theorem g_iu {f : Int → V} (h : Q (f i) H) : rU f (.int i) H Q := ⟨i, rfl, h⟩
theorem dec_i : decide (V.int i = V.int j) = decide (i = j) := by
  by_cases e : i = j
  · rw [e]; simp
  · rw [decide_eq_false e, decide_eq_false fun z => e (V.int.inj z)]
theorem dec_s {a b : Str} : decide (V.str a = V.str b) = decide (a = b) := by
  by_cases e : a = b
  · rw [e]; simp
  · rw [decide_eq_false e, decide_eq_false fun z => e (V.str.inj z)]
theorem g_eqi (h : Q (.bl (decide (i = j))) H) : rEq (.int i) (.int j) H Q := ⟨rfl, by rw [dec_i]; exact h⟩
theorem g_nei (h : Q (.bl (!decide (i = j))) H) : rNe (.int i) (.int j) H Q := ⟨rfl, by rw [dec_i]; exact h⟩
theorem g_eqs {a b : Str} (h : Q (.bl (decide (a = b))) H) : rEq (.str a) (.str b) H Q := ⟨rfl, by rw [dec_s]; exact h⟩
theorem g_nes {a b : Str} (h : Q (.bl (!decide (a = b))) H) : rNe (.str a) (.str b) H Q := ⟨rfl, by rw [dec_s]; exact h⟩
theorem g_bl {b : Bool} {P : Bool → Prop} (h : P b) : ∃ k, V.bl b = V.bl k ∧ P k := ⟨b, rfl, h⟩
theorem g_in {P : Int → Prop} (h : P i) : ∃ k, V.int i = V.int k ∧ P k := ⟨i, rfl, h⟩
theorem g_test (h : te σ H fun x H' => ∃ k, x = .bl k ∧ QT k H') : tTest te σ H QT := h
theorem g_b (h : te σ H fun x H' => ∃ k, x = .bl k ∧ QT k H') : tB te σ H QT := h
theorem g_not (h : c σ H fun b H1 => QT (!b) H1) : tNot c σ H QT := h
theorem g_and (h : c σ H fun b H1 => if b = true then d σ H1 QT else QT false H1) : tAnd c d σ H QT := h
theorem g_or (h : c σ H fun b H1 => if b = true then QT true H1 else d σ H1 QT) : tOr c d σ H QT := h
theorem g_andV (h : ta σ H fun x H1 => ∃ k, x = .bl k ∧ if k = true then tb σ H1 Q else Q (.bl false) H1) : tAndV ta tb σ H Q := h
theorem g_orV (h : ta σ H fun x H1 => ∃ k, x = .bl k ∧ if k = true then Q (.bl true) H1 else tb σ H1 Q) : tOrV ta tb σ H Q := h
theorem g_notV (h : ta σ H fun x H1 => ∃ k, x = .bl k ∧ Q (.bl (!k)) H1) : tNotV ta σ H Q := h
theorem g_if (h : c σ H fun b H1 => if b = true then ta σ H1 Q else tb σ H1 Q) : tIf c ta tb σ H Q := h
theorem g_next (h : D.nx σ H) : tNext D σ H := h
theorem g_seq (h : t { D with nx := u D } σ H) : tSeq t u D σ H := h
theorem g_brk (h : D.bk σ H) : tBreak D σ H := h
theorem g_cont (h : D.ct σ H) : tCont D σ H := h
theorem g_drop (h : te σ H fun _ H1 => D.nx σ H1) : tDrop te D σ H := h
theorem g_ret (h : te σ H D.rt) : tRet te D σ H := h
theorem g_retN (h : D.rt .non H) : tRetN D σ H := h
theorem g_ifS (h : c σ H fun b H1 => if b = true then t D σ H1 else u D σ H1) : tIfS c t u D σ H := h
theorem g_asg (h : te σ H fun x H1 => g x σ H1 D.nx) : tAsg te g D σ H := h
theorem g_par {m n : Nat} (h : tr σ H fun vs H1 => ∃ v w, vs = [v, w] ∧ D.nx ((σ.set m (some v)).set n (some w)) H1) : tPar m n tr D σ H := h
theorem g_two {P : V → V → Prop} (h : P x y) : ∃ a b, [x, y] = [a, b] ∧ P a b := ⟨x, y, rfl, h⟩
theorem g_aug {n : Nat} {ti : TIp} (e : σ[n]? = some (some x)) (h : te σ H fun y H1 => ti x y H1 fun z H2 => D.nx (σ.set n (some z)) H2) : tAug n te ti D σ H := ⟨x, e, h⟩
theorem g_call {sp : Sp} {dvs : List V} {E : XK} (h : tr σ H fun vs H1 => sp (vs ++ dvs) H1 Q E) : tCall sp dvs E tr σ H Q := h
theorem g_callN {n m : Nat} {sp : Sp} {gV : List V → List V → List V} {E : XK} (h : tr σ H fun vs H1 => tk σ H1 fun zs H2 => vs.length = n ∧ zs.length = m ∧ sp (gV vs zs) H2 Q E) : tCallN n m sp gV E tr tk σ H Q := h
theorem g_kw {r : List V → List V → Hp → VK → Prop} (h : tr σ H fun vs H1 => tk σ H1 fun zs H2 => r vs zs H2 Q) : tCKw r tr tk σ H Q := h
theorem g_cb {r : List V → Hp → VK → Prop} (h : tr σ H fun vs H1 => r vs H1 Q) : tCB r tr σ H Q := h
theorem g_tup (h : tr σ H fun xs H1 => xs.length ≤ sizeLine ∧ ∀ p, H1 p = Option.none → Q (.ref p) (upd H1 p (.tup xs))) : tTup tr σ H Q := h
theorem g_lst (h : tr σ H fun xs H1 => xs.length ≤ sizeLine ∧ ∀ p, H1 p = Option.none → Q (.ref p) (upd H1 p (.lst xs))) : tLst tr σ H Q := h
theorem g_sl {r : V → Option Int → Option Int → Hp → VK → Prop} {tl th : TO} (h : te σ H fun x H1 => tl σ H1 fun l H2 => th σ H2 fun u H3 => r x l u H3 Q) : tSl r te tl th σ H Q := h
theorem g_np {QO : Option Int → Hp → Prop} (h : QO Option.none H) : tNoPart σ H QO := h
theorem g_part {QO : Option Int → Hp → Prop} (h : te σ H fun x H1 => ∃ i, x = .int i ∧ QO (some i) H1) : tPart te σ H QO := h
theorem g_bm {T : String} {r : V → List V → Hp → VK → Prop} (h : te σ H fun x H1 => tyV K T x H1 ∧ tr σ H1 fun xs H2 => r x xs H2 Q) : tBM K T r te tr σ H Q := h
theorem g_bm0 {T : String} {r : V → List V → Hp → VK → Prop} (h : te σ H fun x H1 => tyV K T x H1 ∧ r x [] H1 Q) : tBM0 K T r te σ H Q := h
theorem g_rt {N : L2.St → Hp → Prop} {R : VK} {B C : L2.St → Hp → Prop} (h : R v H) : ({ nx := N, rt := R, bk := B, ct := C } : Ends).rt v H := h
theorem g_bk {N : L2.St → Hp → Prop} {R : VK} {B C : L2.St → Hp → Prop} (h : B σ H) : ({ nx := N, rt := R, bk := B, ct := C } : Ends).bk σ H := h
theorem g_ct {N : L2.St → Hp → Prop} {R : VK} {B C : L2.St → Hp → Prop} (h : C σ H) : ({ nx := N, rt := R, bk := B, ct := C } : Ends).ct σ H := h
theorem g_sub {to ti : TE} {ts : TSet} {QS : L2.St → Hp → Prop} (h : to σ H fun o H1 => ti σ H1 fun i H2 => ts o i v H2 fun H3 => QS σ H3) : gSub to ti ts v σ H QS := h
theorem g_isN {P : Bool → Prop} (h : P true) : P (decide (V.non = V.non)) := by rw [decide_eq_true rfl]; exact h
theorem ifv (P : Hp → Prop) (hu : ∀ H, P H → u D σ H) (hc : (∀ H, P H → u D σ H) → c σ H fun b H1 => if b = true then t D σ H1 else u D σ H1) : tIfS c t u D σ H := hc hu
theorem ifc (b : Bool) (hc : ∀ QT : Bool → Hp → Prop, QT b H → c σ H QT) (ht : b = true → t D σ H) (hu : b = false → u D σ H) : tIfS c t u D σ H := hc _ (by cases b with | true => exact iteT (ht rfl) | false => exact iteF (hu rfl))
theorem nx_via {t : TS} {N : L2.St → Hp → Prop} {R : VK} {B C : L2.St → Hp → Prop} (P : L2.St → Hp → Prop) (hu : ∀ σ H, P σ H → N σ H) (ht : (∀ σ H, P σ H → N σ H) → t { nx := N, rt := R, bk := B, ct := C } σ H) : t { nx := N, rt := R, bk := B, ct := C } σ H := ht hu
theorem iteNf {A B : Prop} (h : A) : if (!false) = true then A else B := h
theorem iteSs {α : Type} {u : α} {A B : Prop} (h : A) : if (some u).isSome = true then A else B := h
theorem iteSn {α : Type} {A B : Prop} (h : B) : if (Option.none : Option α).isSome = true then A else B := iteF h
theorem iteNt {A B : Prop} (h : B) : if (!true) = true then A else B := iteF h
theorem g_yes {QT : Bool → Hp → Prop} (h : QT true H) : tYes σ H QT := h
theorem nine {n : Int} (h0 : 0 ≤ n) (h : n ≤ 10 ^ 41) : n.natAbs < 2 ^ 9000 := Nat.lt_of_lt_of_le (show n.natAbs < 2 ^ 140 from Nat.lt_of_le_of_lt (show n.natAbs ≤ 10 ^ 41 by omega) (by decide)) (Nat.pow_le_pow_right (by decide) (by decide))
/-- a while by a measure -/
theorem while_m {tb : TS} (W : Nat → L2.St → Hp → Prop) (h0 : ∃ m, W m σ H) (hs : ∀ m σ H, W m σ H → c σ H fun b H1 => if b = true then ∃ N : L2.St → Hp → Prop, (∀ σ' H', N σ' H' → ∃ m', m' < m ∧ W m' σ' H') ∧ tb { D with nx := N, ct := N, bk := D.nx } σ H1 else D.nx σ H1) : tWhile c tb D σ H := ⟨W, h0, hs⟩
theorem while_n {tb : TS} {W : Nat → L2.St → Hp → Prop} {m : Nat} (h : tb { D with nx := fun σ' H' => ∃ m', m' < m ∧ W m' σ' H', ct := fun σ' H' => ∃ m', m' < m ∧ W m' σ' H', bk := D.nx } σ H) :
    ∃ N : L2.St → Hp → Prop, (∀ σ' H', N σ' H' → ∃ m', m' < m ∧ W m' σ' H') ∧ tb { D with nx := N, ct := N, bk := D.nx } σ H := ⟨_, fun _ _ z => z, h⟩
end
section
variable {K : PySem.W.Frag} {a p : Addr} {xs ys : List V} {H : Hp} {Q : VK} {v y : V} {j : Nat} {P : Prop} {D : Ends} {σ : L2.St} {g : TG} {tb : TS}
theorem ixL (hs : SqL K H p xs) (e : xs[j]? = some v) (q : Q v H) : rIxL K (.ref p) (.int (j : Int)) H Q := ⟨p, xs, _, v, rfl, rfl, hs, atI_nat e, q⟩
theorem ixT (hs : SqT K H p xs) (e : xs[j]? = some v) (q : Q v H) : rIxT K (.ref p) (.int (j : Int)) H Q := ⟨p, xs, _, v, rfl, rfl, hs, atI_nat e, q⟩
theorem tyl (hs : SqL K H p xs) (q : P) : tyV K "list" (.ref p) H ∧ P := ⟨.inl ⟨rfl, _, hs⟩, q⟩
theorem rap (e : H p = some (.lst xs)) (l : xs.length ≤ 10000000) (q : Q .non (upd H p (.lst (xs ++ [y])))) : rAppend (.ref p) [y] H Q := ⟨p, xs, y, rfl, rfl, e, Nat.lt_of_le_of_lt l (by decide), q⟩
theorem lenL (hs : SqL K H p xs) (q : Q (.int (xs.length : Nat)) H) : ∃ p' ys, [V.ref p] = [V.ref p'] ∧ (SqL K H p' ys ∨ SqT K H p' ys) ∧ Q (.int (ys.length : Nat)) H := ⟨p, xs, rfl, .inl hs, q⟩
theorem lenT (hs : SqT K H p xs) (q : Q (.int (xs.length : Nat)) H) : ∃ p' ys, [V.ref p] = [V.ref p'] ∧ (SqL K H p' ys ∨ SqT K H p' ys) ∧ Q (.int (ys.length : Nat)) H := ⟨p, xs, rfl, .inr hs, q⟩
theorem slL {lo hi : Option Int} (hs : SqL K H p xs) (q : ∀ b, H b = Option.none → Q (.ref b) (upd H b (.lst (cutV xs lo hi)))) : rSlL K (.ref p) lo hi H Q := ⟨p, xs, rfl, hs, q⟩
theorem newN {ws : List V} {n : Nat} (e : ws.length = n) (l : n ≤ 100000) {P : Addr → Prop} (q : ∀ b, H b = Option.none → P b) : ws.length ≤ sizeLine ∧ ∀ b, H b = Option.none → P b := ⟨Nat.le_trans (Nat.le_of_eq e) (Nat.le_trans l (by decide)), q⟩
end
section
variable {σ : L2.St} {H : Hp} {D : Ends} {K : PySem.W.Frag} {wi : TI} {g : TG} {tb : TS} {tl : TE} {ta : TA} {R : It → Hp → Prop}
theorem g_for (h : wi σ H fun J H1 => ∃ W : Nat → Nat → L2.St → Hp → Prop, (∃ m, W 0 m σ H1) ∧ ∀ i m σ H, W i m σ H →
    (J.stop i H ∧ D.nx σ H) ∨ (J.go i H ∧ ∃ N : L2.St → Hp → Prop, (∀ σ' H', N σ' H' → ∃ m', m' < m ∧ W (i + 1) m' σ' H') ∧ ∀ x H', J.yld i H x H' → g x σ H' fun σ2 H2 => tb { D with nx := N, ct := N, bk := D.nx } σ2 H2)) : tFor wi g tb D σ H := h
theorem g_iL (h : tl σ H fun x H1 => ∃ a, x = .ref a ∧ (∃ xs, SqL K H1 a xs) ∧ R (Itl K a) H1) : iList K tl σ H R := h
theorem g_iT (h : tl σ H fun x H1 => ∃ a, x = .ref a ∧ (∃ xs, SqT K H1 a xs) ∧ R (Itt K a) H1) : iTup K tl σ H R := h
theorem g_iR1 (h : ta σ H fun vs H1 => ∃ j : Int, vs = [.int j] ∧ -(2 ^ 62) ≤ j ∧ j < 2 ^ 62 ∧ R (Itr 0 j.toNat) H1) : iRng1 ta σ H R := h
theorem g_iR2 (h : ta σ H fun vs H1 => ∃ i j : Int, vs = [.int i, .int j] ∧ (-(2 ^ 62) ≤ i ∧ i < 2 ^ 62 ∧ -(2 ^ 62) ≤ j ∧ j < 2 ^ 62) ∧ R (Itr i (j - i).toNat) H1) : iRng2 ta σ H R := h
theorem itR {j : Int} {n : Nat} (e : j.toNat = n) (l : n ≤ 1000000) (h0 : 0 ≤ j) (q : R (Itr 0 n) H) : ∃ j' : Int, [V.int j] = [V.int j'] ∧ -(2 ^ 62) ≤ j' ∧ j' < 2 ^ 62 ∧ R (Itr 0 j'.toNat) H := ⟨j, rfl, by omega, by omega, by rw [e]; exact q⟩
theorem itRn {j : Int} (h0 : j ≤ 0) (l : -1000000 ≤ j) (q : R (Itr 0 0) H) : ∃ j' : Int, [V.int j] = [V.int j'] ∧ -(2 ^ 62) ≤ j' ∧ j' < 2 ^ 62 ∧ R (Itr 0 j'.toNat) H := ⟨j, rfl, by omega, by omega, by rw [Int.toNat_of_nonpos h0]; exact q⟩
theorem itL {a : Addr} {xs : List V} (hs : SqL K H a xs) (q : R (Itl K a) H) : ∃ a', V.ref a = .ref a' ∧ (∃ xs, SqL K H a' xs) ∧ R (Itl K a') H := ⟨a, rfl, ⟨xs, hs⟩, q⟩
theorem itT {a : Addr} {xs : List V} (hs : SqT K H a xs) (q : R (Itt K a) H) : ∃ a', V.ref a = .ref a' ∧ (∃ xs, SqT K H a' xs) ∧ R (Itt K a') H := ⟨a, rfl, ⟨xs, hs⟩, q⟩
theorem g_iZ (h : ta σ H fun vs H1 => ∃ a b xs ys, vs = [.ref a, .ref b] ∧ ((SqL K H1 a xs ∧ SqL K H1 b ys ∧ R (Itz K a b) H1) ∨ (SqT K H1 a xs ∧ SqT K H1 b ys ∧ R (RZ.ItzT K a b) H1))) : RZ.iZipA K ta σ H R := h
theorem itZ {a b : Addr} {xs ys : List V} (h1 : SqL K H a xs) (h2 : SqL K H b ys) (q : R (Itz K a b) H) : ∃ a' b' xs ys, [V.ref a, V.ref b] = [V.ref a', .ref b'] ∧ ((SqL K H a' xs ∧ SqL K H b' ys ∧ R (Itz K a' b') H) ∨ (SqT K H a' xs ∧ SqT K H b' ys ∧ R (RZ.ItzT K a' b') H)) := ⟨a, b, xs, ys, rfl, .inl ⟨h1, h2, q⟩⟩
theorem cutV_to (xs : List V) (n : Nat) : cutV xs Option.none (some (n : Int)) = xs.take n := by
  unfold cutV
  rw [HT.sIx_none, HT.sIx_nat, List.drop_zero, Nat.sub_zero]
  rcases Nat.le_total n xs.length with h | h
  · rw [Nat.min_eq_left h]
  · rw [Nat.min_eq_right h, List.take_length, List.take_of_length_le h]
theorem cutV_from (xs : List V) (n : Nat) : cutV xs (some (n : Int)) Option.none = xs.drop n := by
  unfold cutV
  rw [HT.sIx_none, HT.sIx_nat, List.take_of_length_le (by rw [List.length_drop]; exact Nat.le_refl _)]
  rcases Nat.le_total n xs.length with h | h
  · rw [Nat.min_eq_left h]
  · rw [Nat.min_eq_right h, List.drop_length, List.drop_of_length_le h]
theorem cutV_last (xs : List V) : cutV xs Option.none (some (-1)) = xs.dropLast := by
  unfold cutV
  rw [HT.sIx_none, show HT.sIx xs.length xs.length (some (-1)) = xs.length - 1 from by
    show (if (-1 : Int) < 0 then ((-1 : Int) + (xs.length : Int)).toNat else min (-1 : Int).toNat xs.length) = _
    rw [if_pos (by decide)]
    omega, List.drop_zero, Nat.sub_zero, List.dropLast_eq_take]
theorem g_gtup {n : Nat} {gs : TGs} {QS : L2.St → Hp → Prop} {a : Addr} {xs : List V} (hs : SqT K H a xs) (l : xs.length = n) (q : gs xs σ H QS) : gTup K n gs (.ref a) σ H QS := ⟨a, xs, rfl, hs, l, q⟩
theorem g_gnil {QS : L2.St → Hp → Prop} (q : QS σ H) : gNil [] σ H QS := ⟨rfl, q⟩
theorem g_gcons {gs : TGs} {v : V} {r : List V} {QS : L2.St → Hp → Prop} (q : g v σ H fun σ' H' => gs r σ' H' QS) : gCons g gs (v :: r) σ H QS := ⟨v, r, rfl, q⟩
theorem g_lc {tt : TT} {te : TE} {vs : List Nat} {Q : VK} (h : wi σ H fun J H1 => ∀ D, H1 D = Option.none → ∃ W : Nat → Nat → Hp → Prop, (∃ m, W 0 m (upd H1 D (.lst []))) ∧ ∀ i m H, W i m H →
  (J.stop i H ∧ Q (.ref D) H) ∨ (J.go i H ∧ ∃ Nx : Hp → Prop, (∀ H', Nx H' → ∃ m', m' < m ∧ W (i + 1) m' H') ∧ ∀ x H', J.yld i H x H' → g x (wipe σ vs) H' fun σ2 H2 => wipe σ2 vs = wipe σ vs ∧ tt σ2 H2 fun b H3 =>
    if b = true then te σ2 H3 fun y H4 => ∃ acc, H4 D = some (.lst acc) ∧ acc.length < sizeLine ∧ Nx (upd H4 D (.lst (acc ++ [y]))) else Nx H3)) : tLc wi g tt te vs σ H Q := h
end
/-! ### data without lists stay where a list is changed -/
mutual
def nL : PyData → Bool
  | .list _ => false
  | .tuple ds => nLs ds
  | _ => true
def nLs : List PyData → Bool
  | [] => true
  | d :: ds => nL d && nLs ds
end
section
variable {K : PySem.W.Frag} {H H' : Hp} {D : Addr}
/-- all but the object at D, which is no tuple -/
structure ButL (D : Addr) (H H' : Hp) : Prop where
  keep : ∀ b o, b ≠ D → H b = some o → H' b = some o
  list : ∃ o, H D = some o ∧ (∀ xs, o ≠ .tup xs) ∧ ∀ u xs, o ≠ .frz u (.tup xs)
theorem ButL.sqT (h : ButL D H H') {a : Addr} {xs : List V} (q : SqT K H a xs) : SqT K H' a xs := by
  obtain ⟨o, e, n1, n2⟩ := h.list
  rcases q with (q | ⟨u, q⟩) | q
  · exact .inl (.inl (h.keep _ _ (fun z => by rw [z, e] at q; exact n1 _ (Option.some.inj q)) q))
  · exact .inl (.inr ⟨u, h.keep _ _ (fun z => by rw [z, e] at q; exact n2 _ _ (Option.some.inj q)) q⟩)
  · exact .inr q
theorem ButL.put {zs : List V} {o : HO} (e : H D = some (.lst zs)) : ButL D H (upd H D o) :=
  ⟨fun b u hb g => by rw [upd_ne hb]; exact g, ⟨_, e, (fun _ z => by cases z), (fun _ _ z => by cases z)⟩⟩
mutual
theorem dp_nL (h : ButL D H H') : ∀ (d : PyData) (v : V), nL d = true → Dp K H v d → Dp K H' v d
  | .none, _, _, r => by cases r; exact .non
  | .bool b, _, _, r => by cases r; exact .bl b
  | .int i, _, _, r => by cases r; exact .int i
  | .str x, _, _, r => by cases r; exact .str x
  | .list ds, _, n, _ => by simp [nL] at n
  | .tuple ds, _, n, r => by
    cases r with
    | tup g ha => exact .tup (h.sqT g) (dp_nLs h ds _ (by simpa [nL] using n) ha)
  | .dict _, _, _, r => by cases r
theorem dp_nLs (h : ButL D H H') : ∀ (ds : List PyData) (vs : List V), nLs ds = true → DpAll K H vs ds → DpAll K H' vs ds
  | [], _, _, r => by cases r; exact .nil
  | d :: ds, _, n, r => by
    cases r with
    | cons r1 r2 =>
      simp only [nLs, Bool.and_eq_true] at n
      exact .cons (dp_nL h d _ n.1 r1) (dp_nLs h ds _ n.2 r2)
end
theorem nLs_of {ds : List PyData} (h : ∀ d ∈ ds, nL d = true) : nLs ds = true := by
  induction ds with
  | nil => simp [nLs]
  | cons d ds ih => simp only [nLs, h d (.head _), ih fun e he => h e (.tail _ he), Bool.and_self]
theorem nLs_mem {ds : List PyData} (h : nLs ds = true) : ∀ d ∈ ds, nL d = true := by
  induction ds with
  | nil => exact fun d hd => nomatch hd
  | cons d ds ih =>
    simp only [nLs, Bool.and_eq_true] at h
    intro e he
    rcases List.mem_cons.mp he with rfl | he
    · exact h.1
    · exact ih h.2 e he
theorem dpAll_end : ∀ {vs : List V} {ds : List PyData} {v : V} {d : PyData}, DpAll K H vs ds → Dp K H v d → DpAll K H (vs ++ [v]) (ds ++ [d])
  | _, _, _, _, .nil, r => .cons r .nil
  | _, _, _, _, .cons q t, r => .cons q (dpAll_end t r)
end
section
variable {v : V} {H : Hp} {QS : L2.St → Hp → Prop} {s : L2.St}
theorem g_n0 {a0 : Option V} (h : QS (some v :: s) H) : gName 0 v (a0 :: s) H QS := h
theorem g_n1 {a0 a1 : Option V} (h : QS (a0 :: some v :: s) H) : gName 1 v (a0 :: a1 :: s) H QS := h
theorem g_n2 {a0 a1 a2 : Option V} (h : QS (a0 :: a1 :: some v :: s) H) : gName 2 v (a0 :: a1 :: a2 :: s) H QS := h
theorem g_n3 {a0 a1 a2 a3 : Option V} (h : QS (a0 :: a1 :: a2 :: some v :: s) H) : gName 3 v (a0 :: a1 :: a2 :: a3 :: s) H QS := h
theorem g_n4 {a0 a1 a2 a3 a4 : Option V} (h : QS (a0 :: a1 :: a2 :: a3 :: some v :: s) H) : gName 4 v (a0 :: a1 :: a2 :: a3 :: a4 :: s) H QS := h
theorem g_n5 {a0 a1 a2 a3 a4 a5 : Option V} (h : QS (a0 :: a1 :: a2 :: a3 :: a4 :: some v :: s) H) : gName 5 v (a0 :: a1 :: a2 :: a3 :: a4 :: a5 :: s) H QS := h
theorem g_n6 {a0 a1 a2 a3 a4 a5 a6 : Option V} (h : QS (a0 :: a1 :: a2 :: a3 :: a4 :: a5 :: some v :: s) H) : gName 6 v (a0 :: a1 :: a2 :: a3 :: a4 :: a5 :: a6 :: s) H QS := h
theorem g_n7 {a0 a1 a2 a3 a4 a5 a6 a7 : Option V} (h : QS (a0 :: a1 :: a2 :: a3 :: a4 :: a5 :: a6 :: some v :: s) H) : gName 7 v (a0 :: a1 :: a2 :: a3 :: a4 :: a5 :: a6 :: a7 :: s) H QS := h
theorem g_n8 {a0 a1 a2 a3 a4 a5 a6 a7 a8 : Option V} (h : QS (a0 :: a1 :: a2 :: a3 :: a4 :: a5 :: a6 :: a7 :: some v :: s) H) : gName 8 v (a0 :: a1 :: a2 :: a3 :: a4 :: a5 :: a6 :: a7 :: a8 :: s) H QS := h
theorem g_n9 {a0 a1 a2 a3 a4 a5 a6 a7 a8 a9 : Option V} (h : QS (a0 :: a1 :: a2 :: a3 :: a4 :: a5 :: a6 :: a7 :: a8 :: some v :: s) H) : gName 9 v (a0 :: a1 :: a2 :: a3 :: a4 :: a5 :: a6 :: a7 :: a8 :: a9 :: s) H QS := h
theorem g_n10 {a0 a1 a2 a3 a4 a5 a6 a7 a8 a9 a10 : Option V} (h : QS (a0 :: a1 :: a2 :: a3 :: a4 :: a5 :: a6 :: a7 :: a8 :: a9 :: some v :: s) H) : gName 10 v (a0 :: a1 :: a2 :: a3 :: a4 :: a5 :: a6 :: a7 :: a8 :: a9 :: a10 :: s) H QS := h
theorem g_n11 {a0 a1 a2 a3 a4 a5 a6 a7 a8 a9 a10 a11 : Option V} (h : QS (a0 :: a1 :: a2 :: a3 :: a4 :: a5 :: a6 :: a7 :: a8 :: a9 :: a10 :: some v :: s) H) : gName 11 v (a0 :: a1 :: a2 :: a3 :: a4 :: a5 :: a6 :: a7 :: a8 :: a9 :: a10 :: a11 :: s) H QS := h
theorem g_n12 {a0 a1 a2 a3 a4 a5 a6 a7 a8 a9 a10 a11 a12 : Option V} (h : QS (a0 :: a1 :: a2 :: a3 :: a4 :: a5 :: a6 :: a7 :: a8 :: a9 :: a10 :: a11 :: some v :: s) H) : gName 12 v (a0 :: a1 :: a2 :: a3 :: a4 :: a5 :: a6 :: a7 :: a8 :: a9 :: a10 :: a11 :: a12 :: s) H QS := h
theorem g_n13 {a0 a1 a2 a3 a4 a5 a6 a7 a8 a9 a10 a11 a12 a13 : Option V} (h : QS (a0 :: a1 :: a2 :: a3 :: a4 :: a5 :: a6 :: a7 :: a8 :: a9 :: a10 :: a11 :: a12 :: some v :: s) H) : gName 13 v (a0 :: a1 :: a2 :: a3 :: a4 :: a5 :: a6 :: a7 :: a8 :: a9 :: a10 :: a11 :: a12 :: a13 :: s) H QS := h
theorem g_n14 {a0 a1 a2 a3 a4 a5 a6 a7 a8 a9 a10 a11 a12 a13 a14 : Option V} (h : QS (a0 :: a1 :: a2 :: a3 :: a4 :: a5 :: a6 :: a7 :: a8 :: a9 :: a10 :: a11 :: a12 :: a13 :: some v :: s) H) : gName 14 v (a0 :: a1 :: a2 :: a3 :: a4 :: a5 :: a6 :: a7 :: a8 :: a9 :: a10 :: a11 :: a12 :: a13 :: a14 :: s) H QS := h
theorem g_n15 {a0 a1 a2 a3 a4 a5 a6 a7 a8 a9 a10 a11 a12 a13 a14 a15 : Option V} (h : QS (a0 :: a1 :: a2 :: a3 :: a4 :: a5 :: a6 :: a7 :: a8 :: a9 :: a10 :: a11 :: a12 :: a13 :: a14 :: some v :: s) H) : gName 15 v (a0 :: a1 :: a2 :: a3 :: a4 :: a5 :: a6 :: a7 :: a8 :: a9 :: a10 :: a11 :: a12 :: a13 :: a14 :: a15 :: s) H QS := h
theorem g_n16 {a0 a1 a2 a3 a4 a5 a6 a7 a8 a9 a10 a11 a12 a13 a14 a15 a16 : Option V} (h : QS (a0 :: a1 :: a2 :: a3 :: a4 :: a5 :: a6 :: a7 :: a8 :: a9 :: a10 :: a11 :: a12 :: a13 :: a14 :: a15 :: some v :: s) H) : gName 16 v (a0 :: a1 :: a2 :: a3 :: a4 :: a5 :: a6 :: a7 :: a8 :: a9 :: a10 :: a11 :: a12 :: a13 :: a14 :: a15 :: a16 :: s) H QS := h
theorem g_n17 {a0 a1 a2 a3 a4 a5 a6 a7 a8 a9 a10 a11 a12 a13 a14 a15 a16 a17 : Option V} (h : QS (a0 :: a1 :: a2 :: a3 :: a4 :: a5 :: a6 :: a7 :: a8 :: a9 :: a10 :: a11 :: a12 :: a13 :: a14 :: a15 :: a16 :: some v :: s) H) : gName 17 v (a0 :: a1 :: a2 :: a3 :: a4 :: a5 :: a6 :: a7 :: a8 :: a9 :: a10 :: a11 :: a12 :: a13 :: a14 :: a15 :: a16 :: a17 :: s) H QS := h
theorem g_n18 {a0 a1 a2 a3 a4 a5 a6 a7 a8 a9 a10 a11 a12 a13 a14 a15 a16 a17 a18 : Option V} (h : QS (a0 :: a1 :: a2 :: a3 :: a4 :: a5 :: a6 :: a7 :: a8 :: a9 :: a10 :: a11 :: a12 :: a13 :: a14 :: a15 :: a16 :: a17 :: some v :: s) H) : gName 18 v (a0 :: a1 :: a2 :: a3 :: a4 :: a5 :: a6 :: a7 :: a8 :: a9 :: a10 :: a11 :: a12 :: a13 :: a14 :: a15 :: a16 :: a17 :: a18 :: s) H QS := h
theorem g_n19 {a0 a1 a2 a3 a4 a5 a6 a7 a8 a9 a10 a11 a12 a13 a14 a15 a16 a17 a18 a19 : Option V} (h : QS (a0 :: a1 :: a2 :: a3 :: a4 :: a5 :: a6 :: a7 :: a8 :: a9 :: a10 :: a11 :: a12 :: a13 :: a14 :: a15 :: a16 :: a17 :: a18 :: some v :: s) H) : gName 19 v (a0 :: a1 :: a2 :: a3 :: a4 :: a5 :: a6 :: a7 :: a8 :: a9 :: a10 :: a11 :: a12 :: a13 :: a14 :: a15 :: a16 :: a17 :: a18 :: a19 :: s) H QS := h
theorem g_n20 {a0 a1 a2 a3 a4 a5 a6 a7 a8 a9 a10 a11 a12 a13 a14 a15 a16 a17 a18 a19 a20 : Option V} (h : QS (a0 :: a1 :: a2 :: a3 :: a4 :: a5 :: a6 :: a7 :: a8 :: a9 :: a10 :: a11 :: a12 :: a13 :: a14 :: a15 :: a16 :: a17 :: a18 :: a19 :: some v :: s) H) : gName 20 v (a0 :: a1 :: a2 :: a3 :: a4 :: a5 :: a6 :: a7 :: a8 :: a9 :: a10 :: a11 :: a12 :: a13 :: a14 :: a15 :: a16 :: a17 :: a18 :: a19 :: a20 :: s) H QS := h
theorem g_n21 {a0 a1 a2 a3 a4 a5 a6 a7 a8 a9 a10 a11 a12 a13 a14 a15 a16 a17 a18 a19 a20 a21 : Option V} (h : QS (a0 :: a1 :: a2 :: a3 :: a4 :: a5 :: a6 :: a7 :: a8 :: a9 :: a10 :: a11 :: a12 :: a13 :: a14 :: a15 :: a16 :: a17 :: a18 :: a19 :: a20 :: some v :: s) H) : gName 21 v (a0 :: a1 :: a2 :: a3 :: a4 :: a5 :: a6 :: a7 :: a8 :: a9 :: a10 :: a11 :: a12 :: a13 :: a14 :: a15 :: a16 :: a17 :: a18 :: a19 :: a20 :: a21 :: s) H QS := h
theorem g_n22 {a0 a1 a2 a3 a4 a5 a6 a7 a8 a9 a10 a11 a12 a13 a14 a15 a16 a17 a18 a19 a20 a21 a22 : Option V} (h : QS (a0 :: a1 :: a2 :: a3 :: a4 :: a5 :: a6 :: a7 :: a8 :: a9 :: a10 :: a11 :: a12 :: a13 :: a14 :: a15 :: a16 :: a17 :: a18 :: a19 :: a20 :: a21 :: some v :: s) H) : gName 22 v (a0 :: a1 :: a2 :: a3 :: a4 :: a5 :: a6 :: a7 :: a8 :: a9 :: a10 :: a11 :: a12 :: a13 :: a14 :: a15 :: a16 :: a17 :: a18 :: a19 :: a20 :: a21 :: a22 :: s) H QS := h
theorem g_n23 {a0 a1 a2 a3 a4 a5 a6 a7 a8 a9 a10 a11 a12 a13 a14 a15 a16 a17 a18 a19 a20 a21 a22 a23 : Option V} (h : QS (a0 :: a1 :: a2 :: a3 :: a4 :: a5 :: a6 :: a7 :: a8 :: a9 :: a10 :: a11 :: a12 :: a13 :: a14 :: a15 :: a16 :: a17 :: a18 :: a19 :: a20 :: a21 :: a22 :: some v :: s) H) : gName 23 v (a0 :: a1 :: a2 :: a3 :: a4 :: a5 :: a6 :: a7 :: a8 :: a9 :: a10 :: a11 :: a12 :: a13 :: a14 :: a15 :: a16 :: a17 :: a18 :: a19 :: a20 :: a21 :: a22 :: a23 :: s) H QS := h
theorem g_n24 {a0 a1 a2 a3 a4 a5 a6 a7 a8 a9 a10 a11 a12 a13 a14 a15 a16 a17 a18 a19 a20 a21 a22 a23 a24 : Option V} (h : QS (a0 :: a1 :: a2 :: a3 :: a4 :: a5 :: a6 :: a7 :: a8 :: a9 :: a10 :: a11 :: a12 :: a13 :: a14 :: a15 :: a16 :: a17 :: a18 :: a19 :: a20 :: a21 :: a22 :: a23 :: some v :: s) H) : gName 24 v (a0 :: a1 :: a2 :: a3 :: a4 :: a5 :: a6 :: a7 :: a8 :: a9 :: a10 :: a11 :: a12 :: a13 :: a14 :: a15 :: a16 :: a17 :: a18 :: a19 :: a20 :: a21 :: a22 :: a23 :: a24 :: s) H QS := h
theorem g_n25 {a0 a1 a2 a3 a4 a5 a6 a7 a8 a9 a10 a11 a12 a13 a14 a15 a16 a17 a18 a19 a20 a21 a22 a23 a24 a25 : Option V} (h : QS (a0 :: a1 :: a2 :: a3 :: a4 :: a5 :: a6 :: a7 :: a8 :: a9 :: a10 :: a11 :: a12 :: a13 :: a14 :: a15 :: a16 :: a17 :: a18 :: a19 :: a20 :: a21 :: a22 :: a23 :: a24 :: some v :: s) H) : gName 25 v (a0 :: a1 :: a2 :: a3 :: a4 :: a5 :: a6 :: a7 :: a8 :: a9 :: a10 :: a11 :: a12 :: a13 :: a14 :: a15 :: a16 :: a17 :: a18 :: a19 :: a20 :: a21 :: a22 :: a23 :: a24 :: a25 :: s) H QS := h
end
end My
namespace My
open PySem PySem.Spec PyProof.Rows L2
/-! ### classes of the program: methods, attributes -/
def HasM (P : Program) (w : World) (K : PySem.W.Frag) (mg : Str → Option Value) (base : Heap) (k : Nat) (C m : Str) (ps : List Str) (sp : Sp) : Prop :=
  ∃ (f : Addr) (fd : FuncData), FnOk P w K mg base CX0 k f fd ps sp ∧ Meth K (clsA K C) m f ∧ Binds K fd ps []
def HasI (P : Program) (w : World) (K : PySem.W.Frag) (mg : Str → Option Value) (base : Heap) (k : Nat) (C : Str) (ps : List Str) (sp : Sp) : Prop :=
  ∃ (f : Addr) (fd : FuncData), FnOk P w K mg base CX0 k f fd ps sp ∧ Mk K (clsA K C) f ∧ mg C = some (.ref (clsA K C)) ∧ Binds K fd ps []
theorem lk_nil {k : Str} : List.lookup k ([] : List (Str × V)) = Option.none := rfl
theorem lk_hit {k : Str} {v : V} {r : List (Str × V)} : List.lookup k ((k, v) :: r) = some v := by
  show (match k == k with | true => some v | false => List.lookup k r) = some v
  rw [beq_self_eq_true]
theorem lk_miss {k j : Str} {v : V} {r : List (Str × V)} {o : Option V} (h : (k == j) = false) (e : List.lookup k r = o) : List.lookup k ((j, v) :: r) = o := by
  show (match k == j with | true => some v | false => List.lookup k r) = o
  rw [h]
  exact e
theorem pf_nil {k : Str} {v : V} : putF k v [] = [(k, v)] := rfl
theorem pf_hit {k : Str} {v x : V} {r : List (Str × V)} : putF k v ((k, x) :: r) = (k, v) :: r := by
  show (if k = k then (k, v) :: r else _) = _
  rw [if_pos rfl]
theorem pf_miss {k j : Str} {v x : V} {r s : List (Str × V)} (h : (j == k) = false) (e : putF k v r = s) : putF k v ((j, x) :: r) = (j, x) :: s := by
  show (if j = k then _ else (j, x) :: putF k v r) = _
  rw [if_neg (by simpa using h), e]
section
variable {σ : L2.St} {H : Hp} {Q : VK} {K : PySem.W.Frag} {ta tv : TE} {f : Str} {D : Ends} {tr : TA} {m : Str} {sp : Sp} {dvs : List V} {E : XK} {C p dx : Addr} {fs : List (Str × V)} {v : V} {rd : V → V → Hp → VK → Prop}
theorem g_fld (h : ta σ H fun x H1 => ∃ a C dx fs v, x = .ref a ∧ H1 a = some (.ins C dx fs) ∧ Cls K C ∧ NoAttr K C f ∧ fs.lookup f = some v ∧ Q v H1) : tFld K ta f σ H Q := h
theorem g_sfld (h : tv σ H fun y H1 => ta σ H1 fun x H2 => ∃ a C dx fs, x = .ref a ∧ H2 a = some (.ins C dx fs) ∧ Cls K C ∧ NoAttr K C f ∧ fs.length < 1000 ∧ D.nx σ (upd H2 a (.ins C dx (putF f y fs)))) : sFld K ta tv f D σ H := h
theorem g_afld (h : ta σ H fun x H1 => ∃ a C dx fs v, x = .ref a ∧ H1 a = some (.ins C dx fs) ∧ Cls K C ∧ NoAttr K C f ∧ fs.lookup f = some v ∧
  tv σ H1 fun y H2 => rd v y H2 fun z H3 => ∃ dx' fs', H3 a = some (.ins C dx' fs') ∧ fs'.length < 1000 ∧ D.nx σ (upd H3 a (.ins C dx' (putF f z fs')))) : sFldAug K ta tv rd f D σ H := h
theorem g_meth (h : ta σ H fun x H1 => ∃ a dx fs, x = .ref a ∧ H1 a = some (.ins C dx fs) ∧ fs.lookup m = Option.none ∧ tr σ H1 fun vs H2 => sp (x :: (vs ++ dvs)) H2 Q E) : tMeth C m sp dvs E ta tr σ H Q := h
theorem g_make (h : tr σ H fun vs H1 => ∀ x dx, H1 x = Option.none → H1 dx = Option.none → dx ≠ x → sp (.ref x :: (vs ++ dvs)) (upd (upd H1 dx (.own x)) x (.ins C dx [])) (fun v H2 => v = .non ∧ Q (.ref x) H2) E) : tMake C sp dvs E tr σ H Q := h
end
/-! ### t[::-1] of a tuple -/
theorem back_places (n : Nat) : Builtin.Slice.sliceAdjust Option.none Option.none (-1) (n : Int) = ((n : Int) - 1, -1) := rfl
theorem back_many (n : Nat) : Builtin.Slice.slicePlaces ((n : Int) - 1) (-1) (-1) = n := by
  unfold Builtin.Slice.slicePlaces
  rw [if_neg (by decide)]
  by_cases h : (n : Int) - 1 > -1
  · rw [if_pos h, show (-(-1) : Int) = 1 by decide, Int.ediv_one]
    omega
  · rw [if_neg h]
    omega
theorem back_items (xs : Array Value) : ((List.range xs.size).filterMap fun (k : Nat) => xs[((xs.size : Int) - 1 + (k : Int) * (-1)).toNat]?).toArray = xs.toList.reverse.toArray := by
  have e := PySem.W.krv_pick xs
  unfold slicePick at e
  rw [PySem.W.krv_bounds] at e
  have e2 : ((sliceRange ((xs.size : Int) - 1) (-1) (-1)).filterMap (xs[·]?)).toArray = xs.toList.reverse.toArray := e
  rw [PySem.W.krv_sliceRange, List.filterMap_map] at e2
  rw [← e2]
  have e3 : (fun (k : Nat) => xs[((xs.size : Int) - 1 + (k : Int) * (-1)).toNat]?) = ((xs[·]?) ∘ fun k => xs.size - 1 - k) := by
    funext k
    show xs[((xs.size : Int) - 1 + (k : Int) * (-1)).toNat]? = xs[xs.size - 1 - k]?
    congr 1
    omega
  rw [e3]
section
variable {prog : Program} {w : World} {A : Around} {E : Value → Shared → Prop} {s : Shared}
theorem applied_back {sl : Addr} {n : Nat} {t : Tok} {Q : Int × Int × Nat → Shared → Prop} (hs : s.heap.IsSliceOf sl .none .none (.int (-1) t)) (h : Q ((n : Int) - 1, -1, n) s) :
    wpAny (model prog w) A (Builtin.Slice.sliceApplied (.ref sl) (pure (n : Int))) Q E s := by
  obtain ⟨os, hos, hcs, hds⟩ := id hs
  unfold Builtin.Slice.sliceApplied Builtin.Slice.sliceFields
  refine wpAny_bind (wpAny_bind (wpAny_field hos hds (x := .none) rfl (wpAny_bind (wpAny_field hos hds (x := .none) rfl (wpAny_bind (wpAny_field hos hds (x := .int (-1) t) rfl (wpAny_pure ?_)))))))
  refine wpAny_bind (slicePart_int ?_)
  show wpAny _ _ (if ((-1 : Int) == 0) = true then _ else _) _ _ s
  rw [if_neg (by decide)]
  refine wpAny_bind (slicePart_none (wpAny_bind (slicePart_none (wpAny_bind (wpAny_pure ?_)))))
  show wpAny _ _ (match Builtin.Slice.sliceAdjust Option.none Option.none (-1) (n : Int) with | (lo, hi) => pure (lo, (-1 : Int), Builtin.Slice.slicePlaces lo hi (-1))) _ _ s
  rw [back_places]
  show wpAny _ _ (pure ((n : Int) - 1, (-1 : Int), Builtin.Slice.slicePlaces ((n : Int) - 1) (-1) (-1))) _ _ s
  rw [back_many]
  exact wpAny_pure h
theorem item_back {t sl : Addr} {items : Array Value} {tk : Tok} {Q : Value → Shared → Prop} (ht : IsTup s.heap t items) (hs : s.heap.IsSliceOf sl .none .none (.int (-1) tk)) (hsz : items.size ≤ sizeLine)
    (h : Q (.ref s.heap.objs.size) { s with heap := s.heap.push { cls := .type "tuple", data := .seq items.toList.reverse.toArray } }) : wpAny (model prog w) A (getItem (.ref t) (.ref sl)) Q E s := by
  have hz : sizeOk (.seq items.toList.reverse.toArray) := by
    show items.toList.reverse.toArray.size ≤ sizeLine
    rw [List.size_toArray, List.length_reverse, Array.length_toList]
    exact hsz
  obtain ⟨os, hos, hcs, hds⟩ := id hs
  have hTs : s.TypeIs (.ref sl) "slice" := ⟨os, hos, hcs⟩
  unfold getItem
  try with_reducible refine wpAny_holding ?_
  first | refine wpAny_bind (wpAny_pure ?_) | skip
  refine wpAny_bind (wpAny_sequenceKey ht.typeIs (by decide) ?_)
  refine wpAny_bind (wpAny_callSpecial?_slot (name := Str.ofString "__getitem__") ht.typeIs PyProof.Rows.slot_tuple_getitem (wpAny_call_entry PyProof.Rows.slot_tuple_getitem ht.typeIs entry_tuple_getitem ?_ (args_tuple_getitem _ _)))
  show wpAny _ _ (Builtin.Tuple.tupleItemsOf (.ref t) >>= _) _ _ s
  refine wpAny_bind (tupleItemsOf_ ht (wpAny_bind (wpAny_typeOf hTs ?_)))
  rw [if_pos (by decide)]
  refine wpAny_bind (applied_back hs ?_)
  show wpAny _ _ (if (((items.size : Int) - 1 == 0 && (-1 : Int) == 1 && items.size == items.size)) = true then _ else _) _ _ s
  rw [if_neg (by rw [show ((-1 : Int) == 1) = false from rfl, Bool.and_false, Bool.false_and]; exact Bool.false_ne_true), back_items]
  first
    | exact wpAny_bind (m := Builtin.Tuple.tupleExact _) (wpAny_newObj_type (wpAny_pure ⟨_, rfl, wpAny_pure h⟩) hz)
    | exact wpAny_bind (m := Builtin.Tuple.tupleExact _) (wpAny_newObj_type (wpAny_bind (wpAny_pure (wpAny_pure ⟨_, rfl, wpAny_pure h⟩))) hz)
    | exact wpAny_bind (wpAny_bind (m := Builtin.Tuple.tupleExact _) (wpAny_newObj_type (wpAny_pure (wpAny_pure ⟨_, rfl, wpAny_pure h⟩)) hz))
    | exact wpAny_bind (wpAny_bind (m := Builtin.Tuple.tupleExact _) (wpAny_newObj_type (wpAny_pure ⟨_, rfl, wpAny_pure h⟩) hz))
end
def tRevT (K : PySem.W.Frag) (te : TE) : TE := fun σ H Q => te σ H fun x H1 => ∃ a xs, x = .ref a ∧ SqT K H1 a xs ∧ ∀ p, H1 p = Option.none → Q (.ref p) (upd H1 p (.tup xs.reverse))
theorem pe_revT {X : Cx} {e : Expr} {te : TE} {k : Nat} {p1 p2 p3 pos : Pos} (he : PE X e te) : PE X (.Subscript e (.Slice Option.none Option.none (some (.UnaryOp .USub (.Constant (.int 1) k p1) p2)) p3) pos) (tRevT X.K te) := by
  refine ⟨fun pins s σ H Q I h => ?_⟩
  refine Subscript_ (thn (he.run pins s σ H _ I h) fun v s1 ⟨x, H1, I1, r1, q1⟩ => ?_)
  obtain ⟨a, xs, ex, hx, q⟩ := q1
  subst ex
  cases r1
  have hst : PO X (some (.UnaryOp .USub (.Constant (.int 1) k p1) p2)) (tPart (tUn (rU fun i => .int (-i)) (tC (.int 1)))) := po_some (pe_un un_neg pe_int)
  refine wpAny_Slice (thn (po_none.run pins s1 σ H1 (fun o H2 => o = Option.none ∧ H2 = H1) I1 ⟨rfl, rfl⟩) fun vl s2 ⟨l, H2, I2, pl, el, e2⟩ => ?_)
  subst el e2
  refine thn (po_none.run pins s2 σ H2 (fun o H3 => o = Option.none ∧ H3 = H2) I2 ⟨rfl, rfl⟩) fun vu s3 ⟨u, H3, I3, pu, eu, e3⟩ => ?_
  subst eu e3
  refine thn (hst.run pins s3 σ H3 (fun o H4 => o = some (-1) ∧ H4 = H3) I3 ⟨1, rfl, -1, rfl, rfl, rfl⟩) fun vs s4 ⟨o, H4, I4, ps, eo, e4⟩ => ?_
  subst eo e4
  have I5 : Inv X pins σ H4 { s4 with heap := s4.heap.push { cls := .type "slice", data := .fields #[vl, vu, vs] } } := I4.kept (t' := s4.toks) fun b ob q => Heap.get?_push_of_some _ q
  obtain ⟨its, r, ht, hz⟩ := I5.tuple hx
  have hlen := r.length
  cases pl
  cases pu
  cases ps with
  | int i tk =>
  show wpAny (model X.prog X.w) X.A (subscriptTail e (.Slice Option.none Option.none (some (.UnaryOp .USub (.Constant (.int 1) k p1) p2)) p3) (.ref a) (.ref s4.heap.objs.size)) (EP X pins σ Q) X.xe { s4 with heap := s4.heap.push { cls := .type "slice", data := .fields #[.none, .none, .int (-1) tk] } }
  refine tail_any (ops := [.ref a, .ref s4.heap.objs.size]) ht.typeIs PyProof.Rows.slot_tuple_getitem.lookup ?_ (by with_unfolding_all rfl)
  refine item_back ht (Heap.IsSliceOf.new _ .none .none (.int (-1) tk)) (by rw [List.size_toArray]; omega) ?_
  refine ⟨.ref _, _, I5.laid (t' := s4.toks) (o := .tup xs.reverse) (fun b ob q => Heap.get?_push_of_some _ q) (Nat.le_refl _) ?_, rfl, q _ (I5.hok.fresh (Nat.le_refl _))⟩
  exact ⟨by rw [List.length_reverse]; exact hz, its.reverse, r.reverse, IsTup.new _ _⟩
theorem g_revT {σ : L2.St} {H : Hp} {Q : VK} {K : PySem.W.Frag} {te : TE} (h : te σ H fun x H1 => ∃ a xs, x = .ref a ∧ SqT K H1 a xs ∧ ∀ p, H1 p = Option.none → Q (.ref p) (upd H1 p (.tup xs.reverse))) : tRevT K te σ H Q := h
theorem g_revL {σ : L2.St} {H : Hp} {Q : VK} {K : PySem.W.Frag} {te : TE} (h : te σ H fun x H1 => ∃ a xs, x = .ref a ∧ SqL K H1 a xs ∧ ∀ p, H1 p = Option.none → Q (.ref p) (upd H1 p (.lst xs.reverse))) : tRevL K te σ H Q := h
section
variable {σ : L2.St} {H : Hp} {Q : VK} {td ty tx tv : TE} {D : Ends} {ta : TA} {K : PySem.W.Frag} {R : It → Hp → Prop}
theorem g_din (h : ty σ H fun y H1 => td σ H1 fun x H2 => ∃ a o, x = .ref a ∧ DGet H2 a y o ∧ Q (.bl o.isSome) H2) : tDIn ty td σ H Q := h
theorem g_dnin (h : ty σ H fun y H1 => td σ H1 fun x H2 => ∃ a o, x = .ref a ∧ DGet H2 a y o ∧ Q (.bl (!o.isSome)) H2) : tDNotIn ty td σ H Q := h
theorem g_dget (h : td σ H fun x H1 => ty σ H1 fun y H2 => ∃ a v, x = .ref a ∧ DGet H2 a y (some v) ∧ Q v H2) : tDGet td ty σ H Q := h
theorem g_dget2 (h : td σ H fun x H1 => ∃ a, x = .ref a ∧ IsD H1 a ∧ ty σ H1 fun y H2 => tx σ H2 fun z H3 => ∃ o, DGet H3 a y o ∧ Q (o.getD z) H3) : tDGet2 td ty tx σ H Q := h
theorem g_dpop2 (h : td σ H fun x H1 => ∃ a, x = .ref a ∧ IsD H1 a ∧ ty σ H1 fun y H2 => tx σ H2 fun z H3 => ∃ kvs k, H3 a = some (.dK kvs) ∧ y = kV k ∧ (∀ v, valV kvs k = some v → Q v (upd H3 a (.dK (dropK kvs k)))) ∧ (valV kvs k = Option.none → Q z H3)) : tDPop2 td ty tx σ H Q := h
theorem g_dput (h : tv σ H fun v H1 => td σ H1 fun x H2 => ty σ H2 fun y H3 => ∃ a H4, x = .ref a ∧ DPut H3 a y v H4 ∧ D.nx σ H4) : sDPut td ty tv D σ H := h
theorem g_rev (h : ta σ H fun vs H1 => ∃ (a : Addr) (xs : List V), vs = [.ref a] ∧ SqL K H1 a xs ∧ R (Itv K a xs.length) H1) : iRev K ta σ H R := h
theorem g_dnew (h : ∀ p, H p = Option.none → Q (.ref p) (upd H p (.dK []))) : tDNewK σ H Q := h
end
section
variable {σ : L2.St} {H : Hp} {Q : VK} {sp : Sp} {E : L2.St → XK} {t : TA}
theorem g_callS (h : t σ H fun vs H1 => sp vs H1 Q (E σ)) : tCallS sp E t σ H Q := h
end
theorem dpAll_last {K : PySem.W.Frag} {H : Hp} : ∀ {l : List PyData} {xs : List V} {d : PyData}, DpAll K H xs (l ++ [d]) → ∃ ys v, xs = ys ++ [v] ∧ DpAll K H ys l ∧ Dp K H v d
  | [], _, d, h => by
    have h' : DpAll K H _ [d] := h
    cases h' with
    | cons a b => cases b; exact ⟨[], _, rfl, .nil, a⟩
  | e :: l, _, d, h => by
    have h' : DpAll K H _ (e :: (l ++ [d])) := h
    cases h' with
    | cons a b =>
      obtain ⟨ys, v, rfl, h1, h2⟩ := dpAll_last b
      exact ⟨_ :: ys, v, rfl, .cons a h1, h2⟩
theorem last_at {ys : List V} {v : V} : (ys ++ [v])[(ys ++ [v]).length - 1]? = some v := by simp
theorem dpAll_rev {K : PySem.W.Frag} {H : Hp} : ∀ {xs : List V} {ds : List PyData}, DpAll K H xs ds → DpAll K H xs.reverse ds.reverse
  | _, _, .nil => .nil
  | _, _, .cons a b => by
    rw [List.reverse_cons, List.reverse_cons]
    exact dpAll_end (dpAll_rev b) a
theorem nL_app {a b : List PyData} : nLs (a ++ b) = (nLs a && nLs b) := by
  induction a with
  | nil => simp [nLs]
  | cons d a ih => simp only [List.cons_append, nLs, ih, Bool.and_assoc]
theorem nL_rev {a : List PyData} (h : nLs a = true) : nLs a.reverse = true := nLs_of fun d hd => nLs_mem h d (List.mem_reverse.mp hd)
theorem valV_dropK (kvs : List (Key × V)) (k j : Key) : valV (dropK kvs k) j = if j = k then Option.none else valV kvs j := by
  induction kvs with
  | nil => simp [dropK, valV_nil]
  | cons p r ih =>
    unfold dropK at ih ⊢
    rw [List.filter_cons]
    by_cases e : p.1 = k
    · rw [if_neg (by simp [e]), ih]
      by_cases z : j = k
      · rw [if_pos z, if_pos z]
      · rw [if_neg z, if_neg z, valV_neg (by rw [e]; exact fun w => z w.symm)]
    · rw [if_pos (by simp [e])]
      by_cases f : p.1 = j
      · rw [valV_pos f, valV_pos f, if_neg (by rw [← f]; exact e)]
      · rw [valV_neg f, valV_neg f, ih]
end My
namespace My
open PySem PySem.Spec PyProof.Rows L2
open PySem.AutoSeq1 (wpAny_loadPart')
/-! ### a dict and a str are not equal -/
theorem str_eq_declines_dict (b : Str) (u : Tok) (l : Addr) (dd : Option Addr) (en : Array DictEntry) (ep : Nat) (sl : Array (Option Value)) :
    Meets (Builtin.«str.__eq__» ⟨[.str b u, .ref l], []⟩) (fun _ R s => s.heap.get? l = some { cls := .type "dict", dict := dd, data := .dict en ep, slots := sl } ∧ R (.ok (.ret .notImplemented)) s) :=
  .of_wp fun prog w A R s h => by obtain ⟨hp, g, d, tk, os⟩ := s; obtain ⟨hl, h⟩ := h; wp_walk using wpAny_loadPart' hl, wpAny_load hl; exact ⟨_, rfl, h⟩
section
variable {prog : Program} {w : World} {A : Around} {E : Value → Shared → Prop} {s : Shared}
theorem eq_dict_str {a : Addr} {dd : Option Addr} {en : Array DictEntry} {ep : Nat} {sl : Array (Option Value)} {b : Str} {u : Tok} (ho : s.heap.get? a = some { cls := .type "dict", dict := dd, data := .dict en ep, slots := sl }) (hu : A.units < cLine) {Q : Value → Shared → Prop} (h : Q (.bool false) s) : wpAny (model prog w) A (richCompare .Eq (.ref a) (.str b u)) Q E s := by
  have ti : s.TypeIs (.ref a) "dict" := ⟨_, ho, rfl⟩
  refine SeqAt.rc_eq_decline_or (k := false) ti (typeIs_str s b u) (by decide) F.sub_str_dict F.slot_dict_eq F.slot_str_eq_refl (fun Q' hq => ?_) (fun Q' hq => ?_) (fun _ hq => wpAny_of_eq (rfl : isSame (.ref a) (.str b u) = pure false) hq) (.inr hu) h
  · refine wpAny_call_entry PySem.F.slot_dict_eq ti PySem.F.entry_dict_eq ?_ (PySem.F.args_dict_eq_2 _ _)
    show wpAny _ _ (Builtin.Dict.dictSlotArgs "__eq__" ⟨[.ref a, .str b u], []⟩ >>= _) _ _ s
    refine wpAny_bind ?_
    unfold Builtin.Dict.dictSlotArgs
    refine wpAny_bind (wpAny_notOrdered_dict ti ?_)
    show wpAny _ _ (pure (Value.ref a, Value.str b u)) _ _ s
    refine wpAny_pure ?_
    refine wpAny_bind (wpAny_isInstance (T := "str") (typeIs_str s b u) PySem.F.sub_str_dict ?_)
    simp only [Bool.not_false, if_true]
    exact wpAny_bind (wpAny_rule (wpAny_pure ⟨_, rfl, hq⟩))
  · exact call_meets F.slot_str_eq_refl (typeIs_str s b u) F.entry_str_eq (F.args_str_eq_2 _ _) (str_eq_declines_dict b u a dd en ep sl) ⟨ho, hq⟩
end
section
variable {X : Cx}
/-- x == y of scalars, or of a dict and a str -/
def rEqX : R2 := fun x y H Q => (scal x y = true ∧ Q (.bl (decide (x = y))) H) ∨ (∃ a kvs t, x = .ref a ∧ y = .str t ∧ H a = some (.dK kvs) ∧ Q (.bl false) H)
theorem op_eqX (hu : X.A.units < cLine) : OpR X (compareOp .Eq) rEqX := by
  intro pins s σ H x y v u Q I rx ry h
  rcases h with h | ⟨a, kvs, t, rfl, rfl, ea, q⟩
  · exact op_eq pins s σ H x y v u Q I rx ry h
  · obtain rfl : v = Value.ref a := rx
    obtain ⟨tk, rfl⟩ := ry
    obtain ⟨_, _, va, _, ⟨cls, dd, data, sl⟩, es, ep, ho, hx, hd, _⟩ := (show ObjOk X.prog X.w H s.heap a (.dK kvs) from I.hok a _ ea)
    simp only at hd
    subst hd
    obtain rfl : cls = .type "dict" := hx.1
    exact eq_dict_str ho hu (fin_bl I q rfl)
end
end My
namespace My
open PySem PySem.Spec PyProof.Rows L2
open PySem.AutoSeq1 (wpAny_loadPart')
open PySem.SeqAt (EqP)
open PySem.MeetsSeq PySem.MeetsSeq2 PySem.MeetsSeq3
/-! ### equal values, dicts among them -/
section
variable {P : Program} {w : World}
theorem tupEqT (a b : Addr) (us vs : Array Value) (n k : Nat) (da db : Option Addr) (sa sb : Array (Option Value)) (hz : us.size = vs.size) (ne : Bool) :
    MeetsIn P w ((if ne then Builtin.«tuple.__ne__» else Builtin.«tuple.__eq__») ⟨[.ref a, .ref b], []⟩) (fun A R s =>
      s.heap.get? a = some { cls := .type "tuple", dict := da, data := .seq us n, slots := sa } ∧ s.heap.get? b = some { cls := .type "tuple", dict := db, data := .seq vs k, slots := sb } ∧
      (∀ j (h1 : j < us.size) (h2 : j < vs.size), EqP P w A.in1 s us[j] vs[j] true) ∧ R (.ok (.ret (.bool (!ne)))) s) := by
  intro A R s h
  obtain ⟨hp, g, d, tk, os⟩ := s
  obtain ⟨ea, eb, he, q⟩ := h
  have i2 := AutoSeq1.sub_tuple_tuple
  have hl : (us.toList.zip vs.toList).length = us.size := by simp [hz]
  cases ne with
  | false =>
    show wpAny _ _ (Builtin.«tuple.__eq__» ⟨[.ref a, .ref b], []⟩) _ _ _
    wp_walk using wpAny_loadPart' ea, wpAny_loadPart' eb, wpAny_forIn_list _ (fun r c t => c.1 = none ∧ t = ⟨hp, g, d, tk, os⟩ ∧ ∃ i, r = (us.toList.zip vs.toList).drop i) _
    case turn =>
      rintro ⟨y, x⟩ r c t ⟨hc, rfl, i, hi⟩
      have lt : i < (us.toList.zip vs.toList).length := Nat.lt_of_not_le fun z => by rw [List.drop_of_length_le z] at hi; cases hi
      have l1 : i < us.size := by omega
      have l2 : i < vs.size := by omega
      rw [List.drop_eq_getElem_cons lt] at hi
      injection hi with e1 e2
      have ey : y = us[i] := by simpa using congrArg Prod.fst e1
      have ex : x = vs[i] := by simpa using congrArg Prod.snd e1
      subst ey ex
      refine wpAny_bind (he i l1 l2 _ _ ?_)
      wp_walk
      exact ⟨rfl, rfl, i + 1, e2⟩
    case fin =>
      rintro ⟨c1, c2⟩ t ⟨hc, rfl, i, hi⟩
      simp only at hc
      subst hc
      wp_walk
      simpa [Builtin.Tuple.tupleCompareSizes, hz] using q
    case h => exact ⟨rfl, rfl, 0, rfl⟩
  | true =>
    show wpAny _ _ (Builtin.«tuple.__ne__» ⟨[.ref a, .ref b], []⟩) _ _ _
    wp_walk using wpAny_loadPart' ea, wpAny_loadPart' eb, wpAny_forIn_list _ (fun r c t => c.1 = none ∧ t = ⟨hp, g, d, tk, os⟩ ∧ ∃ i, r = (us.toList.zip vs.toList).drop i) _
    case turn =>
      rintro ⟨y, x⟩ r c t ⟨hc, rfl, i, hi⟩
      have lt : i < (us.toList.zip vs.toList).length := Nat.lt_of_not_le fun z => by rw [List.drop_of_length_le z] at hi; cases hi
      have l1 : i < us.size := by omega
      have l2 : i < vs.size := by omega
      rw [List.drop_eq_getElem_cons lt] at hi
      injection hi with e1 e2
      have ey : y = us[i] := by simpa using congrArg Prod.fst e1
      have ex : x = vs[i] := by simpa using congrArg Prod.snd e1
      subst ey ex
      refine wpAny_bind (he i l1 l2 _ _ ?_)
      wp_walk
      exact ⟨rfl, rfl, i + 1, e2⟩
    case fin =>
      rintro ⟨c1, c2⟩ t ⟨hc, rfl, i, hi⟩
      simp only at hc
      subst hc
      wp_walk
      simpa [Builtin.Tuple.tupleCompareSizes, hz, bne] using q
    case h => exact ⟨rfl, rfl, 0, rfl⟩
theorem lstNeLoop (a b : Addr) (us vs : Array Value) (n k : Nat) (da db : Option Addr) (sa sb : Array (Option Value)) (hz : us.size = vs.size) (m : Nat) :
    ∀ i : Nat, us.size - i = m → MeetsIn P w (Builtin.«list.__eq__.loop» ⟨[.ref a, .ref b, rawInt i, rawInt 3], []⟩) (fun A R s =>
      s.heap.get? a = some { cls := .type "list", dict := da, data := .seq us n, slots := sa } ∧ s.heap.get? b = some { cls := .type "list", dict := db, data := .seq vs k, slots := sb } ∧
      (∀ j (h1 : j < us.size) (h2 : j < vs.size), EqP P w A.in1 s us[j] vs[j] true) ∧ R (.ok (.ret (.bool false))) s) := by
  induction m with
  | zero =>
    intro i hk A R s h
    obtain ⟨hp, g, d, tk, os⟩ := s
    obtain ⟨ea, eb, he, q⟩ := h
    wp_walk using wpAny_loadPart' ea, wpAny_loadPart' eb
    have o1 : us[((i : Nat) : Int).toNat]? = none := by simp; omega
    have o2 : vs[((i : Nat) : Int).toNat]? = none := by simp; omega
    rw [o1, o2]
    wp_walk using wpAny_loadPart' ea, wpAny_loadPart' eb
    show R (.ok (.ret (.bool (us.size != vs.size)))) _
    rw [hz]
    simpa using q
  | succ m ih =>
    intro i hk A R s h
    obtain ⟨hp, g, d, tk, os⟩ := s
    obtain ⟨ea, eb, he, q⟩ := h
    wp_walk using wpAny_loadPart' ea, wpAny_loadPart' eb
    have l1 : i < us.size := by omega
    have l2 : i < vs.size := by omega
    have o1 : us[((i : Nat) : Int).toNat]? = some us[i] := by simp [l1]
    have o2 : vs[((i : Nat) : Int).toNat]? = some vs[i] := by simp [l2]
    have up : ((i : Int) + 1) = ((i + 1 : Nat) : Int) := by push_cast; rfl
    rw [o1, o2]
    refine wpAny_bind (he i l1 l2 _ _ ?_)
    wp_walk
    rw [up]
    refine ⟨plainId_quiet plain_eq_loop _, codeAny_builtin entry_eq_loop ?_⟩
    rw [Around.under_plainId plain_eq_loop _]
    exact ih (i + 1) (by omega) A R _ ⟨ea, eb, he, q⟩
theorem lstNe (a b : Addr) (us vs : Array Value) (n k : Nat) (da db : Option Addr) (sa sb : Array (Option Value)) (hz : us.size = vs.size) :
    MeetsIn P w (Builtin.«list.__ne__» ⟨[.ref a, .ref b], []⟩) (fun A R s =>
      s.heap.get? a = some { cls := .type "list", dict := da, data := .seq us n, slots := sa } ∧ s.heap.get? b = some { cls := .type "list", dict := db, data := .seq vs k, slots := sb } ∧
      (∀ j (h1 : j < us.size) (h2 : j < vs.size), EqP P w A.in1 s us[j] vs[j] true) ∧ R (.ok (.ret (.bool false))) s) := by
  intro A R s h
  obtain ⟨hp, g, d, tk, os⟩ := s
  obtain ⟨ea, eb, he, q⟩ := h
  have i3 := AutoSeq1.sub_list_list
  have nz : ¬ (us.size != vs.size) = true := by simp [hz]
  wp_walk using wpAny_loadPart' ea, wpAny_loadPart' eb
  refine ⟨plainId_quiet plain_eq_loop _, codeAny_builtin entry_eq_loop ?_⟩
  rw [Around.under_plainId plain_eq_loop _]
  exact lstNeLoop a b us vs n k da db sa sb hz _ 0 rfl A R _ ⟨ea, eb, he, q⟩
theorem rcTup {A : Around} {s : Shared} {a b : Addr} {us vs : Array Value} (ha : IsTup s.heap a us) (hb : IsTup s.heap b vs) (hz : us.size = vs.size) (hu : A.units < cLine)
    (he : ∀ j (h1 : j < us.size) (h2 : j < vs.size), EqP P w A.in1 s us[j] vs[j] true) (E Q : Value → Shared → Prop) (q : Q (.bool true) s) : wpAny (model P w) A (richCompare .Eq (.ref a) (.ref b)) Q E s := by
  obtain ⟨⟨c1, da, d1, sa⟩, e1, k1, n, f1⟩ := ha
  obtain ⟨⟨c2, db, d2, sb⟩, e2, k2, k, f2⟩ := hb
  simp only at k1 f1 k2 f2
  subst k1 f1 k2 f2
  have ta : s.TypeIs (.ref a) "tuple" := ⟨_, e1, rfl⟩
  have tb : s.TypeIs (.ref b) "tuple" := ⟨_, e2, rfl⟩
  exact wpAny_richCompare_same_room (op := .Eq) ta tb F.slot_tuple_eq (call_meetsIn F.slot_tuple_eq ta F.entry_tuple_eq (F.args_tuple_eq_2 _ _) (tupEqT a b us vs n k da db sa sb hz false)
    ⟨e1, e2, he, show Value.bool true ≠ Value.notImplemented ∧ Q (.bool true) s from ⟨(fun x => nomatch x), q⟩⟩) hu
theorem rcTupNe {A : Around} {s : Shared} {a b : Addr} {us vs : Array Value} (ha : IsTup s.heap a us) (hb : IsTup s.heap b vs) (hz : us.size = vs.size) (hu : A.units < cLine)
    (he : ∀ j (h1 : j < us.size) (h2 : j < vs.size), EqP P w A.in1 s us[j] vs[j] true) (E Q : Value → Shared → Prop) (q : Q (.bool false) s) : wpAny (model P w) A (richCompare .NotEq (.ref a) (.ref b)) Q E s := by
  obtain ⟨⟨c1, da, d1, sa⟩, e1, k1, n, f1⟩ := ha
  obtain ⟨⟨c2, db, d2, sb⟩, e2, k2, k, f2⟩ := hb
  simp only at k1 f1 k2 f2
  subst k1 f1 k2 f2
  have ta : s.TypeIs (.ref a) "tuple" := ⟨_, e1, rfl⟩
  have tb : s.TypeIs (.ref b) "tuple" := ⟨_, e2, rfl⟩
  exact wpAny_richCompare_same_room (op := .NotEq) ta tb F.slot_tuple_ne (call_meetsIn F.slot_tuple_ne ta F.entry_tuple_ne (F.args_tuple_ne_2 _ _) (tupEqT a b us vs n k da db sa sb hz true)
    ⟨e1, e2, he, show Value.bool false ≠ Value.notImplemented ∧ Q (.bool false) s from ⟨(fun x => nomatch x), q⟩⟩) hu
theorem rcLstNe {A : Around} {s : Shared} {a b : Addr} {us vs : Array Value} (ha : s.heap.IsList a us) (hb : s.heap.IsList b vs) (hz : us.size = vs.size) (hu : A.units < cLine)
    (he : ∀ j (h1 : j < us.size) (h2 : j < vs.size), EqP P w A.in1 s us[j] vs[j] true) (E Q : Value → Shared → Prop) (q : Q (.bool false) s) : wpAny (model P w) A (richCompare .NotEq (.ref a) (.ref b)) Q E s := by
  obtain ⟨⟨c1, da, d1, sa⟩, e1, k1, n, f1⟩ := ha
  obtain ⟨⟨c2, db, d2, sb⟩, e2, k2, k, f2⟩ := hb
  simp only at k1 f1 k2 f2
  subst k1 f1 k2 f2
  have ta : s.TypeIs (.ref a) "list" := ⟨_, e1, rfl⟩
  have tb : s.TypeIs (.ref b) "list" := ⟨_, e2, rfl⟩
  exact wpAny_richCompare_same_room (op := .NotEq) ta tb F.slot_list_ne (call_meetsIn F.slot_list_ne ta F.entry_list_ne (F.args_list_ne_2 _ _) (lstNe a b us vs n k da db sa sb hz)
    ⟨e1, e2, he, show Value.bool false ≠ Value.notImplemented ∧ Q (.bool false) s from ⟨(fun x => nomatch x), q⟩⟩) hu
theorem rcDictNe {K : Type} [DecidableEq K] {knd : KeyKind P w K} {A : Around} {s : Shared} {a b : Addr} {ka kb : List (K × Value)} (ha : (a == sysModules) = false) (hb : (b == sysModules) = false)
    (da : s.heap.DictOf knd a ka) (db : s.heap.DictOf knd b kb) (hl : ka.length = kb.length) (hu : A.units < cLine) (hits : PySem.W.KeqHitsP P w A.in1 s kb ka true) (E Q : Value → Shared → Prop) (q : Q (.bool false) s) :
    wpAny (model P w) A (richCompare .NotEq (.ref a) (.ref b)) Q E s := by
  have e1 : (ka.length == kb.length && true) = true := by rw [hl]; simp
  refine wpAny_richCompare_same_room (op := .NotEq) da.typeIs db.typeIs PySem.F.slot_dict_ne (wpAny_call_entry PySem.F.slot_dict_ne da.typeIs PySem.F.entry_dict_ne ?_ (PySem.F.args_dict_ne_2 _ _)) hu
  show wpAny _ _ (Builtin.Dict.dictSlotArgs "__ne__" ⟨[.ref a, .ref b], []⟩ >>= _) _ _ s
  refine wpAny_bind ?_
  unfold Builtin.Dict.dictSlotArgs
  refine wpAny_bind (wpAny_notOrdered_dict da.typeIs ?_)
  show wpAny _ _ (pure (Value.ref a, Value.ref b)) _ _ s
  refine wpAny_pure ?_
  refine wpAny_bind (wpAny_isInstance (T := "dict") db.typeIs PySem.F.sub_dict_dict ?_)
  simp only [Bool.not_true, Bool.false_eq_true, if_false]
  refine wpAny_bind (wpAny_pure (wpAny_bind (wpAny_pure ?_)))
  refine wpAny_bind (PySem.W.samePairsP ha hb da db (fun _ => hits) ?_)
  refine wpAny_pure ⟨_, rfl, ?_, ?_⟩
  · exact fun x => nomatch x
  · rw [e1]
    exact q
end
/-- two lists of equal items, two tuples of such, two dicts of the same keys -/
def EqS (K : PySem.W.Frag) (H : Hp) (E : V → V → Prop) (x y : V) : Prop := EqR K H E x y ∨ ∃ a b xs ys, x = .ref a ∧ y = .ref b ∧ SqT K H a xs ∧ SqT K H b ys ∧ Paired E xs ys
/-- equal, of nesting below n: data, one object, or such ones -/
def EqW (K : PySem.W.Frag) (H : Hp) : Nat → V → V → Prop
  | 0 => fun _ _ => False
  | n + 1 => fun x y => (∃ d e, Dp K H x d ∧ Dp K H y e ∧ SeqAt.shaped d = true ∧ SeqAt.shaped e = true ∧ PyData.eqv d e = true) ∨ (∃ a, x = .ref a ∧ y = .ref a) ∨ EqS K H (EqW K H n) x y
section
variable {X : Cx} {pins : List (Addr × Obj)} {σ : L2.St} {H : Hp} {s : Shared}
theorem eqS_run (I : Inv X pins σ H s) {A : Around} {F : V → V → Prop} (hu : A.units < cLine) (ih : ∀ x y v u, F x y → RelV x v → RelV y u → EqP X.prog X.w A.in1 s v u true) {x y : V} {v u : Value} (h : EqS X.K H F x y) (rx : RelV x v) (ry : RelV y u)
    (E Q : Value → Shared → Prop) (q : Q (.bool true) s) : wpAny (model X.prog X.w) A (richCompare .Eq v u) Q E s := by
  rcases h with h | ⟨a, b, xs, ys, rfl, rfl, ha, hb, hp⟩
  · exact eqR_run I hu ih h rx ry E Q q
  · cases (show v = Value.ref a from rx)
    cases (show u = Value.ref b from ry)
    obtain ⟨us, r1, p1, _⟩ := I.tuple ha
    obtain ⟨ws, r2, p2, _⟩ := I.tuple hb
    have hz : us.toArray.size = ws.toArray.size := by
      rw [List.size_toArray, List.size_toArray, ← r1.length, ← r2.length]
      exact Paired.length hp
    refine rcTup p1 p2 hz hu (fun j h1 h2 => ?_) E Q q
    have k := items_run ih hp r1 r2 j (by simpa using h1) (by simpa using h2)
    simpa using k
theorem neS_run (I : Inv X pins σ H s) {A : Around} {F : V → V → Prop} (hu : A.units < cLine) (ih : ∀ x y v u, F x y → RelV x v → RelV y u → EqP X.prog X.w A.in1 s v u true) {x y : V} {v u : Value} (h : EqS X.K H F x y) (rx : RelV x v) (ry : RelV y u)
    (E Q : Value → Shared → Prop) (q : Q (.bool false) s) : wpAny (model X.prog X.w) A (richCompare .NotEq v u) Q E s := by
  rcases h with (⟨a, b, xs, ys, rfl, rfl, ha, hb, hp⟩ | ⟨a, b, ks, ls, rfl, rfl, ha, hb, hl, hp⟩) | ⟨a, b, xs, ys, rfl, rfl, ha, hb, hp⟩
  · cases (show v = Value.ref a from rx)
    cases (show u = Value.ref b from ry)
    obtain ⟨us, r1, p1, _⟩ := I.list ha
    obtain ⟨ws, r2, p2, _⟩ := I.list hb
    have hz : us.toArray.size = ws.toArray.size := by
      rw [List.size_toArray, List.size_toArray, ← r1.length, ← r2.length]
      exact Paired.length hp
    refine rcLstNe p1.isList p2.isList hz hu (fun j h1 h2 => ?_) E Q q
    have k := items_run ih hp r1 r2 j (by simpa using h1) (by simpa using h2)
    simpa using k
  · cases (show v = Value.ref a from rx)
    cases (show u = Value.ref b from ry)
    obtain ⟨_, ya, va, ra, da⟩ := (show ObjOk X.prog X.w H s.heap a (.dK ks) from I.hok a _ ha)
    obtain ⟨_, yb, vb, rb, db⟩ := (show ObjOk X.prog X.w H s.heap b (.dK ls) from I.hok b _ hb)
    exact rcDictNe (knd := mixKind X.prog X.w) ya yb da db (by rw [← ra.length, ← rb.length]; exact hl) hu (hits_run ih rb ra hp) E Q q
  · cases (show v = Value.ref a from rx)
    cases (show u = Value.ref b from ry)
    obtain ⟨us, r1, p1, _⟩ := I.tuple ha
    obtain ⟨ws, r2, p2, _⟩ := I.tuple hb
    have hz : us.toArray.size = ws.toArray.size := by
      rw [List.size_toArray, List.size_toArray, ← r1.length, ← r2.length]
      exact Paired.length hp
    refine rcTupNe p1 p2 hz hu (fun j h1 h2 => ?_) E Q q
    have k := items_run ih hp r1 r2 j (by simpa using h1) (by simpa using h2)
    simpa using k
theorem eqW_run (I : Inv X pins σ H s) : ∀ (n : Nat) (A : Around), A.units + n + 64 < cLine → ∀ (x y : V) (v u : Value), EqW X.K H n x y → RelV x v → RelV y u → EqP X.prog X.w A s v u true
  | 0, _, _, _, _, _, _, h, _, _ => (show False from h).elim
  | n + 1, A, hu, x, y, v, u, h, rx, ry => by
    rcases h with ⟨d, e, hd, he, sd, se, q⟩ | ⟨a, rfl, rfl⟩ | h
    · obtain ⟨as, r1⟩ := Dp.reads I d x v hd rx
      obtain ⟨bs, r2⟩ := Dp.reads I e y u he ry
      have k := SeqAt.eqAt_reads d e A s v u as bs r1 r2 (SeqAt.canLay_of_shaped sd) (SeqAt.canLay_of_shaped se) (SeqAt.room_of_shaped sd (by omega))
      rw [q] at k
      exact SeqAt.EqAt.eqP k
    · cases (show v = Value.ref a from rx)
      cases (show u = Value.ref a from ry)
      exact (SeqAt.EqAt.same _).eqP
    · have step := eqS_run I (A := A) (by omega) (eqW_run I n A.in1 (by show A.units + 1 + n + 64 < cLine; omega)) h rx ry
      obtain ⟨a, b, rfl, rfl⟩ : ∃ a b, x = .ref a ∧ y = .ref b := by
        rcases h with (⟨a, b, _, _, e1, e2, _⟩ | ⟨a, b, _, _, e1, e2, _⟩) | ⟨a, b, _, _, e1, e2, _⟩ <;> exact ⟨a, b, e1, e2⟩
      cases (show v = Value.ref a from rx)
      cases (show u = Value.ref b from ry)
      by_cases e : a = b
      · subst e
        exact (SeqAt.EqAt.same _).eqP
      · exact SeqAt.eqP_refs e step
end
section
variable {X : Cx}
def rEqW (K : PySem.W.Frag) : R2 := fun x y H Q => ∃ n, n ≤ 60 ∧ EqS K H (EqW K H n) x y ∧ Q (.bl true) H
def rNeW (K : PySem.W.Frag) : R2 := fun x y H Q => ∃ n, n ≤ 60 ∧ EqS K H (EqW K H n) x y ∧ Q (.bl false) H
theorem op_eqW (hu : X.A.units + 150 < cLine) : OpR X (compareOp .Eq) (rEqW X.K) := by
  intro pins s σ H x y v u Q I rx ry h
  obtain ⟨n, hn, h, q⟩ := h
  exact eqS_run I (A := X.A) (by omega) (eqW_run I n X.A.in1 (by show X.A.units + 1 + n + 64 < cLine; omega)) h rx ry _ _ ⟨.bl true, H, I, rfl, q⟩
theorem op_neW (hu : X.A.units + 150 < cLine) : OpR X (compareOp .NotEq) (rNeW X.K) := by
  intro pins s σ H x y v u Q I rx ry h
  obtain ⟨n, hn, h, q⟩ := h
  exact neS_run I (A := X.A) (by omega) (eqW_run I n X.A.in1 (by show X.A.units + 1 + n + 64 < cLine; omega)) h rx ry _ _ ⟨.bl false, H, I, rfl, q⟩
end
theorem units150 {k : Nat} {A : Around} (r : Room k A) : A.units + 150 < cLine := by
  have := r.un
  omega
end My
namespace My
open PySem PySem.Spec PyProof.Rows L2
/-! ### max of ints with a default; two rules for one place; what is never run -/
theorem holdAll_ints {h : Heap} : ∀ {ns : List Int} {us : List Value}, Vals (ns.map V.int) us → PySem.W.HoldAll h us ns
  | [], _, r => by
    cases r
    exact ⟨_, ReadsAll.nil⟩
  | n :: ns, _, r => by
    cases r with
    | cons r1 r2 =>
      obtain ⟨as, q⟩ := holdAll_ints (h := h) r2
      obtain ⟨t, rfl⟩ := r1
      exact ⟨_, ReadsAll.cons (Reads.int n t) q⟩
theorem maxOf_int : ∀ (xs : List Int) (x : Int), PySem.W.maxOf x xs ∈ x :: xs ∧ ∀ y ∈ x :: xs, y ≤ PySem.W.maxOf x xs
  | [], x => ⟨.head _, fun y hy => by rw [List.mem_singleton.mp hy]; exact Int.le_refl _⟩
  | z :: xs, x => by
    have e : PySem.W.maxOf x (z :: xs) = PySem.W.maxOf (if PySem.W.DatumOrd.lt x z = true then z else x) xs := rfl
    have lt : PySem.W.DatumOrd.lt x z = decide (x < z) := rfl
    rw [e, lt]
    by_cases c : x < z
    · rw [decide_eq_true c, if_pos rfl]
      obtain ⟨h1, h2⟩ := maxOf_int xs z
      refine ⟨List.mem_cons_of_mem _ h1, fun y hy => ?_⟩
      rcases List.mem_cons.mp hy with rfl | hy
      · have := h2 z (.head _)
        omega
      · exact h2 y hy
    · rw [decide_eq_false c, if_neg Bool.false_ne_true]
      obtain ⟨h1, h2⟩ := maxOf_int xs x
      refine ⟨?_, fun y hy => ?_⟩
      · rcases List.mem_cons.mp h1 with h1 | h1
        · rw [h1]; exact .head _
        · exact .tail _ (.tail _ h1)
      · rcases List.mem_cons.mp hy with rfl | hy
        · exact h2 y (.head _)
        · rcases List.mem_cons.mp hy with rfl | hy
          · have := h2 x (.head _)
            omega
          · exact h2 y (.tail _ hy)
def rMaxD0 (K : PySem.W.Frag) : List V → List V → Hp → VK → Prop := fun xs zs H Q => ∃ (a : Addr) (ns : List Int) (d : V), xs = [.ref a] ∧ zs = [d] ∧ SqL K H a (ns.map V.int) ∧ (ns = [] → Q d H) ∧ ∀ m, m ∈ ns → (∀ y ∈ ns, y ≤ m) → Q (.int m) H
theorem cr_maxD0 {X : Cx} (hc : X.calm = true) (hu : X.A.units + 150 < cLine) : CallRK X (.builtin "max") ["default"] (rMaxD0 X.K) := by
  intro pins s σ H xs zs us ws Q I r rk h
  obtain ⟨a, ns, d, rfl, rfl, hs, q0, q1⟩ := h
  obtain ⟨its, rv, hl, _⟩ := I.list hs
  rw [Vals.ref1 r]
  obtain ⟨u, rfl, ru⟩ := rk.one
  refine PySem.W.max_list_datum_default (α := Int) (I.ok.hd hc) hl.isList (holdAll_ints rv) (by show X.A.units + 1 + 0 < cLine; omega) (fun e h' tk hk => ⟨d, H, I.kept hk, ru, q0 e⟩) fun y ys i v h' tk e hv hh hk => ?_
  obtain ⟨as, hr⟩ := hh
  subst e
  obtain ⟨m1, m2⟩ := maxOf_int ys y
  have hr' : Reads h' v (.int (PySem.W.maxOf y ys)) as := hr
  cases hr' with
  | int _ t => exact ⟨.int _, H, I.kept hk, ⟨_, rfl⟩, q1 _ m1 m2⟩
theorem pi_or {X : Cx} {tg e : Expr} {t u : TI} (h1 : PI X tg e t) (h2 : PI X tg e u) : PI X tg e (fun σ H R => t σ H R ∨ u σ H R) := ⟨fun pins s σ H R I h => h.elim (fun h => h1.run pins s σ H R I h) fun h => h2.run pins s σ H R I h⟩
theorem pe_or2 {X : Cx} {e : Expr} {t u : TE} (h1 : PE X e t) (h2 : PE X e u) : PE X e (fun σ H Q => t σ H Q ∨ u σ H Q) := ⟨fun pins s σ H Q I h => h.elim (fun h => h1.run pins s σ H Q I h) fun h => h2.run pins s σ H Q I h⟩
theorem op_or {X : Cx} {f : Value → Value → Sem Value} {r q : R2} (h1 : OpR X f r) (h2 : OpR X f q) : OpR X f (fun x y H Q => r x y H Q ∨ q x y H Q) := fun pins s σ H x y v u Q I rx ry h => h.elim (fun h => h1 pins s σ H x y v u Q I rx ry h) fun h => h2 pins s σ H x y v u Q I rx ry h
theorem ps_never {X : Cx} {st : Stmt} : PS X st (fun _ _ _ => False) := ⟨fun pins s σ H D I h => h.elim⟩
theorem pe_never {X : Cx} {e : Expr} : PE X e (fun _ _ _ => False) := ⟨fun pins s σ H Q I h => h.elim⟩
theorem pss_never {X : Cx} {b : List Stmt} : PSs X b (fun _ _ _ => False) := ⟨fun pins s σ H D I h => h.elim⟩
theorem g_star {σ : L2.St} {H : Hp} {K : PySem.W.Frag} {te : TE} {t : TA} {Q : List V → Hp → Prop} (h : te σ H fun y H1 => ∃ a xs, y = .ref a ∧ (SqT K H1 a xs ∨ SqL K H1 a xs) ∧ t σ H1 fun vs H2 => Q (xs ++ vs) H2) : StX.tStar K te t σ H Q := h
end My

namespace My
open PySem PySem.Spec PyProof.Rows L2 SkE StX
/-! ### the text -/
def topS (i : Nat) : Stmt := PySem.Challenge.pw_hornbook_k37_resolve.main.body.getD i (.Pass ⟨0, 0, 0, 0⟩)
abbrev s_is_variable : Stmt := topS 5
abbrev N_is_variable : List Str := ["node"]
theorem sc_is_variable : FnScope N_is_variable ["node"] (defScope s_is_variable) := ⟨rfl, rfl, rfl, by decide +kernel, rfl, by decide +kernel, by decide +kernel⟩
abbrev s_is_symbol : Stmt := topS 6
abbrev N_is_symbol : List Str := ["node"]
theorem sc_is_symbol : FnScope N_is_symbol ["node"] (defScope s_is_symbol) := ⟨rfl, rfl, rfl, by decide +kernel, rfl, by decide +kernel, by decide +kernel⟩
abbrev s_arity_of : Stmt := topS 7
abbrev N_arity_of : List Str := ["node"]
theorem sc_arity_of : FnScope N_arity_of ["node"] (defScope s_arity_of) := ⟨rfl, rfl, rfl, by decide +kernel, rfl, by decide +kernel, by decide +kernel⟩
abbrev s_end_of : Stmt := topS 8
abbrev N_end_of : List Str := ["nodes", "start", "missing", "at"]
theorem sc_end_of : FnScope N_end_of ["nodes", "start"] (defScope s_end_of) := ⟨rfl, rfl, rfl, by decide +kernel, rfl, by decide +kernel, by decide +kernel⟩
abbrev s_renumber : Stmt := topS 9
abbrev N_renumber : List Str := ["term", "first", "names", "nodes", "node"]
theorem sc_renumber : FnScope N_renumber ["term", "first"] (defScope s_renumber) := ⟨rfl, rfl, rfl, by decide +kernel, rfl, by decide +kernel, by decide +kernel⟩
abbrev s_renumber_together : Stmt := topS 10
abbrev N_renumber_together : List Str := ["terms", "first", "nodes", "term", "node", "found", "at"]
theorem sc_renumber_together : FnScope N_renumber_together ["terms", "first"] (defScope s_renumber_together) := ⟨rfl, rfl, rfl, by decide +kernel, rfl, by decide +kernel, by decide +kernel⟩
abbrev s_next_number : Stmt := topS 11
abbrev N_next_number : List Str := ["terms", "term", "node"]
theorem sc_next_number : FnScope N_next_number ["terms"] (defScope s_next_number) := ⟨rfl, rfl, rfl, by decide +kernel, rfl, by decide +kernel, by decide +kernel⟩
abbrev s_is_control : Stmt := topS 18
abbrev N_is_control : List Str := ["name", "arity"]
theorem sc_is_control : FnScope N_is_control ["name", "arity"] (defScope s_is_control) := ⟨rfl, rfl, rfl, by decide +kernel, rfl, by decide +kernel, by decide +kernel⟩
abbrev s_is_built_in : Stmt := topS 19
abbrev N_is_built_in : List Str := ["name", "arity"]
theorem sc_is_built_in : FnScope N_is_built_in ["name", "arity"] (defScope s_is_built_in) := ⟨rfl, rfl, rfl, by decide +kernel, rfl, by decide +kernel, by decide +kernel⟩
abbrev s_split_clause : Stmt := topS 20
abbrev N_split_clause : List Str := ["clause", "end"]
theorem sc_split_clause : FnScope N_split_clause ["clause"] (defScope s_split_clause) := ⟨rfl, rfl, rfl, by decide +kernel, rfl, by decide +kernel, by decide +kernel⟩
abbrev s_Side___init__ : Stmt := inClass (topS 24) 0
abbrev N_Side___init__ : List Str := ["self", "term"]
theorem sc_Side___init__ : FnScope N_Side___init__ ["self", "term"] (defScope s_Side___init__) := ⟨rfl, rfl, rfl, by decide +kernel, rfl, by decide +kernel, by decide +kernel⟩
abbrev s_Side_add_variables : Stmt := inClass (topS 24) 1
abbrev N_Side_add_variables : List Str := ["self", "term", "times", "node"]
theorem sc_Side_add_variables : FnScope N_Side_add_variables ["self", "term", "times"] (defScope s_Side_add_variables) := ⟨rfl, rfl, rfl, by decide +kernel, rfl, by decide +kernel, by decide +kernel⟩
abbrev s_Side_take : Stmt := inClass (topS 24) 2
abbrev N_Side_take : List Str := ["self", "found", "node"]
theorem sc_Side_take : FnScope N_Side_take ["self", "found"] (defScope s_Side_take) := ⟨rfl, rfl, rfl, by decide +kernel, rfl, by decide +kernel, by decide +kernel⟩
abbrev s_Side_take_rest : Stmt := inClass (topS 24) 3
abbrev N_Side_take_rest : List Str := ["self", "node", "found", "nodes", "missing"]
theorem sc_Side_take_rest : FnScope N_Side_take_rest ["self", "node", "found"] (defScope s_Side_take_rest) := ⟨rfl, rfl, rfl, by decide +kernel, rfl, by decide +kernel, by decide +kernel⟩
abbrev s_Side_bind : Stmt := inClass (topS 24) 4
abbrev N_Side_bind : List Str := ["self", "number", "value", "times"]
theorem sc_Side_bind : FnScope N_Side_bind ["self", "number", "value"] (defScope s_Side_bind) := ⟨rfl, rfl, rfl, by decide +kernel, rfl, by decide +kernel, by decide +kernel⟩
abbrev s_apply : Stmt := topS 25
abbrev N_apply : List Str := ["substitution", "term", "nodes", "node"]
theorem sc_apply : FnScope N_apply ["substitution", "term"] (defScope s_apply) := ⟨rfl, rfl, rfl, by decide +kernel, rfl, by decide +kernel, by decide +kernel⟩
abbrev s_settle : Stmt := topS 26
abbrev N_settle : List Str := ["found", "settled", "number"]
theorem sc_settle : FnScope N_settle ["found"] (defScope s_settle) := ⟨rfl, rfl, rfl, by decide +kernel, rfl, by decide +kernel, by decide +kernel⟩
abbrev s_unify : Stmt := topS 27
abbrev N_unify : List Str := ["left", "right"]
theorem sc_unify : FnScope N_unify ["left", "right"] (defScope s_unify) := ⟨rfl, rfl, rfl, by decide +kernel, rfl, by decide +kernel, by decide +kernel⟩
abbrev s_unify_within : Stmt := topS 28
abbrev N_unify_within : List Str := ["left", "right", "most", "bound", "one", "other", "found", "node", "mate", "number", "value"]
theorem sc_unify_within : FnScope N_unify_within ["left", "right", "most"] (defScope s_unify_within) := ⟨rfl, rfl, rfl, by decide +kernel, rfl, by decide +kernel, by decide +kernel⟩
abbrev s_check_goal : Stmt := topS 30
abbrev N_check_goal : List Str := ["term", "_", "name", "arity"]
theorem sc_check_goal : FnScope N_check_goal ["term"] (defScope s_check_goal) := ⟨rfl, rfl, rfl, by decide +kernel, rfl, by decide +kernel, by decide +kernel⟩
abbrev s_goals_of : Stmt := topS 31
abbrev N_goals_of : List Str := ["body", "goals", "at", "end"]
theorem sc_goals_of : FnScope N_goals_of ["body"] (defScope s_goals_of) := ⟨rfl, rfl, rfl, by decide +kernel, rfl, by decide +kernel, by decide +kernel⟩
abbrev s_head_and_goals : Stmt := topS 32
abbrev N_head_and_goals : List Str := ["clause", "head", "body"]
theorem sc_head_and_goals : FnScope N_head_and_goals ["clause"] (defScope s_head_and_goals) := ⟨rfl, rfl, rfl, by decide +kernel, rfl, by decide +kernel, by decide +kernel⟩
abbrev s_renamed : Stmt := topS 33
abbrev N_renamed : List Str := ["clause", "first", "head", "goals", "terms"]
theorem sc_renamed : FnScope N_renamed ["clause", "first"] (defScope s_renamed) := ⟨rfl, rfl, rfl, by decide +kernel, rfl, by decide +kernel, by decide +kernel⟩
abbrev s_check_size : Stmt := topS 34
abbrev N_check_size : List Str := ["size", "most"]
theorem sc_check_size : FnScope N_check_size ["size", "most"] (defScope s_check_size) := ⟨rfl, rfl, rfl, by decide +kernel, rfl, by decide +kernel, by decide +kernel⟩
abbrev s_resolved : Stmt := topS 35
abbrev N_resolved : List Str := ["query", "goals", "pick", "pair", "head", "own", "unifier", "terms", "term"]
theorem sc_resolved : FnScope N_resolved ["query", "goals", "pick", "pair"] (defScope s_resolved) := ⟨rfl, rfl, rfl, by decide +kernel, rfl, by decide +kernel, by decide +kernel⟩
abbrev s_resolve : Stmt := topS 36
abbrev N_resolve : List Str := ["query", "goals", "pick", "clause", "goal"]
theorem sc_resolve : FnScope N_resolve ["query", "goals", "pick", "clause"] (defScope s_resolve) := ⟨rfl, rfl, rfl, by decide +kernel, rfl, by decide +kernel, by decide +kernel⟩
abbrev s__law_stream : Stmt := topS 38
abbrev N__law_stream : List Str := ["script", "mixed", "cell"]
theorem sc__law_stream : FnScope N__law_stream ["script"] (defScope s__law_stream) := ⟨rfl, rfl, rfl, by decide +kernel, rfl, by decide +kernel, by decide +kernel⟩
abbrev s__law_draw : Stmt := topS 39
abbrev N__law_draw : List Str := ["stream", "many", "value"]
theorem sc__law_draw : FnScope N__law_draw ["stream", "many"] (defScope s__law_draw) := ⟨rfl, rfl, rfl, by decide +kernel, rfl, by decide +kernel, by decide +kernel⟩
abbrev s__law_is_variable : Stmt := topS 40
abbrev N__law_is_variable : List Str := ["node"]
theorem sc__law_is_variable : FnScope N__law_is_variable ["node"] (defScope s__law_is_variable) := ⟨rfl, rfl, rfl, by decide +kernel, rfl, by decide +kernel, by decide +kernel⟩
abbrev s__law_end : Stmt := topS 41
abbrev N__law_end : List Str := ["term", "start", "missing", "at"]
theorem sc__law_end : FnScope N__law_end ["term", "start"] (defScope s__law_end) := ⟨rfl, rfl, rfl, by decide +kernel, rfl, by decide +kernel, by decide +kernel⟩
abbrev s__law_parts : Stmt := topS 42
abbrev N__law_parts : List Str := ["term", "found", "at", "end"]
theorem sc__law_parts : FnScope N__law_parts ["term"] (defScope s__law_parts) := ⟨rfl, rfl, rfl, by decide +kernel, rfl, by decide +kernel, by decide +kernel⟩
abbrev s__law_put : Stmt := topS 43
abbrev N__law_put : List Str := ["table", "term", "nodes", "node"]
theorem sc__law_put : FnScope N__law_put ["table", "term"] (defScope s__law_put) := ⟨rfl, rfl, rfl, by decide +kernel, rfl, by decide +kernel, by decide +kernel⟩
abbrev s__law_numbered : Stmt := topS 44
abbrev N__law_numbered : List Str := ["terms", "first", "table", "found", "term", "node"]
theorem sc__law_numbered : FnScope N__law_numbered ["terms", "first"] (defScope s__law_numbered) := ⟨rfl, rfl, rfl, by decide +kernel, rfl, by decide +kernel, by decide +kernel⟩
abbrev s__law_fresh : Stmt := topS 45
abbrev N__law_fresh : List Str := ["terms", "first", "term", "node"]
theorem sc__law_fresh : FnScope N__law_fresh ["terms"] (defScope s__law_fresh) := ⟨rfl, rfl, rfl, by decide +kernel, rfl, by decide +kernel, by decide +kernel⟩
abbrev s__law_bound : Stmt := topS 46
abbrev N__law_bound : List Str := ["left", "right", "at", "a", "b", "pair"]
theorem sc__law_bound : FnScope N__law_bound ["left", "right", "at"] (defScope s__law_bound) := ⟨rfl, rfl, rfl, by decide +kernel, rfl, by decide +kernel, by decide +kernel⟩
abbrev s__law_unify : Stmt := topS 47
abbrev N__law_unify : List Str := ["left", "right", "most", "found", "at", "pair", "one", "size", "number", "value"]
theorem sc__law_unify : FnScope N__law_unify ["left", "right"] (defScope s__law_unify) := ⟨rfl, rfl, rfl, by decide +kernel, rfl, by decide +kernel, by decide +kernel⟩
abbrev s__law_conjuncts : Stmt := topS 48
abbrev N__law_conjuncts : List Str := ["body", "found", "waiting", "term", "rows"]
theorem sc__law_conjuncts : FnScope N__law_conjuncts ["body"] (defScope s__law_conjuncts) := ⟨rfl, rfl, rfl, by decide +kernel, rfl, by decide +kernel, by decide +kernel⟩
abbrev s__law_row : Stmt := topS 49
abbrev N__law_row : List Str := ["clause", "rows"]
theorem sc__law_row : FnScope N__law_row ["clause"] (defScope s__law_row) := ⟨rfl, rfl, rfl, by decide +kernel, rfl, by decide +kernel, by decide +kernel⟩
abbrev s__law_resolve : Stmt := topS 50
abbrev N__law_resolve : List Str := ["terms", "goal", "row", "other", "table", "found", "term"]
theorem sc__law_resolve : FnScope N__law_resolve ["terms", "goal", "row"] (defScope s__law_resolve) := ⟨rfl, rfl, rfl, by decide +kernel, rfl, by decide +kernel, by decide +kernel⟩
abbrev s__law_leaf : Stmt := topS 51
abbrev N__law_leaf : List Str := ["stream", "widest", "pick"]
theorem sc__law_leaf : FnScope N__law_leaf ["stream", "widest"] (defScope s__law_leaf) := ⟨rfl, rfl, rfl, by decide +kernel, rfl, by decide +kernel, by decide +kernel⟩
abbrev s__law_argument : Stmt := topS 52
abbrev N__law_argument : List Str := ["stream", "widest", "pick"]
theorem sc__law_argument : FnScope N__law_argument ["stream", "widest"] (defScope s__law_argument) := ⟨rfl, rfl, rfl, by decide +kernel, rfl, by decide +kernel, by decide +kernel⟩
abbrev s__law_atom_of : Stmt := topS 53
abbrev N__law_atom_of : List Str := ["stream", "widest", "pick", "rows"]
theorem sc__law_atom_of : FnScope N__law_atom_of ["stream", "widest"] (defScope s__law_atom_of) := ⟨rfl, rfl, rfl, by decide +kernel, rfl, by decide +kernel, by decide +kernel⟩
abbrev s__law_joined : Stmt := topS 54
abbrev N__law_joined : List Str := ["goals", "body", "k"]
theorem sc__law_joined : FnScope N__law_joined ["goals"] (defScope s__law_joined) := ⟨rfl, rfl, rfl, by decide +kernel, rfl, by decide +kernel, by decide +kernel⟩
abbrev s__law_clause : Stmt := topS 55
abbrev N__law_clause : List Str := ["stream", "head", "many", "goals", "k"]
theorem sc__law_clause : FnScope N__law_clause ["stream"] (defScope s__law_clause) := ⟨rfl, rfl, rfl, by decide +kernel, rfl, by decide +kernel, by decide +kernel⟩
abbrev s__law_atom : Stmt := topS 56
abbrev N__law_atom : List Str := ["stream"]
theorem sc__law_atom : FnScope N__law_atom ["stream"] (defScope s__law_atom) := ⟨rfl, rfl, rfl, by decide +kernel, rfl, by decide +kernel, by decide +kernel⟩
abbrev s__law_known : Stmt := topS 57
abbrev N__law_known : List Str := ["stream", "which", "x", "y", "z", "edge", "path", "clause", "both", "facts", "k", "goals", "end", "step"]
theorem sc__law_known : FnScope N__law_known ["stream", "which"] (defScope s__law_known) := ⟨rfl, rfl, rfl, by decide +kernel, rfl, by decide +kernel, by decide +kernel⟩
abbrev s__law_program : Stmt := topS 58
abbrev N__law_program : List Str := ["stream", "program", "k"]
theorem sc__law_program : FnScope N__law_program ["stream"] (defScope s__law_program) := ⟨rfl, rfl, rfl, by decide +kernel, rfl, by decide +kernel, by decide +kernel⟩
abbrev s__law_query : Stmt := topS 59
abbrev N__law_query : List Str := ["stream", "program", "head", "nodes", "k", "node"]
theorem sc__law_query : FnScope N__law_query ["stream", "program"] (defScope s__law_query) := ⟨rfl, rfl, rfl, by decide +kernel, rfl, by decide +kernel, by decide +kernel⟩
abbrev s__law_large : Stmt := topS 60
abbrev N__law_large : List Str := ["stream", "size", "row"]
theorem sc__law_large : FnScope N__law_large ["stream"] (defScope s__law_large) := ⟨rfl, rfl, rfl, by decide +kernel, rfl, by decide +kernel, by decide +kernel⟩
abbrev s_law : Stmt := topS 61
abbrev N_law : List Str := ["script", "stream", "program", "query", "goals", "k", "clause", "pick", "one", "two", "pair", "far", "table", "goal", "row", "due", "end", "given", "actual"]
theorem sc_law : FnScope N_law ["script"] (defScope s_law) := ⟨rfl, rfl, rfl, by decide +kernel, rfl, by decide +kernel, by decide +kernel⟩
/-- a def with defaults -/
def HasD (P : Program) (w : World) (K : PySem.W.Frag) (mg : Str → Option Value) (base : Heap) (k : Nat) (x : Str) (ps : List Str) (dvs : List V) (sp : Sp) : Prop :=
  ∃ (f : Addr) (fd : FuncData), FnOk P w K mg base CX0 k f fd ps sp ∧ mg x = some (.ref f) ∧ PySem.W.keepIn K (.ref f) = true ∧ (∃ ds, Vals dvs ds ∧ Binds K fd ps ds) ∧ ∃ ds, Vals ([] : List V) ds ∧ Binds K fd ps ds
def fs_Side (v_rest v_total v_counts : V) : List (Str × V) := [("rest", v_rest), ("total", v_total), ("counts", v_counts)]
theorem fs_Side_rest {v_rest v_total v_counts : V} : (fs_Side v_rest v_total v_counts).lookup ("rest" : Str) = some v_rest := lk_hit
theorem ps_Side_rest {v_rest v_total v_counts y : V} : putF "rest" y (fs_Side v_rest v_total v_counts) = fs_Side y v_total v_counts := pf_hit
theorem fs_Side_total {v_rest v_total v_counts : V} : (fs_Side v_rest v_total v_counts).lookup ("total" : Str) = some v_total := (lk_miss (by decide +kernel) lk_hit)
theorem ps_Side_total {v_rest v_total v_counts y : V} : putF "total" y (fs_Side v_rest v_total v_counts) = fs_Side v_rest y v_counts := (pf_miss (by decide +kernel) pf_hit)
theorem fs_Side_counts {v_rest v_total v_counts : V} : (fs_Side v_rest v_total v_counts).lookup ("counts" : Str) = some v_counts := (lk_miss (by decide +kernel) (lk_miss (by decide +kernel) lk_hit))
theorem ps_Side_counts {v_rest v_total v_counts y : V} : putF "counts" y (fs_Side v_rest v_total v_counts) = fs_Side v_rest v_total y := (pf_miss (by decide +kernel) (pf_miss (by decide +kernel) pf_hit))
theorem fs_Side_no_add_variables {v_rest v_total v_counts : V} : (fs_Side v_rest v_total v_counts).lookup ("add_variables" : Str) = Option.none := (lk_miss (by decide +kernel) (lk_miss (by decide +kernel) (lk_miss (by decide +kernel) lk_nil)))
theorem fs_Side_no_take {v_rest v_total v_counts : V} : (fs_Side v_rest v_total v_counts).lookup ("take" : Str) = Option.none := (lk_miss (by decide +kernel) (lk_miss (by decide +kernel) (lk_miss (by decide +kernel) lk_nil)))
theorem fs_Side_no_take_rest {v_rest v_total v_counts : V} : (fs_Side v_rest v_total v_counts).lookup ("take_rest" : Str) = Option.none := (lk_miss (by decide +kernel) (lk_miss (by decide +kernel) (lk_miss (by decide +kernel) lk_nil)))
theorem fs_Side_no_bind {v_rest v_total v_counts : V} : (fs_Side v_rest v_total v_counts).lookup ("bind" : Str) = Option.none := (lk_miss (by decide +kernel) (lk_miss (by decide +kernel) (lk_miss (by decide +kernel) lk_nil)))
theorem pi_Side_rest {v_rest v_total v_counts : V} : putF "rest" v_rest ([] : List (Str × V)) = ([("rest", v_rest)] : List (Str × V)) := pf_nil
theorem pi_Side_total {v_rest v_total v_counts : V} : putF "total" v_total ([("rest", v_rest)] : List (Str × V)) = ([("rest", v_rest), ("total", v_total)] : List (Str × V)) := (pf_miss (by decide +kernel) pf_nil)
theorem pi_Side_counts {v_rest v_total v_counts : V} : putF "counts" v_counts ([("rest", v_rest), ("total", v_total)] : List (Str × V)) = ([("rest", v_rest), ("total", v_total), ("counts", v_counts)] : List (Str × V)) := (pf_miss (by decide +kernel) (pf_miss (by decide +kernel) pf_nil))
/-- names that the top leaves to the built-ins, and its constants -/
structure Bi (K : PySem.W.Frag) (mg : Str → Option Value) : Prop where
  cl_Side : Cls K (clsA K "Side")
  nA_Side_rest : NoAttr K (clsA K "Side") "rest"
  nA_Side_total : NoAttr K (clsA K "Side") "total"
  nA_Side_counts : NoAttr K (clsA K "Side") "counts"
  x_TooLarge : Xc K mg "TooLarge" (clsA K "TooLarge")
  x_NotDefinite : Xc K mg "NotDefinite" (clsA K "NotDefinite")
  e_TooLarge_TooLarge : PySem.W.exmOne K (.ref (clsA K "TooLarge")) (.ref (clsA K "TooLarge")) = some true
  b_abs : mg "abs" = Option.none
  b_int : mg "int" = Option.none
  b_isinstance : mg "isinstance" = Option.none
  b_len : mg "len" = Option.none
  b_list : mg "list" = Option.none
  b_max : mg "max" = Option.none
  b_min : mg "min" = Option.none
  b_range : mg "range" = Option.none
  b_reversed : mg "reversed" = Option.none
  b_tuple : mg "tuple" = Option.none
  c_MOST_CLAUSE_NODES : GV mg "MOST_CLAUSE_NODES" (.int 200)
  c_TRUE : GC K mg "TRUE" (.tuple [.tuple [.str "f", .str "true", .int (0)]])
  c_CLAUSE_SYMBOL : GC K mg "CLAUSE_SYMBOL" (.tuple [.str "f", .str ":-", .int (2)])
  c_CONTROL : GC K mg "CONTROL" (.tuple [.tuple [.str "true", .int (0)], .tuple [.str "fail", .int (0)], .tuple [.str "!", .int (0)], .tuple [.str ",", .int (2)], .tuple [.str ";", .int (2)], .tuple [.str "->", .int (2)], .tuple [.str "\\+", .int (1)], .tuple [.str "call", .int (1)], .tuple [.str "call", .int (2)], .tuple [.str "call", .int (3)], .tuple [.str "call", .int (4)], .tuple [.str "call", .int (5)], .tuple [.str "call", .int (6)], .tuple [.str "call", .int (7)], .tuple [.str "call", .int (8)], .tuple [.str "catch", .int (3)], .tuple [.str "findall", .int (3)], .tuple [.str "throw", .int (1)]])
  c_BUILT_IN : GC K mg "BUILT_IN" (.tuple [.tuple [.str "=", .int (2)], .tuple [.str "\\=", .int (2)], .tuple [.str "==", .int (2)], .tuple [.str "\\==", .int (2)], .tuple [.str "@<", .int (2)], .tuple [.str "compare", .int (3)], .tuple [.str "var", .int (1)], .tuple [.str "nonvar", .int (1)], .tuple [.str "atom", .int (1)], .tuple [.str "integer", .int (1)], .tuple [.str "callable", .int (1)], .tuple [.str "functor", .int (3)], .tuple [.str "arg", .int (3)], .tuple [.str "=..", .int (2)], .tuple [.str "copy_term", .int (2)], .tuple [.str "sort", .int (2)], .tuple [.str "is", .int (2)], .tuple [.str "=:=", .int (2)], .tuple [.str "<", .int (2)], .tuple [.str "=<", .int (2)], .tuple [.str "write", .int (1)], .tuple [.str "nl", .int (0)], .tuple [.str "asserta", .int (1)], .tuple [.str "assertz", .int (1)], .tuple [.str "retract", .int (1)], .tuple [.str "tabled", .int (1)], .tuple [.str "solve", .int (2)]])
  c_CONJUNCTION : GC K mg "CONJUNCTION" (.tuple [.str "f", .str ",", .int (2)])
  c_MOST_NODES : GV mg "MOST_NODES" (.int 200)

/-! ### names, nodes, terms -/
def okSign (c : Nat) : Bool := decide (32 ≤ c) && decide (c ≤ 126) && !decide (c = 37)
def okName (x : Str) : Bool := decide (1 ≤ x.length) && decide (x.length ≤ 40) && x.cps.toList.all okSign
def names20 : List Str := ["a", "b", "f", "g", "hello", "[]", "+", "-", ",", "it's", "X", "a b", "{}", ".", "=", "'", "aB_1", "!", "0", "lvjkuwnd"]
def signs : Str := (Str.ofString " !\"#$&'()*+,-./0123456789:;<=>?@ABCDEFGHIJKLMNOPQRSTUVWXYZ[\\]^_`") ++ (Str.ofString "abcdefghijklmnopqrstuvwxyz{|}~")
theorem names20_ok : names20.all okName = true := by decide +kernel
theorem signs_ok : signs.cps.toList.all okSign = true := by decide +kernel
theorem signs_len : signs.length = 94 := by decide +kernel
theorem join_ones (e : Str) (he : e.cps = #[]) : ∀ cs : List Nat, (Str.join e (cs.map fun c => ⟨#[c]⟩)).cps.toList = cs
  | [] => rfl
  | [c] => rfl
  | c :: d :: r => by
    have ih := join_ones e he (d :: r)
    show ((⟨#[c]⟩ : Str) ++ e ++ Str.join e ((d :: r).map fun c => (⟨#[c]⟩ : Str))).cps.toList = c :: d :: r
    show (#[c] ++ e.cps ++ (Str.join e ((d :: r).map fun c => (⟨#[c]⟩ : Str))).cps).toList = c :: d :: r
    rw [he, Array.toList_append, ih]
    rfl
inductive Nd (wd : Int) : PyData → Prop
  | v (n : Int) : 0 ≤ n → n < wd → Nd wd (.tuple [.str "v", .int n])
  | i (n : Int) : -(10 ^ 40) < n → n < 10 ^ 40 → Nd wd (.int n)
  | f (x : Str) (n : Int) : okName x = true → 0 ≤ n → n ≤ 8 → Nd wd (.tuple [.str "f", .str x, .int n])
def arN : PyData → Nat
  | .tuple [_, _, c] => (match c with | .int n => n.toNat | _ => 0) | _ => 0
/-- from m missing terms on, the nodes are just these terms -/
def Cls : Nat → List PyData → Prop
  | m, [] => m = 0
  | m, d :: r => 0 < m ∧ Cls (m - 1 + arN d) r
structure Term (wd : Int) (ds : List PyData) : Prop where
  cl : Cls 1 ds
  nd : ∀ d ∈ ds, Nd wd d
/-! ### the promises -/
def sp__law_stream (K : PySem.W.Frag) : Sp := fun vs H Q _ => ∃ (a : Addr) (ns : List Int), vs = [.ref a] ∧ SqL K H a (ns.map V.int) ∧ ns.length ≤ 63 ∧ ∀ s l H', H s = Option.none → H l = Option.none → Same H H' → Stm H' s l → Q (.ref s) H'
def sp__law_draw (K : PySem.W.Frag) : Sp := fun vs H Q _ => ∃ (s l : Addr) (n : Int), vs = [.ref s, .int n] ∧ Stm H s l ∧ 0 < n ∧ n.natAbs < 2 ^ 9000 ∧ ∀ r H', 0 ≤ r → r < n → But s H H' → Stm H' s l → Q (.int r) H'
/-! ### nodes -/
def isSymN : PyData → Bool
  | .tuple [_, _, _] => true | _ => false
def NdA (d : PyData) : Prop := ∃ wd, Nd wd d
/-- how many nodes m terms take -/
def tk : Nat → List PyData → Nat
  | _, [] => 0
  | m, d :: r => if m = 0 then 0 else 1 + tk (m - 1 + arN d) r
theorem tk_zero (l : List PyData) : tk 0 l = 0 := by
  cases l with
  | nil => rfl
  | cons d r => exact if_pos rfl
theorem tk_cons {m : Nat} (h : 0 < m) (d : PyData) (r : List PyData) : tk m (d :: r) = 1 + tk (m - 1 + arN d) r := if_neg (by omega)
theorem arN_nsym {d : PyData} (h : isSymN d = false) : arN d = 0 := by
  cases d with
  | tuple ds =>
    rcases ds with _ | ⟨a, _ | ⟨b, _ | ⟨c, _ | ⟨e, r⟩⟩⟩⟩
    · rfl
    · rfl
    · rfl
    · cases h
    · rfl
  | _ => rfl
theorem tk_le : ∀ (l : List PyData) (m : Nat), tk m l ≤ l.length
  | [], _ => Nat.le_refl 0
  | d :: r, m => by
    by_cases h : m = 0
    · subst h; rw [tk_zero]; exact Nat.zero_le _
    · rw [tk_cons (by omega)]
      have := tk_le r (m - 1 + arN d)
      rw [List.length_cons]
      omega
theorem tk_add : ∀ (l : List PyData) (j m : Nat), tk (j + m) l = tk j l + tk m (l.drop (tk j l))
  | [], j, m => by simp [tk]
  | d :: r, j, m => by
    by_cases h : j = 0
    · subst h
      rw [tk_zero, Nat.zero_add, Nat.zero_add, List.drop_zero]
    · rw [tk_cons (by omega), tk_cons (m := j) (by omega), show j + m - 1 + arN d = (j - 1 + arN d) + m by omega, tk_add r (j - 1 + arN d) m]
      rw [show 1 + tk (j - 1 + arN d) r = tk (j - 1 + arN d) r + 1 by omega, List.drop_succ_cons]
      omega
/-- the rest of what is closed is closed -/
theorem cls_drop : ∀ (l : List PyData) (k j : Nat), Cls k l → j ≤ k → Cls (k - j) (l.drop (tk j l))
  | [], k, j, h, hj => by
    have hk : k = 0 := h
    rw [List.drop_nil]
    show k - j = 0
    omega
  | d :: r, k, j, h, hj => by
    by_cases z : j = 0
    · subst z
      rw [tk_zero]
      exact h
    · rw [tk_cons (by omega), show 1 + tk (j - 1 + arN d) r = tk (j - 1 + arN d) r + 1 by omega, List.drop_succ_cons]
      have := cls_drop r (k - 1 + arN d) (j - 1 + arN d) h.2 (by omega)
      rwa [show k - 1 + arN d - (j - 1 + arN d) = k - j by omega] at this
theorem cls_take : ∀ (l : List PyData) (k j : Nat), Cls k l → j ≤ k → Cls j (l.take (tk j l))
  | [], k, j, h, hj => by
    have hk : k = 0 := h
    rw [List.take_nil]
    show j = 0
    omega
  | d :: r, k, j, h, hj => by
    by_cases z : j = 0
    · subst z
      rw [tk_zero]
      rfl
    · rw [tk_cons (by omega), show 1 + tk (j - 1 + arN d) r = tk (j - 1 + arN d) r + 1 by omega, List.take_succ_cons]
      exact ⟨by omega, cls_take r (k - 1 + arN d) (j - 1 + arN d) h.2 (by omega)⟩
theorem tk_take : ∀ (l : List PyData) (i j : Nat), i ≤ j → tk i (l.take (tk j l)) = tk i l
  | [], i, j, _ => by rw [List.take_nil]
  | d :: r, i, j, h => by
    by_cases z : i = 0
    · subst z
      rw [tk_zero, tk_zero]
    · rw [tk_cons (m := j) (by omega), show 1 + tk (j - 1 + arN d) r = tk (j - 1 + arN d) r + 1 by omega, List.take_succ_cons, tk_cons (by omega), tk_cons (by omega), tk_take r _ _ (by omega)]
theorem take_full : ∀ (l : List PyData) (k : Nat), Cls k l → l.take (tk k l) = l
  | [], _, _ => List.take_nil
  | d :: r, k, h => by
    rw [tk_cons h.1, show 1 + tk (k - 1 + arN d) r = tk (k - 1 + arN d) r + 1 by omega, List.take_succ_cons, take_full r _ h.2]
theorem cls_map : ∀ (ds es : List PyData) (m : Nat), es.map arN = ds.map arN → Cls m ds → Cls m es
  | [], [], m, _, h => h
  | [], e :: es, m, h, _ => by cases h
  | d :: ds, [], m, h, _ => by cases h
  | d :: ds, e :: es, m, h, hc => by
    rw [List.map_cons, List.map_cons] at h
    obtain ⟨h1, h2⟩ := List.cons.inj h
    exact ⟨hc.1, by rw [h1]; exact cls_map ds es _ h2 hc.2⟩
/-! ### nodes can be compared -/
theorem okName_cps {x : Str} (h : okName x = true) : PyData.strOk x = true := by
  unfold okName at h
  rw [Bool.and_eq_true] at h
  unfold PyData.strOk
  rw [← Array.all_toList]
  refine List.all_eq_true.mpr fun c hc => ?_
  have := List.all_eq_true.mp h.2 c hc
  unfold okSign at this
  simp only [Bool.and_eq_true, decide_eq_true_eq] at this
  exact decide_eq_true (by omega)
theorem nd_lay {d : PyData} (h : NdA d) : d.canLay0 = true ∧ d.depth ≤ 1 ∧ d.eqv d = true := by
  obtain ⟨wd, h⟩ := h
  cases h with
  | v n _ _ => exact ⟨by simp only [PyData.canLay0, PyData.canLayAll0]; decide +kernel, by simp [PyData.depth, PyData.depthAll], by simp only [PyData.eqv, PyData.eqvAll, beq_self_eq_true, Bool.and_self]⟩
  | i n _ _ => exact ⟨by simp only [PyData.canLay0], by simp [PyData.depth], by simp only [PyData.eqv, beq_self_eq_true]⟩
  | f x n hx _ _ => exact ⟨by simp only [PyData.canLay0, PyData.canLayAll0]; rw [okName_cps hx]; decide +kernel, by simp [PyData.depth, PyData.depthAll], by simp only [PyData.eqv, PyData.eqvAll, beq_self_eq_true, Bool.and_self]⟩
theorem nds_lay : ∀ {ds : List PyData}, (∀ d ∈ ds, NdA d) → PyData.canLayAll0 ds = true ∧ PyData.depthAll ds ≤ 1 ∧ PyData.eqvAll ds ds = true
  | [], _ => ⟨by simp only [PyData.canLayAll0], by simp [PyData.depthAll], by simp only [PyData.eqvAll]⟩
  | d :: r, h => by
    obtain ⟨a1, a2, a3⟩ := nd_lay (h d List.mem_cons_self)
    obtain ⟨b1, b2, b3⟩ := nds_lay (ds := r) fun e he => h e (List.mem_cons_of_mem _ he)
    refine ⟨by simp only [PyData.canLayAll0, a1, b1, Bool.and_self], ?_, by simp only [PyData.eqvAll, a3, b3, Bool.and_self]⟩
    simp only [PyData.depthAll]
    omega
theorem nd_shaped {d : PyData} (h : NdA d) : SeqAt.shaped d = true := by
  obtain ⟨a1, a2, _⟩ := nd_lay h
  show (d.canLay0 && decide (d.depth ≤ 64)) = true
  rw [a1, decide_eq_true (by omega)]
  rfl
theorem tup_shaped {ds : List PyData} (h : ∀ d ∈ ds, NdA d) : SeqAt.shaped (.tuple ds) = true := by
  obtain ⟨a1, a2, _⟩ := nds_lay h
  have hd : (PyData.tuple ds).depth ≤ 64 := by
    simp only [PyData.depth]
    omega
  have hc : (PyData.tuple ds).canLay0 = true := by
    simp only [PyData.canLay0]
    exact a1
  show ((PyData.tuple ds).canLay0 && decide ((PyData.tuple ds).depth ≤ 64)) = true
  rw [hc, decide_eq_true hd]
  rfl
theorem tup_eqv {ds : List PyData} (h : ∀ d ∈ ds, NdA d) : PyData.eqv (.tuple ds) (.tuple ds) = true := by
  simp only [PyData.eqv]
  exact (nds_lay h).2.2
/-- name = {k: v for ..} on one line, the name a local -/
theorem ps_setDc {X : Cx} {i : Nat} {y : Str} {py : Pos} {kx vx tg iter : Expr} {ifs : List Expr} {scope : Scope} {own : List (Str × Nat)} {pos spos : Pos} {wi : TI} {g : TG} {tt : TT} {tk tv : TE} (c1 : X.calm = true) (c2 : X.N.Nodup) (c3 : X.N[i]? = some y) (c4 : X.env.scope.names.lookup y = some .local)
    (c5 : swapsWith (.DictComp kx vx [⟨tg, iter, ifs, 0⟩] scope pos) (some (.Name y py)) spos.line X.env = pure true) (c6 : PI X tg iter wi) (c7 : BlkOk X.N X.env.scope scope own)
    (c8 : ∀ (z : Shared) (H : Hp) (C : Addr) (cl : List (Str × Addr)) (fp : List Addr), PG (X.blk z H scope (compEnvC scope cl C X.env) fp) tg g) (c9 : ∀ (z : Shared) (H : Hp) (C : Addr) (cl : List (Str × Addr)) (fp : List Addr), PTs (X.blk z H scope (compEnvC scope cl C X.env) fp) ifs tt)
    (d1 : ∀ (z : Shared) (H : Hp) (C : Addr) (cl : List (Str × Addr)) (fp : List Addr), PE (X.blk z H scope (compEnvC scope cl C X.env) fp) kx tk)
    (d2 : ∀ (z : Shared) (H : Hp) (C : Addr) (cl : List (Str × Addr)) (fp : List Addr), PE (X.blk z H scope (compEnvC scope cl C X.env) fp) vx tv) (d3 : ∀ x, foldedSetIterable iter X.env x = pure x := by intro _; rfl) :
    PS X (.Assign [.Name y py] (.DictComp kx vx [⟨tg, iter, ifs, 0⟩] scope pos) spos) (tAsg (tDc wi g tt tk tv (own.map (·.2))) (gName i)) := by
  refine ⟨fun pins st0 σ H D inv hyp => ?_⟩
  have hyp' : tDc wi g tt tk tv (own.map (·.2)) σ H (fun v Hq => gName i v σ Hq D.nx) := hyp
  rw [exec_Assign_Name_used _ _ _ _ c5]
  refine wpAny_bind <| wpAny_standAt <| wpAny_bind ?_
  show wpAny _ X.A (do let _ ← comprehension (.DictComp kx vx [⟨tg, iter, ifs, 0⟩] scope pos) scope X.env (firstIterPos [⟨tg, iter, ifs, 0⟩] pos) newDict false (eval iter X.env) (some (assign (.Name y py) X.env))) _ _ st0
  have core := dc_core (Qf := fun _ fin => SP X pins D .next fin) (pos := pos) (pos' := firstIterPos [⟨tg, iter, ifs, 0⟩] pos) (use := some (assign (.Name y py) X.env)) c1 c2 inv c6 c7 c8 c9 d1 d2 d3 hyp' fun L C fin mm Hf inv' qf nsC fp => by
    show wpAny _ _ (assign (.Name y py) X.env (.ref L)) _ _ _
    obtain ⟨e0, e1, e2, e3, e4, e5⟩ := fp
    refine wpAny_assign_Name (store_ok2 (v := V.ref L) inv' c2 c3 (.inl c4) rfl (fun fin2 inv2 ⟨w, same, hw⟩ => ?_) (.inr c4))
    have cw : C ≠ w := by
      intro z
      cases hw with
      | inl hw => exact e1 (z.trans hw)
      | inr hw => exact e4 y w hw z.symm
    exact ⟨mm, nsC.sameBut same cw, fun h3 sb3 => ⟨_, Hf, inv2.turned (t' := fin2.toks) (fun b o hb e => (sb3.2 b hb).trans e) e0 e1 e3 e4 e5, qf⟩⟩
  exact wpAny_bind (thn core fun _ fin hq => wpAny_pure (wpAny_pure hq))
theorem seq_via {t u : TS} {D : Ends} {σ : L2.St} {H : Hp} (P : L2.St → Hp → Prop) (hu : ∀ σ H, P σ H → u D σ H) (ht : (∀ σ H, P σ H → u D σ H) → t { D with nx := u D } σ H) : tSeq t u D σ H := ht hu
def isVarN : PyData → Bool
  | .tuple [_, _] => true | _ => false
def numN : PyData → Int
  | .tuple [_, .int n] => n | _ => 0
theorem var_arN {d : PyData} (h : isVarN d = true) : arN d = 0 := by
  cases d with
  | tuple ds =>
    rcases ds with _ | ⟨a, _ | ⟨b, _ | ⟨c, r⟩⟩⟩
    · rfl
    · rfl
    · rfl
    · cases h
  | _ => rfl
theorem nd_eq {d e : PyData} (h : NdA d) (h2 : NdA e) (q : PyData.eqv d e = true) : d = e := by
  obtain ⟨wd, h⟩ := h
  obtain ⟨we, h2⟩ := h2
  cases h with
  | v n _ _ =>
    cases h2 with
    | v m _ _ =>
      simp only [PyData.eqv, PyData.eqvAll, Bool.and_eq_true, beq_iff_eq] at q
      rw [q.2.1]
    | i m _ _ => simp [PyData.eqv] at q
    | f x m _ _ _ => simp [PyData.eqv, PyData.eqvAll] at q
  | i n _ _ =>
    cases h2 with
    | v m _ _ => simp [PyData.eqv] at q
    | i m _ _ =>
      simp only [PyData.eqv, beq_iff_eq] at q
      rw [q]
    | f x m _ _ _ => simp [PyData.eqv] at q
  | f x n _ _ _ =>
    cases h2 with
    | v m _ _ => simp [PyData.eqv, PyData.eqvAll] at q
    | i m _ _ => simp [PyData.eqv] at q
    | f y m _ _ _ =>
      simp only [PyData.eqv, PyData.eqvAll, Bool.and_eq_true, beq_iff_eq] at q
      rw [q.2.1, q.2.2.1]
theorem nds_eq : ∀ {ds es : List PyData}, (∀ d ∈ ds, NdA d) → (∀ e ∈ es, NdA e) → PyData.eqvAll ds es = true → ds = es
  | [], [], _, _, _ => rfl
  | [], _ :: _, _, _, h => by simp [PyData.eqvAll] at h
  | _ :: _, [], _, _, h => by simp [PyData.eqvAll] at h
  | d :: ds, e :: es, h1, h2, h => by
    simp only [PyData.eqvAll, Bool.and_eq_true] at h
    rw [nd_eq (h1 d List.mem_cons_self) (h2 e List.mem_cons_self) h.1, nds_eq (fun x hx => h1 x (List.mem_cons_of_mem _ hx)) (fun x hx => h2 x (List.mem_cons_of_mem _ hx)) h.2]
theorem tup_eq {ds es : List PyData} (h1 : ∀ d ∈ ds, NdA d) (h2 : ∀ e ∈ es, NdA e) (h : PyData.eqv (.tuple ds) (.tuple es) = true) : ds = es := by
  simp only [PyData.eqv] at h
  exact nds_eq h1 h2 h
theorem cls_app : ∀ (l r : List PyData) (j k : Nat), Cls j l → Cls k r → Cls (j + k) (l ++ r)
  | [], r, j, k, h, h2 => by
    have e : j = 0 := h
    rw [e, Nat.zero_add]
    exact h2
  | d :: l, r, j, k, h, h2 => by
    refine ⟨by have := h.1; omega, ?_⟩
    have := cls_app l r (j - 1 + arN d) k h.2 h2
    have e := h.1
    rwa [show j - 1 + arN d + k = j + k - 1 + arN d by omega] at this
/-- at each place of what is closed so many terms are missing -/
theorem cls_split : ∀ (ds : List PyData) (m i : Nat), Cls m ds → i ≤ ds.length → ∃ k, Cls k (ds.drop i) ∧ ∀ t, Cls k t → Cls m (ds.take i ++ t)
  | ds, m, 0, h, _ => ⟨m, h, fun t ht => ht⟩
  | [], m, i + 1, h, hi => absurd hi (by simp)
  | d :: ds, m, i + 1, h, hi => by
    obtain ⟨k, h1, h2⟩ := cls_split ds (m - 1 + arN d) i h.2 (by simpa using hi)
    exact ⟨k, h1, fun t ht => ⟨h.1, h2 t ht⟩⟩
abbrev Tab := List (Int × List PyData)
def valT (t : Tab) (n : Int) : Option (List PyData) := (t.find? fun p => decide (p.1 = n)).map (·.2)
/-- a dict with this table -/
def TabK (K : PySem.W.Frag) (H : Hp) : List (Key × V) → Tab → Prop
  | [], [] => True
  | p :: kvs, q :: t => p.1 = Sum.inl q.1 ∧ Dp K H p.2 (.tuple q.2) ∧ TabK K H kvs t
  | _, _ => False
def TabN (t : Tab) : Prop := ∀ p ∈ t, (∀ d ∈ p.2, NdA d)
theorem TabK.len {K : PySem.W.Frag} {H : Hp} : ∀ {kvs : List (Key × V)} {t : Tab}, TabK K H kvs t → kvs.length = t.length
  | [], [], _ => rfl
  | [], _ :: _, h => h.elim
  | _ :: _, [], h => h.elim
  | p :: kvs, q :: t, h => congrArg (· + 1) (TabK.len h.2.2)
theorem TabK.mono {K : PySem.W.Frag} {H H' : Hp} (f : ∀ v ds, (∀ d ∈ ds, NdA d) → Dp K H v (.tuple ds) → Dp K H' v (.tuple ds)) : ∀ {kvs : List (Key × V)} {t : Tab}, TabN t → TabK K H kvs t → TabK K H' kvs t
  | [], [], _, _ => True.intro
  | [], _ :: _, _, h => h.elim
  | _ :: _, [], _, h => h.elim
  | p :: kvs, q :: t, n, h => ⟨h.1, f _ _ (n q List.mem_cons_self) h.2.1, TabK.mono f (fun x hx => n x (List.mem_cons_of_mem _ hx)) h.2.2⟩
theorem TabK.val {K : PySem.W.Frag} {H : Hp} (n : Int) : ∀ {kvs : List (Key × V)} {t : Tab}, TabK K H kvs t → (valV kvs (Sum.inl n) = none ∧ valT t n = none) ∨ ∃ v ds, valV kvs (Sum.inl n) = some v ∧ valT t n = some ds ∧ Dp K H v (.tuple ds)
  | [], [], _ => .inl ⟨rfl, rfl⟩
  | [], _ :: _, h => h.elim
  | _ :: _, [], h => h.elim
  | p :: kvs, q :: t, h => by
    by_cases e : q.1 = n
    · refine .inr ⟨p.2, q.2, valV_pos (by rw [h.1, e]), ?_, h.2.1⟩
      unfold valT
      rw [List.find?_cons, decide_eq_true e]
      rfl
    · have e1 : ¬ p.1 = Sum.inl n := fun z => e (Sum.inl.inj (h.1.symm.trans z))
      have e2 : valT (q :: t) n = valT t n := by
        unfold valT
        rw [List.find?_cons, decide_eq_false e]
      rw [valV_neg e1, e2]
      exact TabK.val n h.2.2
theorem TabK.snoc {K : PySem.W.Frag} {H : Hp} {n : Int} {v : V} {ds : List PyData} (hd : Dp K H v (.tuple ds)) : ∀ {kvs : List (Key × V)} {t : Tab}, TabK K H kvs t → TabK K H (kvs ++ [(Sum.inl n, v)]) (t ++ [(n, ds)])
  | [], [], _ => ⟨rfl, hd, True.intro⟩
  | [], _ :: _, h => h.elim
  | _ :: _, [], h => h.elim
  | p :: kvs, q :: t, h => ⟨h.1, h.2.1, TabK.snoc hd h.2.2⟩
theorem valT_snoc (t : Tab) (n m : Int) (ds : List PyData) (h : valT t n = none) : valT (t ++ [(n, ds)]) m = if m = n then some ds else valT t m := by
  unfold valT at *
  rw [List.find?_append]
  cases e : t.find? fun p => decide (p.1 = m) with
  | some p =>
    have hm : ¬ m = n := fun z => by rw [z] at e; rw [e] at h; cases h
    rw [if_neg hm]
    rfl
  | none =>
    by_cases hm : m = n
    · rw [if_pos hm, Option.none_or]
      rw [List.find?_cons, decide_eq_true hm.symm]
      rfl
    · rw [if_neg hm, Option.none_or]
      rw [List.find?_cons, decide_eq_false (fun z => hm z.symm)]
      rfl
theorem valT_none {t : Tab} {n : Int} (h : valT t n = none) : ∀ q ∈ t, q.1 ≠ n := by
  intro q hq e
  unfold valT at h
  rw [Option.map_eq_none_iff, List.find?_eq_none] at h
  exact h q hq (decide_eq_true e)
mutual
def noL : PyData → Bool
  | .none => true
  | .bool _ => true
  | .int _ => true
  | .str _ => true
  | .tuple ds => noLA ds
  | .list _ => false
  | .dict _ => false
def noLA : List PyData → Bool
  | [] => true
  | d :: ds => noL d && noLA ds
end
def notTup (H : Hp) (p : Addr) : Prop := (∃ ys, H p = some (.lst ys)) ∨ (∃ kvs, H p = some (.dK kvs)) ∨ ∃ o kvs, H p = some (.frz o (.dK kvs))
theorem sqT_put {K : PySem.W.Frag} {H : Hp} {p b : Addr} {o : HO} {xs : List V} (hp : notTup H p) (h : SqT K H b xs) : SqT K (upd H p o) b xs := by
  rcases h with (h | ⟨q, h⟩) | h
  · exact .inl (.inl (by rw [upd_ne (fun z => by rw [z] at h; rcases hp with ⟨_, hp⟩ | ⟨_, hp⟩ | ⟨_, _, hp⟩ <;> (rw [hp] at h; cases h))]; exact h))
  · exact .inl (.inr ⟨q, by rw [upd_ne (fun z => by rw [z] at h; rcases hp with ⟨_, hp⟩ | ⟨_, hp⟩ | ⟨_, _, hp⟩ <;> (rw [hp] at h; cases h))]; exact h⟩)
  · exact .inr h
section
variable {K : PySem.W.Frag} {H : Hp} {p : Addr} {o : HO}
mutual
theorem dp_put (hp : notTup H p) : ∀ (d : PyData) (v : V), noL d = true → Dp K H v d → Dp K (upd H p o) v d
  | .none, _, _, h => by cases h; exact .non
  | .bool b, _, _, h => by cases h; exact .bl b
  | .int i, _, _, h => by cases h; exact .int i
  | .str x, _, _, h => by cases h; exact .str x
  | .list ds, _, n, h => by simp [noL] at n
  | .tuple ds, _, n, h => by
    cases h with
    | tup g ha => exact .tup (sqT_put hp g) (dp_putAll hp ds _ (by simpa [noL] using n) ha)
  | .dict _, _, n, h => by cases h
theorem dp_putAll (hp : notTup H p) : ∀ (ds : List PyData) (vs : List V), noLA ds = true → DpAll K H vs ds → DpAll K (upd H p o) vs ds
  | [], _, _, h => by cases h; exact .nil
  | d :: ds, _, n, h => by
    rw [noLA, Bool.and_eq_true] at n
    cases h with
    | cons h1 h2 => exact .cons (dp_put hp d _ n.1 h1) (dp_putAll hp ds _ n.2 h2)
end
end
theorem nd_noL {d : PyData} (h : NdA d) : noL d = true := by
  obtain ⟨wd, h⟩ := h
  cases h <;> simp [noL, noLA]
theorem nds_noL : ∀ {ds : List PyData}, (∀ d ∈ ds, NdA d) → noLA ds = true
  | [], _ => by simp [noLA]
  | d :: r, h => by rw [noLA, nd_noL (h d List.mem_cons_self), nds_noL fun e he => h e (List.mem_cons_of_mem _ he)]; rfl
theorem tup_noL {ds : List PyData} (h : ∀ d ∈ ds, NdA d) : noL (.tuple ds) = true := by rw [noL]; exact nds_noL h
theorem tab_put {K : PySem.W.Frag} {H : Hp} {p : Addr} {o : HO} {kvs : List (Key × V)} {t : Tab} (hp : notTup H p) (n : TabN t) (h : TabK K H kvs t) : TabK K (upd H p o) kvs t := TabK.mono (fun v ds hn hd => dp_put hp _ _ (tup_noL hn) hd) n h
theorem tab_same {K : PySem.W.Frag} {H H' : Hp} {kvs : List (Key × V)} {t : Tab} (s : Same H H') (n : TabN t) (h : TabK K H kvs t) : TabK K H' kvs t := TabK.mono (fun v ds _ hd => dp_same s _ _ hd) n h
section
variable {K : PySem.W.Frag} {H H' : Hp}
mutual
theorem dp_map (f : ∀ b xs, SqT K H b xs → SqT K H' b xs) : ∀ (d : PyData) (v : V), noL d = true → Dp K H v d → Dp K H' v d
  | .none, _, _, h => by cases h; exact .non
  | .bool b, _, _, h => by cases h; exact .bl b
  | .int i, _, _, h => by cases h; exact .int i
  | .str x, _, _, h => by cases h; exact .str x
  | .list ds, _, n, h => by simp [noL] at n
  | .tuple ds, _, n, h => by
    cases h with
    | tup g ha => exact .tup (f _ _ g) (dp_mapAll f ds _ (by simpa [noL] using n) ha)
  | .dict _, _, n, h => by cases h
theorem dp_mapAll (f : ∀ b xs, SqT K H b xs → SqT K H' b xs) : ∀ (ds : List PyData) (vs : List V), noLA ds = true → DpAll K H vs ds → DpAll K H' vs ds
  | [], _, _, h => by cases h; exact .nil
  | d :: ds, _, n, h => by
    rw [noLA, Bool.and_eq_true] at n
    cases h with
    | cons h1 h2 => exact .cons (dp_map f d _ n.1 h1) (dp_mapAll f ds _ n.2 h2)
end
theorem sqT_but {p b : Addr} {xs : List V} (hp : notTup H p) (hb : But p H H') (h : SqT K H b xs) : SqT K H' b xs := by
  rcases h with (h | ⟨q, h⟩) | h
  · exact .inl (.inl (hb _ _ (fun z => by rw [z] at h; rcases hp with ⟨_, hp⟩ | ⟨_, hp⟩ | ⟨_, _, hp⟩ <;> (rw [hp] at h; cases h)) h))
  · exact .inl (.inr ⟨q, hb _ _ (fun z => by rw [z] at h; rcases hp with ⟨_, hp⟩ | ⟨_, hp⟩ | ⟨_, _, hp⟩ <;> (rw [hp] at h; cases h)) h⟩)
  · exact .inr h
/-- draws change the stream alone -/
theorem dp_but {s l : Addr} {v : V} {ds : List PyData} (S : Stm H s l) (b : But s H H') (n : ∀ d ∈ ds, NdA d) (h : Dp K H v (.tuple ds)) : Dp K H' v (.tuple ds) := by
  obtain ⟨x, y, m, ns, e, _⟩ := S.ex
  exact dp_map (fun c xs g => sqT_but (.inl ⟨_, e⟩) b g) _ _ (tup_noL n) h
end
theorem TabK.rep {K : PySem.W.Frag} {H : Hp} {n : Int} {v : V} {ds : List PyData} (hd : Dp K H v (.tuple ds)) : ∀ {kvs : List (Key × V)} {t : Tab}, TabK K H kvs t → TabK K H (kvs.map fun kv => if kv.1 = Sum.inl n then (kv.1, v) else kv) (t.map fun q => if q.1 = n then (q.1, ds) else q)
  | [], [], _ => True.intro
  | [], _ :: _, h => h.elim
  | _ :: _, [], h => h.elim
  | p :: kvs, q :: t, h => by
    have i : p.1 = Sum.inl n ↔ q.1 = n := by rw [h.1]; exact ⟨fun z => Sum.inl.inj z, fun z => congrArg _ z⟩
    refine ⟨?_, ?_, TabK.rep hd h.2.2⟩
    · by_cases e : q.1 = n
      · simp only [if_pos e, if_pos (i.mpr e)]; exact h.1
      · simp only [if_neg e, if_neg (fun z => e (i.mp z))]; exact h.1
    · by_cases e : q.1 = n
      · simp only [if_pos e, if_pos (i.mpr e)]; exact hd
      · simp only [if_neg e, if_neg (fun z => e (i.mp z))]; exact h.2.1
theorem TabK.put {K : PySem.W.Frag} {H : Hp} {n : Int} {v : V} {ds : List PyData} (hd : Dp K H v (.tuple ds)) {kvs : List (Key × V)} {t : Tab} (h : TabK K H kvs t) : ∃ t', TabK K H (putK kvs (Sum.inl n) v) t' ∧ (∀ q ∈ t', q ∈ t ∨ q.2 = ds) ∧ t'.length ≤ t.length + 1 := by
  unfold putK
  split
  · refine ⟨_, TabK.rep hd h, fun q hq => ?_, by rw [List.length_map]; exact Nat.le_succ _⟩
    obtain ⟨q', h1, h2⟩ := List.mem_map.mp hq
    split at h2
    · right; rw [← h2]
    · left; rw [← h2]; exact h1
  · refine ⟨_, TabK.snoc hd h, fun q hq => ?_, by rw [List.length_append]; exact Nat.le_refl _⟩
    rcases List.mem_append.mp hq with z | z
    · exact .inl z
    · right; rw [List.mem_singleton.mp z]
theorem TabK.at_ {K : PySem.W.Frag} {H : Hp} : ∀ {kvs : List (Key × V)} {t : Tab} {i : Nat} {k : Key} {v : V}, TabK K H kvs t → kvs[i]? = some (k, v) → ∃ q, q ∈ t ∧ k = Sum.inl q.1
  | [], [], i, k, v, _, h => by simp at h
  | [], _ :: _, _, _, _, h, _ => h.elim
  | _ :: _, [], _, _, _, h, _ => h.elim
  | p :: kvs, q :: t, 0, k, v, h, e => by
    rw [List.getElem?_cons_zero] at e
    cases e
    exact ⟨q, List.mem_cons_self, h.1⟩
  | p :: kvs, q :: t, i + 1, k, v, h, e => by
    rw [List.getElem?_cons_succ] at e
    obtain ⟨q', h1, h2⟩ := TabK.at_ h.2.2 e
    exact ⟨q', List.mem_cons_of_mem _ h1, h2⟩
theorem valT_of {t : Tab} {q : Int × List PyData} (h : q ∈ t) : ∃ ds, valT t q.1 = some ds := by
  cases e : valT t q.1 with
  | some ds => exact ⟨ds, rfl⟩
  | none => exact absurd rfl (valT_none e q h)
theorem putK_old {kvs : List (Key × V)} {k : Key} {v w : V} (h : valV kvs k = some w) : putK kvs k v = kvs.map fun kv => if kv.1 = k then (kv.1, v) else kv := by
  unfold putK
  rw [if_pos (by rw [valV_any, h]; rfl)]
theorem valT_mem {t : Tab} {n : Int} {ds : List PyData} (h : valT t n = some ds) : ∃ q ∈ t, q.2 = ds := by
  unfold valT at h
  cases e : t.find? fun p => decide (p.1 = n) with
  | none => rw [e] at h; cases h
  | some p =>
    rw [e] at h
    exact ⟨p, List.mem_of_find?_eq_some e, Option.some.inj h⟩
/-- a dict comprehension over what is walked -/
theorem dc_it {J : It} {n : Nat} {G : Hp → Prop} {Y : Nat → Hp → V → Hp → Prop} (wk : Walk J n G Y) {g : TG} {tt : TT} {tk tv : TE} {vs : List Nat} {σ : L2.St} {H1 : Hp} {D : Addr} {Qd : Hp → Prop} (Pv : Nat → Hp → Prop) (p0 : Pv 0 (upd H1 D (.dK []))) (pG : ∀ i H, i ≤ n → Pv i H → G H)
    (turn : ∀ i x H H', i < n → Pv i H → Y i H x H' → g x (wipe σ vs) H' fun σ2 H2 => wipe σ2 vs = wipe σ vs ∧ tt σ2 H2 fun b H3 =>
      if b = true then tk σ2 H3 fun y H4 => tv σ2 H4 fun z H5 => ∃ kvs k, y = kV k ∧ H5 D = some (.dK kvs) ∧ kvs.length < sizeLine ∧ Pv (i + 1) (upd H5 D (.dK (putK kvs k z))) else Pv (i + 1) H3) (pd : ∀ H, Pv n H → Qd H) :
    ∃ W : Nat → Nat → Hp → Prop, (∃ m, W 0 m (upd H1 D (.dK []))) ∧ ∀ i m H, W i m H →
      (J.stop i H ∧ Qd H) ∨ (J.go i H ∧ ∃ Nx : Hp → Prop, (∀ H', Nx H' → ∃ m', m' < m ∧ W (i + 1) m' H') ∧ ∀ x H', J.yld i H x H' → g x (wipe σ vs) H' fun σ2 H2 => wipe σ2 vs = wipe σ vs ∧ tt σ2 H2 fun b H3 =>
        if b = true then tk σ2 H3 fun y H4 => tv σ2 H4 fun z H5 => ∃ kvs k, y = kV k ∧ H5 D = some (.dK kvs) ∧ kvs.length < sizeLine ∧ Nx (upd H5 D (.dK (putK kvs k z))) else Nx H3) := by
  refine ⟨fun i m H => m = n - i ∧ i ≤ n ∧ Pv i H, ⟨n, by simp, Nat.zero_le _, p0⟩, ?_⟩
  rintro i m H ⟨rfl, hi, hp⟩
  have hg := pG i H hi hp
  rcases Nat.lt_or_ge i n with hlt | hge
  · exact .inr ⟨wk.goes i H hlt hg, Pv (i + 1), fun σ' p' => ⟨n - (i + 1), by omega, rfl, hlt, p'⟩, fun x H' y => turn i x H H' hlt hp (wk.yields i H x H' hlt hg y)⟩
  · obtain rfl : i = n := by omega
    exact .inl ⟨wk.stops H hg, pd H hp⟩
theorem TabK.get {K : PySem.W.Frag} {H : Hp} : ∀ {kvs : List (Key × V)} {t : Tab} {i : Nat} {kv : Key × V}, TabK K H kvs t → kvs[i]? = some kv → ∃ q, t[i]? = some q ∧ kv.1 = Sum.inl q.1 ∧ Dp K H kv.2 (.tuple q.2)
  | [], [], i, kv, _, h => by simp at h
  | [], _ :: _, _, _, h, _ => h.elim
  | _ :: _, [], _, _, h, _ => h.elim
  | p :: kvs, q :: t, 0, kv, h, e => by
    rw [List.getElem?_cons_zero] at e
    cases e
    exact ⟨q, rfl, h.1, h.2.1⟩
  | p :: kvs, q :: t, i + 1, kv, h, e => by
    rw [List.getElem?_cons_succ] at e
    obtain ⟨q', h1, h2⟩ := TabK.get h.2.2 e
    exact ⟨q', by rw [List.getElem?_cons_succ]; exact h1, h2⟩
theorem valT_notin {t : Tab} {n : Int} (h : n ∉ t.map (·.1)) : valT t n = none := by
  unfold valT
  rw [Option.map_eq_none_iff, List.find?_eq_none]
  exact fun q hq e => h (List.mem_map.mpr ⟨q, hq, of_decide_eq_true e⟩)
theorem TabK.none {K : PySem.W.Frag} {H : Hp} {kvs : List (Key × V)} {t : Tab} {n : Int} (T : TabK K H kvs t) (h : n ∉ t.map (·.1)) : valV kvs (Sum.inl n) = Option.none := by
  rcases TabK.val n T with ⟨w, _⟩ | ⟨v, ds, _, w, _⟩
  · exact w
  · rw [valT_notin h] at w; cases w
theorem TabK.some {K : PySem.W.Frag} {H : Hp} {kvs : List (Key × V)} {t : Tab} {n : Int} (T : TabK K H kvs t) (h : n ∈ t.map (·.1)) : (valV kvs (Sum.inl n)).isSome = true := by
  obtain ⟨q, hq, rfl⟩ := List.mem_map.mp h
  rcases TabK.val q.1 T with ⟨_, w⟩ | ⟨v, ds, w, _, _⟩
  · exact absurd rfl (valT_none w q hq)
  · rw [w]; rfl
/-- a key that is new goes to the end -/
theorem TabK.add {K : PySem.W.Frag} {H : Hp} {kvs : List (Key × V)} {t : Tab} {n : Int} {v : V} {ds : List PyData} (T : TabK K H kvs t) (h : n ∉ t.map (·.1)) (hd : Dp K H v (.tuple ds)) : TabK K H (putK kvs (Sum.inl n) v) (t ++ [(n, ds)]) := by
  rw [putK_new _ (T.none h)]
  exact TabK.snoc hd T
/-- the i-th key is none of those before -/
theorem nodup_new {t : Tab} {i : Nat} {q : Int × List PyData} (h : (t.map (·.1)).Nodup) (hq : t[i]? = some q) : q.1 ∉ (t.take i).map (·.1) := by
  intro hm
  obtain ⟨x, hx, e⟩ := List.mem_map.mp hm
  obtain ⟨j, hj⟩ := List.getElem?_of_mem hx
  have hji : j < i := by
    have := (List.getElem?_eq_some_iff.mp hj).1
    rw [List.length_take] at this
    omega
  rw [List.getElem?_take_of_lt hji] at hj
  have a1 : (t.map (·.1))[j]? = some q.1 := by rw [List.getElem?_map, hj, ← e]; rfl
  have a2 : (t.map (·.1))[i]? = some q.1 := by rw [List.getElem?_map, hq]; rfl
  have b1 := (List.getElem?_eq_some_iff.mp a1).1
  have := (List.getElem?_inj b1 h).mp (a1.trans a2.symm)
  omega
/-! ### substitutions -/
def varN (n : Int) : List PyData := [.tuple [.str "v", .int n]]
def appN (t : Tab) (d : PyData) : List PyData := if isVarN d = true then (match valT t (numN d) with | some w => w | none => [d]) else [d]
def appM (t : Tab) (ds : List PyData) : List PyData := ds.flatMap (appN t)
/-- a value that is the key itself falls out -/
def keepN (n : Int) (w : List PyData) : Option (List PyData) := if PyData.eqv (.tuple w) (.tuple (varN n)) = true then none else some w
def compV (t u : Tab) (n : Int) : Option (List PyData) :=
  match valT t n with
  | some w => keepN n (appM u w)
  | none => (match valT u n with | some w => keepN n w | none => none)
theorem var_form {d : PyData} (h : NdA d) (v : isVarN d = true) : ∃ n, d = .tuple [.str "v", .int n] := by
  obtain ⟨wd, nd⟩ := h
  cases nd with
  | v n _ _ => exact ⟨n, rfl⟩
  | i n _ _ => cases v
  | f x n _ _ _ => cases v
theorem var_nd {n : Int} (h : 0 ≤ n) : ∀ d ∈ varN n, NdA d := fun d hd => ⟨n + 1, by rw [List.mem_singleton.mp hd]; exact .v n h (by omega)⟩
theorem valT_nd {t : Tab} {n : Int} {w : List PyData} (ht : TabN t) (h : valT t n = some w) : ∀ d ∈ w, NdA d := by
  obtain ⟨q, hq, e⟩ := valT_mem h
  rw [← e]
  exact ht q hq
theorem appN_nd {t : Tab} (ht : TabN t) {d : PyData} (hd : NdA d) : ∀ e ∈ appN t d, NdA e := by
  unfold appN
  by_cases v : isVarN d = true
  · rw [if_pos v]
    cases e : valT t (numN d) with
    | some w => exact valT_nd ht e
    | none => exact fun e he => by rw [List.mem_singleton.mp he]; exact hd
  · rw [if_neg v]
    exact fun e he => by rw [List.mem_singleton.mp he]; exact hd
theorem appM_nd {t : Tab} (ht : TabN t) {ds : List PyData} (hd : ∀ d ∈ ds, NdA d) : ∀ e ∈ appM t ds, NdA e := fun e he => by
  obtain ⟨d, h1, h2⟩ := List.mem_flatMap.mp he
  exact appN_nd ht (hd d h1) e h2
theorem var_num {d : PyData} (h : NdA d) (v : isVarN d = true) : ∃ n, 0 ≤ n ∧ d = .tuple [.str "v", .int n] := by
  obtain ⟨wd, nd⟩ := h
  cases nd with
  | v n h1 _ => exact ⟨n, h1, rfl⟩
  | i n _ _ => cases v
  | f x n _ _ _ => cases v
theorem comp_app {t u c : Tab} (nt : TabN t) (nu : TabN u) (hc : ∀ n, valT c n = compV t u n) {ds : List PyData} (nd : ∀ d ∈ ds, NdA d) : appM c ds = appM u (appM t ds) := by
  unfold appM
  rw [List.flatMap_assoc]
  have h : ∀ d ∈ ds, appN c d = (appN t d).flatMap (appN u) := by
    intro d hd
    by_cases v : isVarN d = true
    · obtain ⟨n, n0, rfl⟩ := var_num (nd d hd) v
      have e1 : ∀ s : Tab, appN s (.tuple [.str "v", .int n]) = (match valT s n with | some w => w | none => varN n) := fun s => by
        unfold appN
        rw [if_pos v]
        rfl
      rw [e1, e1, hc n]
      unfold compV
      cases ht : valT t n with
      | some w =>
        simp only
        unfold keepN
        by_cases hk : PyData.eqv (.tuple (appM u w)) (.tuple (varN n)) = true
        · rw [if_pos hk]
          exact (tup_eq (appM_nd nu (valT_nd nt ht)) (var_nd n0) hk).symm
        · rw [if_neg hk]
          rfl
      | none =>
        simp only
        have e2 : (varN n).flatMap (appN u) = (match valT u n with | some w => w | none => varN n) := by
          unfold varN
          rw [List.flatMap_cons, List.flatMap_nil, List.append_nil]
          exact e1 u
        rw [e2]
        cases hu : valT u n with
        | some w =>
          simp only
          unfold keepN
          by_cases hk : PyData.eqv (.tuple w) (.tuple (varN n)) = true
          · rw [if_pos hk]
            exact (tup_eq (valT_nd nu hu) (var_nd n0) hk).symm
          · rw [if_neg hk]
        | none => rfl
    · have e3 : ∀ s : Tab, appN s d = [d] := fun s => if_neg v
      rw [e3, e3, List.flatMap_cons, List.flatMap_nil, List.append_nil, e3]
  clear hc
  induction ds with
  | nil => rfl
  | cons d r ih =>
    rw [List.flatMap_cons, List.flatMap_cons, h d List.mem_cons_self, ih (fun x hx => nd x (List.mem_cons_of_mem _ hx)) fun x hx => h x (List.mem_cons_of_mem _ hx)]
theorem appM_take {t : Tab} {ds : List PyData} {i : Nat} {d : PyData} (h : ds[i]? = some d) : appM t (ds.take (i + 1)) = appM t (ds.take i) ++ appN t d := by
  unfold appM
  rw [List.take_add_one, h, List.flatMap_append]
  show _ ++ (appN t d ++ []) = _
  rw [List.append_nil]
theorem appN_non {t : Tab} {d : PyData} (v : ¬ isVarN d = true) : appN t d = [d] := if_neg v
theorem appN_out {t : Tab} {n : Int} (h : valT t n = none) : appN t (.tuple [.str "v", .int n]) = [.tuple [.str "v", .int n]] := by
  unfold appN
  rw [if_pos (show isVarN (.tuple [.str "v", .int n]) = true from rfl), show numN (.tuple [.str "v", .int n]) = n from rfl, h]
theorem appN_in {t : Tab} {n : Int} {w : List PyData} (h : valT t n = some w) : appN t (.tuple [.str "v", .int n]) = w := by
  unfold appN
  rw [if_pos (show isVarN (.tuple [.str "v", .int n]) = true from rfl), show numN (.tuple [.str "v", .int n]) = n from rfl, h]
/-- the composed table: the first one's values with the second applied, then what the second adds, without a key that is its own value -/
def comp1 (t u : Tab) : Tab := t.map fun x => (x.1, appM u x.2)
def newK (t : Tab) (x : Int × List PyData) : Bool := !(decide (x.1 ∈ t.map (·.1)))
def notOwn (x : Int × List PyData) : Bool := !PyData.eqv (.tuple x.2) (.tuple (varN x.1))
def compT (t u : Tab) : Tab := (comp1 t u ++ u.filter (newK t)).filter notOwn
theorem comp1_keys (t u : Tab) : (comp1 t u).map (·.1) = t.map (·.1) := by unfold comp1; rw [List.map_map]; rfl
theorem comp1_nd {t u : Tab} (ht : TabN t) (hu : TabN u) : TabN (comp1 t u) := fun x hx => by
  obtain ⟨q, h1, rfl⟩ := List.mem_map.mp hx
  exact appM_nd hu (ht q h1)
/-! ### walks, ints, picks -/
theorem walk_gen {J : It} {n : Nat} {G : Hp → Prop} {Y : Nat → Hp → V → Hp → Prop} (wk : Walk J n G Y) {B : V → Hp → (Hp → Prop) → Prop} {H0 : Hp} {Qd : Hp → Prop} (Pv : Nat → Hp → Prop) (p0 : Pv 0 H0) (pG : ∀ i H, i ≤ n → Pv i H → G H)
    (turn : ∀ i x H H', i < n → Pv i H → Y i H x H' → B x H' (Pv (i + 1))) (pd : ∀ H, Pv n H → Qd H) :
    ∃ W : Nat → Nat → Hp → Prop, (∃ m, W 0 m H0) ∧ ∀ i m H, W i m H → (J.stop i H ∧ Qd H) ∨ (J.go i H ∧ ∃ Nx : Hp → Prop, (∀ H', Nx H' → ∃ m', m' < m ∧ W (i + 1) m' H') ∧ ∀ x H', J.yld i H x H' → B x H' Nx) := by
  refine ⟨fun i m H => m = n - i ∧ i ≤ n ∧ Pv i H, ⟨n, by simp, Nat.zero_le _, p0⟩, ?_⟩
  rintro i m H ⟨rfl, hi, hp⟩
  have hg := pG i H hi hp
  rcases Nat.lt_or_ge i n with hlt | hge
  · exact .inr ⟨wk.goes i H hlt hg, Pv (i + 1), fun σ' p' => ⟨n - (i + 1), by omega, rfl, hlt, p'⟩, fun x H' y => turn i x H H' hlt hp (wk.yields i H x H' hlt hg y)⟩
  · obtain rfl : i = n := by omega
    exact .inl ⟨wk.stops H hg, pd H hp⟩
theorem ints_lay : ∀ (ns : List Int), PyData.canLayAll0 (ns.map PyData.int) = true ∧ PyData.depthAll (ns.map PyData.int) = 0 ∧ PyData.eqvAll (ns.map PyData.int) (ns.map PyData.int) = true
  | [] => ⟨by simp [PyData.canLayAll0], by simp [PyData.depthAll], by simp [PyData.eqvAll]⟩
  | n :: ns => by
    obtain ⟨a, b, c⟩ := ints_lay ns
    rw [List.map_cons]
    refine ⟨by simp only [PyData.canLayAll0, PyData.canLay0, a, Bool.and_self], ?_, by simp only [PyData.eqvAll, PyData.eqv, c, beq_self_eq_true, Bool.and_self]⟩
    simp only [PyData.depthAll, PyData.depth, b]
    rfl
theorem ints_shaped (ns : List Int) : SeqAt.shaped (.list (ns.map PyData.int)) = true := by
  obtain ⟨a, b, _⟩ := ints_lay ns
  have hd : (PyData.list (ns.map PyData.int)).depth ≤ 64 := by simp only [PyData.depth, b]; decide
  have hc : (PyData.list (ns.map PyData.int)).canLay0 = true := by simp only [PyData.canLay0]; exact a
  show ((PyData.list (ns.map PyData.int)).canLay0 && decide ((PyData.list (ns.map PyData.int)).depth ≤ 64)) = true
  rw [hc, decide_eq_true hd]
  rfl
theorem ints_eqv (ns : List Int) : PyData.eqv (.list (ns.map PyData.int)) (.list (ns.map PyData.int)) = true := by
  simp only [PyData.eqv]
  exact (ints_lay ns).2.2
theorem dp_ints {K : PySem.W.Frag} {H : Hp} : ∀ ns : List Int, DpAll K H (ns.map V.int) (ns.map PyData.int)
  | [] => .nil
  | n :: r => .cons (.int n) (dp_ints r)
theorem lit_pick {K : PySem.W.Frag} {G : Addr → Prop} {H : Hp} {xs : List V} {names : List Str} {r : Int} (a : ImAll K G H xs (names.map PyData.str)) (r0 : 0 ≤ r) (r1 : r < (names.length : Int)) : ∃ x, x ∈ names ∧ atI xs r = some (.str x) := by
  have hr : r.toNat < names.length := by omega
  have hd : (names.map PyData.str)[r.toNat]? = some (.str names[r.toNat]) := by
    rw [List.getElem?_map, List.getElem?_eq_getElem hr]
    rfl
  obtain ⟨v, hv, iv⟩ := ImAll.get a hd
  cases iv
  exact ⟨_, List.getElem_mem hr, at_of (j := r.toNat) (by omega) hv⟩
theorem ixN_nat {n j : Nat} (h : j < n) : ixN n (j : Int) = some j := by
  unfold ixN
  rw [if_pos (by omega), if_pos (by omega), Int.toNat_natCast]
theorem dp_snoc {K : PySem.W.Frag} {H : Hp} : ∀ {B : List V} {v : V} {es : List PyData}, DpAll K H (B ++ [v]) es → ∃ E e, es = E ++ [e] ∧ DpAll K H B E ∧ Dp K H v e
  | [], v, _, h => by
    cases h with
    | cons h1 h2 =>
      cases h2
      exact ⟨[], _, rfl, .nil, h1⟩
  | b :: B, v, _, h => by
    cases h with
    | cons h1 h2 =>
      obtain ⟨E, e, rfl, a, c⟩ := dp_snoc h2
      exact ⟨_ :: E, e, rfl, .cons h1 a, c⟩
theorem int_pick {K : PySem.W.Frag} {G : Addr → Prop} {H : Hp} {xs : List V} {is : List Int} {r : Int} (a : ImAll K G H xs (is.map PyData.int)) (r0 : 0 ≤ r) (r1 : r < (is.length : Int)) : ∃ x, x ∈ is ∧ atI xs r = some (.int x) := by
  have hr : r.toNat < is.length := by omega
  have hd : (is.map PyData.int)[r.toNat]? = some (.int is[r.toNat]) := by
    rw [List.getElem?_map, List.getElem?_eq_getElem hr]
    rfl
  obtain ⟨v, hv, iv⟩ := ImAll.get a hd
  cases iv
  exact ⟨_, List.getElem_mem hr, at_of (j := r.toNat) (by omega) hv⟩
/-! ### unification, eagerly -/
def vN (n : Int) : PyData := .tuple [.str "v", .int n]
def sub1 (ds : List PyData) : List PyData := ds.take (tk 1 ds)
def bindM : List PyData → List PyData → Option (Int × List PyData)
  | a :: l, b :: r => if isVarN a = true then (if isVarN b = true then some (if numN b < numN a then (numN a, varN (numN b)) else (numN b, varN (numN a))) else some (numN a, sub1 (b :: r))) else if isVarN b = true then some (numN b, sub1 (a :: l)) else none
  | _, _ => none
inductive Res
  | non | big | tab (t : Tab)
def up1 (n : Int) (v : List PyData) (t : Tab) : Tab := t.map (fun x => (x.1, appM [(n, v)] x.2)) ++ [(n, v)]
inductive Eg (B : Nat) : Nat → List PyData → List PyData → Tab → Res → Prop
  | done (L : List PyData) (T : Tab) : Eg B 0 L L T (.tab T)
  | clash {p l r : List PyData} {a b : PyData} {T : Tab} : a ≠ b → bindM (a :: l) (b :: r) = none → Eg B 0 (p ++ a :: l) (p ++ b :: r) T .non
  | occ {p l r v : List PyData} {a b : PyData} {T : Tab} {n : Int} : a ≠ b → bindM (a :: l) (b :: r) = some (n, v) → vN n ∈ v → Eg B 0 (p ++ a :: l) (p ++ b :: r) T .non
  | big {p l r v : List PyData} {a b : PyData} {T : Tab} {n : Int} : a ≠ b → bindM (a :: l) (b :: r) = some (n, v) → vN n ∉ v → B < max (appM [(n, v)] (p ++ a :: l)).length (appM [(n, v)] (p ++ b :: r)).length → Eg B 0 (p ++ a :: l) (p ++ b :: r) T .big
  | step {p l r v : List PyData} {a b : PyData} {T : Tab} {n : Int} {k : Nat} {s : Res} : a ≠ b → bindM (a :: l) (b :: r) = some (n, v) → vN n ∉ v → max (appM [(n, v)] (p ++ a :: l)).length (appM [(n, v)] (p ++ b :: r)).length ≤ B →
      Eg B k (appM [(n, v)] (p ++ a :: l)) (appM [(n, v)] (p ++ b :: r)) (up1 n v T) s → Eg B (k + 1) (p ++ a :: l) (p ++ b :: r) T s
theorem first_dif : ∀ {p p' : List PyData} {a b a' b' : PyData} {l r l' r' : List PyData}, a ≠ b → a' ≠ b' → p ++ a :: l = p' ++ a' :: l' → p ++ b :: r = p' ++ b' :: r' → p = p' ∧ a = a' ∧ l = l' ∧ b = b' ∧ r = r'
  | [], [], _, _, _, _, _, _, _, _, _, _, e1, e2 => ⟨rfl, (List.cons.inj e1).1, (List.cons.inj e1).2, (List.cons.inj e2).1, (List.cons.inj e2).2⟩
  | [], x :: p', _, _, _, _, _, _, _, _, h, _, e1, e2 => absurd ((List.cons.inj e1).1.trans (List.cons.inj e2).1.symm) h
  | x :: p, [], _, _, _, _, _, _, _, _, _, h, e1, e2 => absurd ((List.cons.inj e1).1.symm.trans (List.cons.inj e2).1) h
  | x :: p, y :: p', _, _, _, _, _, _, _, _, h, h', e1, e2 => by
    obtain ⟨i1, i2, i3, i4, i5⟩ := first_dif h h' (List.cons.inj e1).2 (List.cons.inj e2).2
    exact ⟨by rw [(List.cons.inj e1).1, i1], i2, i3, i4, i5⟩
theorem no_dif {p : List PyData} {a b : PyData} {l r : List PyData} (h : a ≠ b) (e : p ++ a :: l = p ++ b :: r) : False :=
  h (List.cons.inj (List.append_cancel_left e)).1
theorem eg_same {B k : Nat} {L R : List PyData} {T : Tab} {s : Res} (h : Eg B k L R T s) (e : L = R) : s = .tab T := by
  cases h with
  | done => rfl
  | clash h _ => exact (no_dif h e).elim
  | occ h _ _ => exact (no_dif h e).elim
  | big h _ _ _ => exact (no_dif h e).elim
  | step h _ _ _ _ => exact (no_dif h e).elim
theorem eg_dif {B k : Nat} {L R : List PyData} {T : Tab} {s : Res} (h : Eg B k L R T s) : ∀ {p l r : List PyData} {a b : PyData}, a ≠ b → L = p ++ a :: l → R = p ++ b :: r →
    (bindM (a :: l) (b :: r) = none ∧ s = .non) ∨ ∃ n v, bindM (a :: l) (b :: r) = some (n, v) ∧ ((vN n ∈ v ∧ s = .non) ∨ (vN n ∉ v ∧ ((B < max (appM [(n, v)] L).length (appM [(n, v)] R).length ∧ s = .big) ∨
      (max (appM [(n, v)] L).length (appM [(n, v)] R).length ≤ B ∧ ∃ j, k = j + 1 ∧ Eg B j (appM [(n, v)] L) (appM [(n, v)] R) (up1 n v T) s)))) := by
  cases h with
  | done => intro p l r a b h e1 e2; exact (no_dif h (e1.symm.trans e2)).elim
  | clash h h1 =>
    intro p l r a b g e1 e2
    obtain ⟨rfl, rfl, rfl, rfl, rfl⟩ := first_dif h g e1 e2
    exact .inl ⟨h1, rfl⟩
  | occ h h1 h2 =>
    intro p l r a b g e1 e2
    obtain ⟨rfl, rfl, rfl, rfl, rfl⟩ := first_dif h g e1 e2
    exact .inr ⟨_, _, h1, .inl ⟨h2, rfl⟩⟩
  | big h h1 h2 h3 =>
    intro p l r a b g e1 e2
    obtain ⟨rfl, rfl, rfl, rfl, rfl⟩ := first_dif h g e1 e2
    exact .inr ⟨_, _, h1, .inr ⟨h2, .inl ⟨h3, rfl⟩⟩⟩
  | step h h1 h2 h3 h4 =>
    intro p l r a b g e1 e2
    obtain ⟨rfl, rfl, rfl, rfl, rfl⟩ := first_dif h g e1 e2
    exact .inr ⟨_, _, h1, .inr ⟨h2, .inr ⟨h3, _, rfl, h4⟩⟩⟩
/-! ### what holds of the applied terms -/
/-- a list of nodes that is so many terms -/
def Tms (m : Nat) (ds : List PyData) : Prop := Cls m ds ∧ ∀ d ∈ ds, NdA d
theorem Tms.ne {m : Nat} {ds : List PyData} (h : Tms (m + 1) ds) : ds ≠ [] := fun z => by
  rw [z] at h
  exact absurd h.1 (by show ¬ (m + 1 = 0); omega)
theorem Tms.app {m k : Nat} {ds es : List PyData} (h : Tms m ds) (h2 : Tms k es) : Tms (m + k) (ds ++ es) :=
  ⟨cls_app _ _ _ _ h.1 h2.1, fun d hd => (List.mem_append.mp hd).elim (h.2 d) (h2.2 d)⟩
def TabT (t : Tab) : Prop := ∀ q ∈ t, Tms 1 q.2
theorem TabT.nd {t : Tab} (h : TabT t) : TabN t := fun q hq => (h q hq).2
theorem valT_tm {t : Tab} {n : Int} {w : List PyData} (ht : TabT t) (h : valT t n = some w) : Tms 1 w := by
  obtain ⟨q, hq, e⟩ := valT_mem h
  rw [← e]
  exact ht q hq
theorem appM_cls {t : Tab} (ht : TabT t) : ∀ (ds : List PyData) (m : Nat), (∀ d ∈ ds, NdA d) → Cls m ds → Cls m (appM t ds)
  | [], _, _, h => h
  | d :: ds, m, hn, h => by
    have ih := appM_cls ht ds (m - 1 + arN d) (fun x hx => hn x (.tail _ hx)) h.2
    show Cls m (appN t d ++ appM t ds)
    by_cases v : isVarN d = true
    · rw [var_arN v, Nat.add_zero] at ih
      have h1 : Cls 1 (appN t d) := by
        unfold appN
        rw [if_pos v]
        cases e : valT t (numN d) with
        | some w => exact (valT_tm ht e).1
        | none => exact ⟨by decide, by rw [var_arN v]; rfl⟩
      have := cls_app _ _ _ _ h1 ih
      rwa [show 1 + (m - 1) = m by have := h.1; omega] at this
    · rw [appN_non v]
      exact ⟨h.1, ih⟩
theorem appM_tms {t : Tab} (ht : TabT t) {m : Nat} {ds : List PyData} (h : Tms m ds) : Tms m (appM t ds) := ⟨appM_cls ht ds m h.2 h.1, appM_nd ht.nd h.2⟩
theorem appM_app (t : Tab) (ds es : List PyData) : appM t (ds ++ es) = appM t ds ++ appM t es := List.flatMap_append
theorem appM_cons (t : Tab) (d : PyData) (es : List PyData) : appM t (d :: es) = appN t d ++ appM t es := rfl
theorem appM_nil (t : Tab) : appM t [] = [] := rfl
theorem appN_ne {t : Tab} (ht : TabT t) (d : PyData) : appN t d ≠ [] := by
  unfold appN
  by_cases v : isVarN d = true
  · rw [if_pos v]
    cases e : valT t (numN d) with
    | some w => exact (valT_tm ht e).ne
    | none => exact fun z => nomatch z
  · rw [if_neg v]; exact fun z => nomatch z
theorem appM_len {t : Tab} (ht : TabT t) : ∀ ds : List PyData, ds.length ≤ (appM t ds).length
  | [] => Nat.le_refl 0
  | d :: ds => by
    have := appM_len ht ds
    have h2 : 0 < (appN t d).length := List.length_pos_iff.mpr (appN_ne ht d)
    rw [appM_cons, List.length_append, List.length_cons]
    omega
theorem vN_var (n : Int) : isVarN (vN n) = true := rfl
theorem vN_num (n : Int) : numN (vN n) = n := rfl
theorem var_vN {d : PyData} (h : NdA d) (v : isVarN d = true) : d = vN (numN d) := by
  obtain ⟨n, rfl⟩ := var_form h v
  rfl
/-- no key of the table stands in the nodes -/
def Free (t : Tab) (ds : List PyData) : Prop := ∀ q ∈ t, vN q.1 ∉ ds
theorem appM_free {t : Tab} : ∀ {ds : List PyData}, (∀ d ∈ ds, NdA d) → Free t ds → appM t ds = ds
  | [], _, _ => rfl
  | d :: ds, hn, h => by
    rw [appM_cons, appM_free (fun x hx => hn x (.tail _ hx)) fun q hq m => h q hq (.tail _ m)]
    by_cases v : isVarN d = true
    · have e := var_vN (hn d (.head _)) v
      rw [e]
      have : valT t (numN d) = none := by
        cases g : valT t (numN d) with
        | none => rfl
        | some w =>
          exfalso
          unfold valT at g
          cases f : t.find? fun p => decide (p.1 = numN d) with
          | none => rw [f] at g; cases g
          | some q =>
            have hq := List.mem_of_find?_eq_some f
            have hk : q.1 = numN d := of_decide_eq_true (List.find?_some (p := fun p : Int × List PyData => decide (p.1 = numN d)) f)
            exact h q hq (by rw [hk, ← e]; exact .head _)
      unfold vN
      rw [appN_out this]
      rfl
    · rw [appN_non v]
      rfl
theorem val_one (n m : Int) (v : List PyData) : valT [(n, v)] m = if n = m then some v else none := by
  unfold valT
  by_cases e : n = m
  · rw [List.find?_cons, decide_eq_true e, if_pos e]; rfl
  · rw [List.find?_cons, decide_eq_false e, if_neg e]; rfl
theorem app_own (n : Int) (v : List PyData) : appN [(n, v)] (vN n) = v := appN_in (by rw [val_one, if_pos rfl])
theorem app_else {n : Int} {v : List PyData} {d : PyData} (hd : NdA d) (h : d ≠ vN n) : appN [(n, v)] d = [d] := by
  by_cases x : isVarN d = true
  · have e := var_vN hd x
    rw [e]
    refine appN_out ?_
    rw [val_one, if_neg fun z => h (by rw [e, ← z])]
  · exact appN_non x
/-- what is bound stands in no term any more -/
theorem gone {n : Int} {v : List PyData} (hv : vN n ∉ v) : ∀ {ds : List PyData}, (∀ d ∈ ds, NdA d) → vN n ∉ appM [(n, v)] ds
  | [], _, h => nomatch h
  | d :: ds, hn, h => by
    rw [appM_cons] at h
    rcases List.mem_append.mp h with h | h
    · by_cases e : d = vN n
      · rw [e, app_own] at h; exact hv h
      · rw [app_else (hn d (.head _)) e] at h
        exact e (List.mem_singleton.mp h).symm
    · exact gone hv (fun x hx => hn x (.tail _ hx)) h
theorem kept_out {t : Tab} {n : Int} {v : List PyData} {x : Int} (hv : vN x ∉ v) : ∀ {ds : List PyData}, (∀ d ∈ ds, NdA d) → vN x ∉ ds → vN x ∉ appM [(n, v)] ds
  | [], _, _, h => nomatch h
  | d :: ds, hn, h0, h => by
    rw [appM_cons] at h
    rcases List.mem_append.mp h with h | h
    · by_cases e : d = vN n
      · rw [e, app_own] at h; exact hv h
      · rw [app_else (hn d (.head _)) e] at h
        exact h0 (by rw [List.mem_singleton.mp h]; exact .head _)
    · exact kept_out (t := t) hv (fun y hy => hn y (.tail _ hy)) (fun m => h0 (.tail _ m)) h
/-- the terms, and the table so far -/
structure Sol (L R : List PyData) (T : Tab) : Prop where
  l : Tms 1 L
  r : Tms 1 R
  t : TabT T
  nd : (T.map (·.1)).Nodup
  fl : Free T L
  fr : Free T R
  ft : ∀ q ∈ T, Free T q.2
  pos : ∀ q ∈ T, 0 ≤ q.1
  inf : ∀ q ∈ T, q.2 <:+: L ∨ q.2 <:+: R
theorem infix_app {t : Tab} {a b : List PyData} (h : a <:+: b) : appM t a <:+: appM t b := by
  obtain ⟨x, y, rfl⟩ := h
  exact ⟨appM t x, appM t y, by rw [appM_app, appM_app]⟩
theorem tms_sub {k : Nat} {ds : List PyData} (h : Tms (k + 1) ds) : Tms 1 (sub1 ds) ∧ Tms k (ds.drop (tk 1 ds)) ∧ ds = sub1 ds ++ ds.drop (tk 1 ds) :=
  ⟨⟨cls_take ds (k + 1) 1 h.1 (by omega), fun d hd => h.2 d (List.mem_of_mem_take hd)⟩, ⟨cls_drop ds (k + 1) 1 h.1 (by omega), fun d hd => h.2 d (List.mem_of_mem_drop hd)⟩, (List.take_append_drop _ _).symm⟩
theorem sub_var {n : Int} {r : List PyData} : sub1 (vN n :: r) = [vN n] := by
  unfold sub1
  rw [tk_cons (by decide), show 1 - 1 + arN (vN n) = 0 from rfl, tk_zero]
  rfl
theorem bind_cases {a b : PyData} {l r v : List PyData} {n : Int} (ha : NdA a) (hb : NdA b) (h : bindM (a :: l) (b :: r) = some (n, v)) : (a = vN n ∧ v = sub1 (b :: r)) ∨ (b = vN n ∧ v = sub1 (a :: l)) := by
  simp only [bindM] at h
  by_cases va : isVarN a = true
  · rw [if_pos va] at h
    have ea := var_vN ha va
    by_cases vb : isVarN b = true
    · rw [if_pos vb] at h
      have eb := var_vN hb vb
      split at h
      · have h2 := Option.some.inj h
        rw [← (Prod.mk.inj h2).1, ← (Prod.mk.inj h2).2]
        exact .inl ⟨ea, by rw [eb, sub_var]; rfl⟩
      · have h2 := Option.some.inj h
        rw [← (Prod.mk.inj h2).1, ← (Prod.mk.inj h2).2]
        exact .inr ⟨eb, by rw [ea, sub_var]; rfl⟩
    · rw [if_neg vb] at h
      have h2 := Option.some.inj h
      rw [← (Prod.mk.inj h2).1, ← (Prod.mk.inj h2).2]
      exact .inl ⟨ea, rfl⟩
  · rw [if_neg va] at h
    by_cases vb : isVarN b = true
    · rw [if_pos vb] at h
      have h2 := Option.some.inj h
      rw [← (Prod.mk.inj h2).1, ← (Prod.mk.inj h2).2]
      exact .inr ⟨var_vN hb vb, rfl⟩
    · rw [if_neg vb] at h; cases h
/-- from a place in a list of terms on there is a term at least -/
theorem tms_mid {p : List PyData} {a : PyData} {l : List PyData} {m : Nat} (h : Tms m (p ++ a :: l)) : ∃ k, Tms (k + 1) (a :: l) := by
  obtain ⟨k, h1, _⟩ := cls_split (p ++ a :: l) m p.length h.1 (by rw [List.length_append]; omega)
  rw [List.drop_left] at h1
  have h1' := h1
  obtain ⟨h2, _⟩ := h1'
  exact ⟨k - 1, by rw [Nat.sub_add_cancel h2]; exact h1, fun d hd => h.2 d (List.mem_append_right _ hd)⟩
theorem vN_inj {n m : Int} (h : vN n = vN m) : n = m := by
  unfold vN at h
  injection h with h
  injection h with _ h
  injection h with h _
  injection h
theorem vN_pos {n : Int} (h : NdA (vN n)) : 0 ≤ n := by
  obtain ⟨w, h⟩ := h
  cases h with
  | v _ h1 _ => exact h1
structure Bnd (L R : List PyData) (T : Tab) (n : Int) (v : List PyData) : Prop where
  pos : 0 ≤ n
  tm : Tms 1 v
  at_ : vN n ∈ L ∨ vN n ∈ R
  inf : v <:+: L ∨ v <:+: R
  own : vN n ∉ v
theorem bind_ok {p l r v : List PyData} {a b : PyData} {n : Int} {T : Tab} (hl : Tms 1 (p ++ a :: l)) (hr : Tms 1 (p ++ b :: r)) (h : bindM (a :: l) (b :: r) = some (n, v)) (hv : vN n ∉ v) : Bnd (p ++ a :: l) (p ++ b :: r) T n v := by
  have na := hl.2 a (List.mem_append_right _ (.head _))
  have nb := hr.2 b (List.mem_append_right _ (.head _))
  obtain ⟨k, ka⟩ := tms_mid hl
  obtain ⟨j, kb⟩ := tms_mid hr
  obtain ⟨s1, s2, s3⟩ := tms_sub ka
  obtain ⟨t1, t2, t3⟩ := tms_sub kb
  rcases bind_cases na nb h with ⟨e1, e2⟩ | ⟨e1, e2⟩
  · subst e1 e2
    refine ⟨vN_pos na, t1, .inl (List.mem_append_right _ (.head _)), .inr ⟨p, (b :: r).drop (tk 1 (b :: r)), ?_⟩, hv⟩
    rw [List.append_assoc, ← t3]
  · subst e1 e2
    refine ⟨vN_pos nb, s1, .inr (List.mem_append_right _ (.head _)), .inl ⟨p, (a :: l).drop (tk 1 (a :: l)), ?_⟩, hv⟩
    rw [List.append_assoc, ← s3]
theorem tab_one {n : Int} {v : List PyData} (h : Tms 1 v) : TabT [(n, v)] := fun q hq => by rw [List.mem_singleton.mp hq]; exact h
theorem infix_mem {a b : List PyData} {d : PyData} (h : a <:+: b) (hd : d ∈ a) : d ∈ b := by
  obtain ⟨x, y, rfl⟩ := h
  exact List.mem_append_left _ (List.mem_append_right _ hd)
theorem in_app {n : Int} {v : List PyData} : ∀ {ds : List PyData}, vN n ∈ ds → v <:+: appM [(n, v)] ds
  | d :: ds, h => by
    rw [appM_cons]
    rcases List.mem_cons.mp h with h | h
    · rw [← h, app_own]
      exact ⟨[], appM [(n, v)] ds, rfl⟩
    · obtain ⟨x, y, e⟩ := in_app (v := v) h
      exact ⟨appN [(n, v)] d ++ x, y, by rw [← e]; simp⟩
theorem up1_keys (n : Int) (v : List PyData) (T : Tab) : (up1 n v T).map (·.1) = T.map (·.1) ++ [n] := by
  unfold up1
  rw [List.map_append, List.map_map]
  rfl
theorem Sol.next {L R : List PyData} {T : Tab} {n : Int} {v : List PyData} (S : Sol L R T) (b : Bnd L R T n v) : Sol (appM [(n, v)] L) (appM [(n, v)] R) (up1 n v T) := by
  have t1 := tab_one (n := n) b.tm
  have nk : n ∉ T.map (·.1) := fun h => by
    obtain ⟨q, hq, rfl⟩ := List.mem_map.mp h
    exact b.at_.elim (S.fl q hq) (S.fr q hq)
  have fv : Free T v := fun q hq h => b.inf.elim (fun i => S.fl q hq (infix_mem i h)) fun i => S.fr q hq (infix_mem i h)
  have split : ∀ q ∈ up1 n v T, (∃ x ∈ T, q = (x.1, appM [(n, v)] x.2)) ∨ q = (n, v) := fun q hq => by
    unfold up1 at hq
    rcases List.mem_append.mp hq with h | h
    · obtain ⟨x, hx, rfl⟩ := List.mem_map.mp h
      exact .inl ⟨x, hx, rfl⟩
    · exact .inr (List.mem_singleton.mp h)
  have free : ∀ {ds : List PyData}, (∀ d ∈ ds, NdA d) → Free T ds → Free (up1 n v T) (appM [(n, v)] ds) := fun {ds} hn hf q hq => by
    rcases split q hq with ⟨x, hx, rfl⟩ | rfl
    · exact kept_out (t := T) (fv x hx) hn (hf x hx)
    · exact gone b.own hn
  refine ⟨appM_tms t1 S.l, appM_tms t1 S.r, fun q hq => ?_, ?_, free S.l.2 S.fl, free S.r.2 S.fr, fun q hq => ?_, fun q hq => ?_, fun q hq => ?_⟩
  · rcases split q hq with ⟨x, hx, rfl⟩ | rfl
    · exact appM_tms t1 (S.t x hx)
    · exact b.tm
  · rw [up1_keys]
    refine List.nodup_append.mpr ⟨S.nd, List.nodup_cons.mpr ⟨(fun h => nomatch h), List.nodup_nil⟩, fun x hx y hy e => nk (by rw [List.mem_singleton.mp hy] at e; rw [← e]; exact hx)⟩
  · rcases split q hq with ⟨x, hx, rfl⟩ | rfl
    · exact free (S.t x hx).2 (S.ft x hx)
    · intro y hy
      rcases split y hy with ⟨x, hx, rfl⟩ | rfl
      · exact fv x hx
      · exact b.own
  · rcases split q hq with ⟨x, hx, rfl⟩ | rfl
    · exact S.pos x hx
    · exact b.pos
  · rcases split q hq with ⟨x, hx, rfl⟩ | rfl
    · exact (S.inf x hx).elim (fun i => .inl (infix_app i)) fun i => .inr (infix_app i)
    · exact b.at_.elim (fun i => .inl (in_app i)) fun i => .inr (in_app i)
open Classical in
noncomputable def mu (U : List Int) (L R : List PyData) : Nat := (U.filter fun n => decide (vN n ∈ L ∨ vN n ∈ R)).length
theorem filter_less {U : List Int} {f g : Int → Bool} (h : ∀ x ∈ U, g x = true → f x = true) {n : Int} (hn : n ∈ U) (h1 : f n = true) (h2 : g n = false) : (U.filter g).length < (U.filter f).length := by
  induction U with
  | nil => cases hn
  | cons x U ih =>
    have le : (U.filter g).length ≤ (U.filter f).length := by
      clear ih hn
      induction U with
      | nil => exact Nat.le_refl _
      | cons y U ih2 =>
        have i := ih2 fun z hz => h z (by rcases List.mem_cons.mp hz with rfl | hz; exact .head _; exact .tail _ (.tail _ hz))
        have hy := h y (.tail _ (.head _))
        cases gy : g y with
        | true => rw [List.filter_cons_of_pos gy, List.filter_cons_of_pos (hy gy)]; simpa using i
        | false =>
          rw [List.filter_cons_of_neg (by rw [gy]; exact Bool.false_ne_true)]
          cases fy : f y with
          | true => rw [List.filter_cons_of_pos fy]; simp; omega
          | false => rw [List.filter_cons_of_neg (by rw [fy]; exact Bool.false_ne_true)]; exact i
    rcases List.mem_cons.mp hn with rfl | hn
    · rw [List.filter_cons_of_pos h1, List.filter_cons_of_neg (by rw [h2]; exact Bool.false_ne_true), List.length_cons]
      omega
    · have i := ih (fun y hy => h y (.tail _ hy)) hn
      have hx := h x (.head _)
      cases gx : g x with
      | true => rw [List.filter_cons_of_pos gx, List.filter_cons_of_pos (hx gx)]; simpa using i
      | false =>
        rw [List.filter_cons_of_neg (by rw [gx]; exact Bool.false_ne_true)]
        cases fx : f x with
        | true => rw [List.filter_cons_of_pos fx, List.length_cons]; omega
        | false => rw [List.filter_cons_of_neg (by rw [fx]; exact Bool.false_ne_true)]; exact i
/-- two closed lists are alike or differ somewhere -/
theorem alike_or : ∀ {m : Nat} {L R : List PyData}, Cls m L → Cls m R → L = R ∨ ∃ p a b l r, L = p ++ a :: l ∧ R = p ++ b :: r ∧ a ≠ b
  | m, [], [], _, _ => .inl rfl
  | m, [], y :: r, h, h2 => by
    have e : m = 0 := h
    exact absurd h2.1 (by omega)
  | m, x :: l, [], h, h2 => by
    have e : m = 0 := h2
    exact absurd h.1 (by omega)
  | m, x :: l, y :: r, h, h2 => by
    by_cases e : x = y
    · subst e
      rcases alike_or h.2 h2.2 with e | ⟨p, a, b, l', r', e1, e2, e3⟩
      · exact .inl (by rw [e])
      · exact .inr ⟨x :: p, a, b, l', r', by rw [e1]; rfl, by rw [e2]; rfl, e3⟩
    · exact .inr ⟨[], x, y, l, r, rfl, rfl, e⟩
theorem mem_app_var {n m : Int} {v : List PyData} : ∀ {ds : List PyData}, (∀ d ∈ ds, NdA d) → vN m ∈ appM [(n, v)] ds → vN m ∈ v ∨ vN m ∈ ds
  | [], _, h => nomatch h
  | d :: ds, hn, h => by
    rw [appM_cons] at h
    rcases List.mem_append.mp h with h | h
    · by_cases e : d = vN n
      · rw [e, app_own] at h; exact .inl h
      · rw [app_else (hn d (.head _)) e] at h
        exact .inr (by rw [List.mem_singleton.mp h]; exact .head _)
    · exact (mem_app_var (fun x hx => hn x (.tail _ hx)) h).imp id (.tail _)
open Classical in
theorem eg_ex (B : Nat) (U : List Int) : ∀ (m : Nat) (L R : List PyData) (T : Tab), Sol L R T → (∀ n, vN n ∈ L ∨ vN n ∈ R → n ∈ U) → mu U L R ≤ m → ∃ k s, Eg B k L R T s ∧ k ≤ m
  | m, L, R, T, S, hU, hm => by
    rcases alike_or S.l.1 S.r.1 with e | ⟨p, a, b, l, r, e1, e2, e3⟩
    · subst e; exact ⟨0, _, .done L T, Nat.zero_le _⟩
    · subst e1 e2
      cases hb : bindM (a :: l) (b :: r) with
      | none => exact ⟨0, _, .clash e3 hb, Nat.zero_le _⟩
      | some nv =>
        obtain ⟨n, v⟩ := nv
        by_cases ho : vN n ∈ v
        · exact ⟨0, _, .occ e3 hb ho, Nat.zero_le _⟩
        · by_cases hB : B < max (appM [(n, v)] (p ++ a :: l)).length (appM [(n, v)] (p ++ b :: r)).length
          · exact ⟨0, _, .big e3 hb ho hB, Nat.zero_le _⟩
          · have bo : Bnd (p ++ a :: l) (p ++ b :: r) T n v := bind_ok S.l S.r hb ho
            have less : mu U (appM [(n, v)] (p ++ a :: l)) (appM [(n, v)] (p ++ b :: r)) < mu U (p ++ a :: l) (p ++ b :: r) := by
              unfold mu
              refine filter_less (fun x _ hx => ?_) (hU n bo.at_) (decide_eq_true bo.at_) (decide_eq_false fun z => z.elim (gone bo.own S.l.2) (gone bo.own S.r.2))
              have hx := of_decide_eq_true hx
              refine decide_eq_true ?_
              have vv : vN x ∈ v → vN x ∈ p ++ a :: l ∨ vN x ∈ p ++ b :: r := fun h => bo.inf.imp (fun i => infix_mem i h) fun i => infix_mem i h
              rcases hx with hx | hx
              · exact (mem_app_var S.l.2 hx).elim vv .inl
              · exact (mem_app_var S.r.2 hx).elim vv .inr
            match m, hm with
            | 0, hm => exact absurd less (by omega)
            | m + 1, hm =>
              obtain ⟨k, s, h, hk⟩ := eg_ex B U m _ _ _ (S.next bo) (fun x hx => by
                have vv : vN x ∈ v → x ∈ U := fun h => hU x (bo.inf.imp (fun i => infix_mem i h) fun i => infix_mem i h)
                rcases hx with hx | hx
                · exact (mem_app_var S.l.2 hx).elim vv fun h => hU x (.inl h)
                · exact (mem_app_var S.r.2 hx).elim vv fun h => hU x (.inr h)) (by omega)
              exact ⟨k + 1, s, .step e3 hb ho (by omega) h, by omega⟩
theorem sol_zero {L R : List PyData} (h : Tms 1 L) (h2 : Tms 1 R) : Sol L R [] :=
  ⟨h, h2, fun _ h => (nomatch h), List.nodup_nil, fun _ h => (nomatch h), fun _ h => (nomatch h), fun _ h => (nomatch h), fun _ h => (nomatch h), fun _ h => (nomatch h)⟩
theorem mu_le (U : List Int) (L R : List PyData) : mu U L R ≤ U.length := List.length_filter_le _ _
/-- there is a result -/
theorem eg_any (B : Nat) {L R : List PyData} (h : Tms 1 L) (h2 : Tms 1 R) : ∃ k s, Eg B k L R [] s ∧ k ≤ L.length + R.length := by
  obtain ⟨k, s, h3, h4⟩ := eg_ex B ((L ++ R).map numN) (mu ((L ++ R).map numN) L R) L R [] (sol_zero h h2) (fun n hn => List.mem_map.mpr ⟨vN n, List.mem_append.mpr hn, rfl⟩) (Nat.le_refl _)
  have := mu_le ((L ++ R).map numN) L R
  rw [List.length_map, List.length_append] at this
  exact ⟨k, s, h3, by omega⟩
/-! ### the table as the program keeps it: no value is touched behind its binding -/
def TriR : Tab → Prop
  | [] => True
  | q :: t => (∀ x ∈ q :: t, vN q.1 ∉ x.2) ∧ TriR t
def rkT : Tab → Int → Nat
  | [], _ => 0
  | q :: t, n => if q.1 = n then t.length + 1 else rkT t n
theorem rk_le : ∀ (t : Tab) (n : Int), rkT t n ≤ t.length
  | [], _ => Nat.le_refl 0
  | q :: t, n => by
    have := rk_le t n
    unfold rkT
    split
    · exact Nat.le_refl _
    · rw [List.length_cons]; omega
theorem valT_cons (q : Int × List PyData) (t : Tab) (n : Int) : valT (q :: t) n = if q.1 = n then some q.2 else valT t n := by
  unfold valT
  by_cases e : q.1 = n
  · rw [List.find?_cons, decide_eq_true e, if_pos e]; rfl
  · rw [List.find?_cons, decide_eq_false e, if_neg e]
theorem rk_pos : ∀ {t : Tab} {n : Int} {w : List PyData}, valT t n = some w → 0 < rkT t n
  | [], _, _, h => nomatch h
  | q :: t, n, w, h => by
    rw [valT_cons] at h
    unfold rkT
    by_cases e : q.1 = n
    · rw [if_pos e]; omega
    · rw [if_neg e] at h ⊢
      exact rk_pos h
theorem rk_none : ∀ {t : Tab} {n : Int}, valT t n = none → rkT t n = 0
  | [], _, _ => rfl
  | q :: t, n, h => by
    rw [valT_cons] at h
    unfold rkT
    by_cases e : q.1 = n
    · rw [if_pos e] at h; cases h
    · rw [if_neg e] at h ⊢
      exact rk_none h
theorem rk_less : ∀ {t : Tab} {n m : Int} {w : List PyData}, TriR t → valT t n = some w → vN m ∈ w → rkT t m < rkT t n
  | [], _, _, _, _, h, _ => nomatch h
  | q :: t, n, m, w, hT, h, hm => by
    rw [valT_cons] at h
    by_cases e : q.1 = n
    · rw [if_pos e] at h
      have hw := Option.some.inj h
      have ne : ¬ q.1 = m := fun z => hT.1 q (.head _) (by rw [hw, z]; exact hm)
      unfold rkT
      rw [if_pos e, if_neg ne]
      have := rk_le t m
      omega
    · rw [if_neg e] at h
      have ne : ¬ q.1 = m := fun z => by
        obtain ⟨x, hx, ex⟩ := valT_mem h
        exact hT.1 x (.tail _ hx) (by rw [ex, z]; exact hm)
      unfold rkT
      rw [if_neg e, if_neg ne]
      exact rk_less hT.2 h hm
theorem tri_snoc {n : Int} {v : List PyData} (hn : vN n ∉ v) : ∀ {t : Tab}, TriR t → (∀ q ∈ t, vN q.1 ∉ v) → TriR (t ++ [(n, v)])
  | [], _, _ => ⟨fun x hx => by rw [List.mem_singleton.mp hx]; exact hn, True.intro⟩
  | q :: t, h, h2 => ⟨fun x hx => by
      rcases List.mem_append.mp (show x ∈ (q :: t) ++ [(n, v)] from hx) with hx | hx
      · exact h.1 x hx
      · rw [List.mem_singleton.mp hx]; exact h2 q (.head _), tri_snoc hn h.2 fun x hx => h2 x (.tail _ hx)⟩
structure Tri (F T : Tab) : Prop where
  keys : F.map (·.1) = T.map (·.1)
  val : ∀ q ∈ F, valT T q.1 = some (appM T q.2)
  tri : TriR F
  tm : TabT F
theorem valT_app (t u : Tab) (n : Int) : valT (t ++ u) n = match valT t n with | some w => some w | none => valT u n := by
  induction t with
  | nil => rfl
  | cons q t ih =>
    rw [List.cons_append, valT_cons, valT_cons]
    by_cases e : q.1 = n
    · rw [if_pos e, if_pos e]
    · rw [if_neg e, if_neg e]
      exact ih
theorem valT_map (f : List PyData → List PyData) (t : Tab) (n : Int) : valT (t.map fun x => (x.1, f x.2)) n = (valT t n).map f := by
  induction t with
  | nil => rfl
  | cons q t ih =>
    rw [List.map_cons, valT_cons, valT_cons]
    by_cases e : q.1 = n
    · rw [if_pos e, if_pos e]; rfl
    · rw [if_neg e, if_neg e]; exact ih
theorem valT_up1 (n : Int) (v : List PyData) (T : Tab) (m : Int) : valT (up1 n v T) m = match valT T m with | some w => some (appM [(n, v)] w) | none => if n = m then some v else none := by
  unfold up1
  rw [valT_app, valT_map, val_one]
  cases valT T m <;> rfl
theorem app_up1 {n : Int} {v : List PyData} {T : Tab} : ∀ {ds : List PyData}, (∀ d ∈ ds, NdA d) → appM (up1 n v T) ds = appM [(n, v)] (appM T ds)
  | [], _ => rfl
  | d :: ds, hn => by
    rw [appM_cons, appM_cons, appM_app, app_up1 fun x hx => hn x (.tail _ hx)]
    congr 1
    by_cases x : isVarN d = true
    · have e := var_vN (hn d (.head _)) x
      have e1 : ∀ s : Tab, appN s d = (match valT s (numN d) with | some w => w | none => [d]) := fun s => by unfold appN; rw [if_pos x]
      rw [e1, e1, valT_up1]
      cases valT T (numN d) with
      | some w => rfl
      | none =>
        show (match (if n = numN d then some v else none) with | some w => w | none => [d]) = appM [(n, v)] [d]
        rw [appM_cons, appM_nil, List.append_nil, e1, val_one]
    · rw [appN_non x, appN_non x, appM_cons, appM_nil, List.append_nil, appN_non x]
theorem tri_zero : Tri [] [] := ⟨rfl, fun _ h => (nomatch h), True.intro, fun _ h => (nomatch h)⟩
theorem Tri.key {F T : Tab} (h : Tri F T) (n : Int) : n ∈ F.map (·.1) ↔ n ∈ T.map (·.1) := by rw [h.keys]
theorem free_keys {t : Tab} {ds : List PyData} : Free t ds ↔ ∀ n ∈ t.map (·.1), vN n ∉ ds :=
  ⟨fun h n hn => by obtain ⟨q, hq, rfl⟩ := List.mem_map.mp hn; exact h q hq, fun h q hq => h q.1 (List.mem_map.mpr ⟨q, hq, rfl⟩)⟩
theorem Tri.next {L R : List PyData} {F T : Tab} {n : Int} {v : List PyData} (h : Tri F T) (S : Sol L R T) (b : Bnd L R T n v) : Tri (F ++ [(n, v)]) (up1 n v T) := by
  have S2 := S.next b
  have fv : Free T v := fun q hq m => b.inf.elim (fun i => S.fl q hq (infix_mem i m)) fun i => S.fr q hq (infix_mem i m)
  have nk : n ∉ T.map (·.1) := fun m => by
    obtain ⟨q, hq, rfl⟩ := List.mem_map.mp m
    exact b.at_.elim (S.fl q hq) (S.fr q hq)
  have ff : ∀ q ∈ F, vN q.1 ∉ v := fun q hq => free_keys.mp fv q.1 ((h.key q.1).mp (List.mem_map.mpr ⟨q, hq, rfl⟩))
  refine ⟨by rw [up1_keys, List.map_append, h.keys]; rfl, fun q hq => ?_, tri_snoc b.own h.tri ff, fun q hq => ?_⟩
  · rcases List.mem_append.mp hq with hq | hq
    · rw [valT_up1, h.val q hq, app_up1 (h.tm q hq).2]
    · rw [List.mem_singleton.mp hq, valT_up1, valT_notin nk]
      show (if n = n then some v else none) = some (appM (up1 n v T) v)
      rw [if_pos rfl, appM_free b.tm.2 (free_keys.mpr fun m hm => ?_)]
      rw [up1_keys] at hm
      rcases List.mem_append.mp hm with hm | hm
      · exact free_keys.mp fv m hm
      · rw [List.mem_singleton.mp hm]; exact b.own
  · rcases List.mem_append.mp hq with hq | hq
    · exact h.tm q hq
    · rw [List.mem_singleton.mp hq]; exact b.tm
/-- a bound variable gives way to its value -/
theorem Tri.open {F T : Tab} (h : Tri F T) {n : Int} {w : List PyData} (e : valT F n = some w) (ds : List PyData) : appM T (vN n :: ds) = appM T (w ++ ds) := by
  have hq : ∃ q ∈ F, q.1 = n ∧ q.2 = w := by
    unfold valT at e
    cases f : F.find? fun p => decide (p.1 = n) with
    | none => rw [f] at e; cases e
    | some q =>
      rw [f] at e
      exact ⟨q, List.mem_of_find?_eq_some f, of_decide_eq_true (List.find?_some (p := fun p : Int × List PyData => decide (p.1 = n)) f), Option.some.inj e⟩
  obtain ⟨q, hq, e1, e2⟩ := hq
  rw [appM_cons, appM_app]
  congr 1
  have := h.val q hq
  rw [e1, e2] at this
  exact appN_in this
/-- one that is not bound stays -/
theorem Tri.stay {F T : Tab} (h : Tri F T) {d : PyData} (hd : NdA d) (e : isVarN d = true → valT F (numN d) = none) (ds : List PyData) : appM T (d :: ds) = d :: appM T ds := by
  rw [appM_cons]
  by_cases v : isVarN d = true
  · have e2 : valT T (numN d) = none := valT_notin fun m => by
      obtain ⟨q, hq, e3⟩ := List.mem_map.mp ((h.key _).mpr m)
      exact valT_none (e v) q hq e3
    have e4 := var_vN hd v
    rw [e4]
    unfold vN
    rw [appN_out e2]
    rfl
  · rw [appN_non v]; rfl
/-! ### how often a variable stands in the nodes -/
def cntN (n : Int) : List PyData → Nat
  | [] => 0
  | d :: r => (if isVarN d = true ∧ numN d = n then 1 else 0) + cntN n r
theorem cnt_app (n : Int) (a b : List PyData) : cntN n (a ++ b) = cntN n a + cntN n b := by
  induction a with
  | nil => simp [cntN]
  | cons d a ih => rw [List.cons_append]; simp only [cntN]; rw [ih]; omega
theorem cnt_zero {n : Int} : ∀ {ds : List PyData}, (∀ d ∈ ds, NdA d) → (cntN n ds = 0 ↔ vN n ∉ ds)
  | [], _ => ⟨fun _ h => (nomatch h), fun _ => rfl⟩
  | d :: ds, hn => by
    have ih := cnt_zero (n := n) fun x hx => hn x (.tail _ hx)
    simp only [cntN]
    by_cases e : isVarN d = true ∧ numN d = n
    · rw [if_pos e]
      refine ⟨fun z => by omega, fun z => absurd ?_ z⟩
      rw [← e.2, ← var_vN (hn d (.head _)) e.1]
      exact .head _
    · rw [if_neg e, Nat.zero_add, ih]
      refine ⟨fun z m => ?_, fun z m => z (.tail _ m)⟩
      rcases List.mem_cons.mp m with m | m
      · exact e (by rw [← m]; exact ⟨rfl, rfl⟩)
      · exact z m
theorem cnt_bind {n m : Int} {v : List PyData} (hm : m ≠ n) : ∀ {ds : List PyData}, (∀ d ∈ ds, NdA d) → cntN m (appM [(n, v)] ds) = cntN m ds + cntN n ds * cntN m v
  | [], _ => by simp [appM, cntN]
  | d :: ds, hn => by
    rw [appM_cons, cnt_app, cnt_bind hm fun x hx => hn x (.tail _ hx)]
    simp only [cntN]
    by_cases e : d = vN n
    · subst e
      rw [app_own, if_neg (fun z => hm (by rw [← z.2]; rfl)), if_pos ⟨vN_var n, vN_num n⟩, Nat.add_mul, Nat.one_mul]
      omega
    · rw [app_else (hn d (.head _)) e, if_neg (c := isVarN d = true ∧ numN d = n) fun z => e (by rw [← z.2]; exact var_vN (hn d (.head _)) z.1), Nat.zero_add (cntN n ds)]
      simp only [cntN]
      omega
theorem len_bind {n : Int} {v : List PyData} : ∀ {ds : List PyData}, (∀ d ∈ ds, NdA d) → ((appM [(n, v)] ds).length : Int) = (ds.length : Int) + (cntN n ds : Int) * ((v.length : Int) - 1)
  | [], _ => by simp [appM, cntN]
  | d :: ds, hn => by
    have ih := len_bind (n := n) (v := v) fun x hx => hn x (.tail _ hx)
    rw [appM_cons, List.length_append]
    simp only [cntN, List.length_cons]
    by_cases e : d = vN n
    · subst e
      rw [app_own, if_pos ⟨vN_var n, vN_num n⟩]
      have e1 : ((v.length + (appM [(n, v)] ds).length : Nat) : Int) = (v.length : Int) + ((appM [(n, v)] ds).length : Int) := by omega
      have e2 : ((1 + cntN n ds : Nat) : Int) * ((v.length : Int) - 1) = ((v.length : Int) - 1) + (cntN n ds : Int) * ((v.length : Int) - 1) := by
        rw [show ((1 + cntN n ds : Nat) : Int) = 1 + (cntN n ds : Int) by omega, Int.add_mul, Int.one_mul]
      rw [e1, ih, e2]
      omega
    · rw [app_else (hn d (.head _)) e, if_neg fun z => e (by rw [← z.2]; exact var_vN (hn d (.head _)) z.1), Nat.zero_add]
      have e1 : (([d].length + (appM [(n, v)] ds).length : Nat) : Int) = 1 + ((appM [(n, v)] ds).length : Int) := by rw [List.length_singleton]; omega
      rw [e1, ih]
      omega
/-- a dict that counts -/
def CntK (kvs : List (Key × V)) (f : Int → Nat) : Prop := ∀ n, (valV kvs (Sum.inl n) = some (.int (f n)) ∨ (valV kvs (Sum.inl n) = none ∧ f n = 0))
theorem valT_at : ∀ {t : Tab} {q : Int × List PyData}, (t.map (·.1)).Nodup → q ∈ t → valT t q.1 = some q.2
  | x :: t, q, h, hq => by
    obtain ⟨h1, h2⟩ := List.nodup_cons.mp h
    rw [valT_cons]
    rcases List.mem_cons.mp hq with rfl | hq
    · rw [if_pos rfl]
    · rw [if_neg fun z => h1 (by show x.1 ∈ _; rw [z]; exact List.mem_map.mpr ⟨q, hq, rfl⟩)]
      exact valT_at h2 hq
def stl (T F : Tab) : Tab := F.map fun q => (q.1, appM T q.2)
theorem stl_keys (T F : Tab) : (stl T F).map (·.1) = F.map (·.1) := by unfold stl; rw [List.map_map]; rfl
theorem Tri.list {F T : Tab} (h : Tri F T) (nd : (T.map (·.1)).Nodup) : stl T F = T := by
  have hl : F.length = T.length := by have := congrArg List.length h.keys; simpa using this
  refine List.ext_getElem? fun i => ?_
  unfold stl
  rw [List.getElem?_map]
  cases e : F[i]? with
  | none =>
    have := List.getElem?_eq_none_iff.mp e
    exact (List.getElem?_eq_none_iff.mpr (by omega)).symm
  | some q =>
    have hi := (List.getElem?_eq_some_iff.mp e).1
    have e2 : T[i]? = some T[i] := List.getElem?_eq_getElem (by omega)
    have k : q.1 = T[i].1 := by
      have a1 : (F.map (·.1))[i]? = some q.1 := by rw [List.getElem?_map, e]; rfl
      rw [h.keys, List.getElem?_map, e2] at a1
      exact (Option.some.inj a1).symm
    have v := valT_at nd (List.getElem_mem (show i < T.length by omega))
    rw [← k, h.val q (List.mem_of_getElem? e)] at v
    rw [e2]
    show some (q.1, appM T q.2) = some T[i]
    rw [Option.some.inj v, k]
theorem valT_rev {t : Tab} (h : (t.map (·.1)).Nodup) (n : Int) : valT t.reverse n = valT t n := by
  cases e : valT t n with
  | none =>
    refine valT_notin fun m => ?_
    obtain ⟨q, hq, rfl⟩ := List.mem_map.mp m
    exact valT_none e q (List.mem_reverse.mp hq) rfl
  | some w =>
    have hr : (t.reverse.map (·.1)).Nodup := by rw [List.map_reverse]; exact List.pairwise_reverse.mpr (List.Pairwise.imp Ne.symm h)
    have hq : ∃ q ∈ t, q.1 = n ∧ q.2 = w := by
      unfold valT at e
      cases f : t.find? fun p => decide (p.1 = n) with
      | none => rw [f] at e; cases e
      | some q =>
        rw [f] at e
        exact ⟨q, List.mem_of_find?_eq_some f, of_decide_eq_true (List.find?_some (p := fun p : Int × List PyData => decide (p.1 = n)) f), Option.some.inj e⟩
    obtain ⟨q, hq, rfl, rfl⟩ := hq
    exact valT_at hr (List.mem_reverse.mpr hq)
theorem app_congr {t u : Tab} : ∀ {ds : List PyData}, (∀ d ∈ ds, NdA d) → (∀ n, vN n ∈ ds → valT t n = valT u n) → appM t ds = appM u ds
  | [], _, _ => rfl
  | d :: ds, hn, h => by
    rw [appM_cons, appM_cons, app_congr (fun x hx => hn x (.tail _ hx)) fun n m => h n (.tail _ m)]
    congr 1
    by_cases v : isVarN d = true
    · unfold appN
      rw [if_pos v, if_pos v, h (numN d) (by rw [← var_vN (hn d (.head _)) v]; exact .head _)]
    · rw [appN_non v, appN_non v]
theorem Tri.valM {F T : Tab} (h : Tri F T) (n : Int) : valT T n = (valT F n).map (appM T) := by
  cases e : valT F n with
  | none =>
    refine valT_notin fun m => ?_
    obtain ⟨q, hq, rfl⟩ := List.mem_map.mp ((h.key _).mpr m)
    exact valT_none e q hq rfl
  | some w =>
    have hq : ∃ q ∈ F, q.1 = n ∧ q.2 = w := by
      unfold valT at e
      cases f : F.find? fun p => decide (p.1 = n) with
      | none => rw [f] at e; cases e
      | some q =>
        rw [f] at e
        exact ⟨q, List.mem_of_find?_eq_some f, of_decide_eq_true (List.find?_some (p := fun p : Int × List PyData => decide (p.1 = n)) f), Option.some.inj e⟩
    obtain ⟨q, hq, rfl, rfl⟩ := hq
    exact h.val q hq
theorem tri_at : ∀ {F : Tab} {i : Nat} {q : Int × List PyData}, TriR F → F[i]? = some q → ∀ x ∈ F.take (i + 1), vN x.1 ∉ q.2
  | [], _, _, _, e, _, _ => by simp at e
  | y :: F, 0, q, h, e, x, hx => by
    have e' : y = q := by simpa using e
    have hx' : x = y := by simpa using hx
    rw [hx', ← e']
    exact h.1 y (.head _)
  | y :: F, i + 1, q, h, e, x, hx => by
    have e' : F[i]? = some q := by simpa using e
    rw [List.take_succ_cons] at hx
    rcases List.mem_cons.mp hx with rfl | hx
    · exact h.1 q (.tail _ (List.mem_of_getElem? e'))
    · exact tri_at h.2 e' x hx
/-- settled from the last binding on -/
theorem settle_at {F T : Tab} (h : Tri F T) (nd : (T.map (·.1)).Nodup) {i : Nat} {q : Int × List PyData} (e : F[i]? = some q) : appM (stl T (F.drop (i + 1))).reverse q.2 = appM T q.2 := by
  have ndF : (F.map (·.1)).Nodup := by rw [h.keys]; exact nd
  refine app_congr (h.tm q (List.mem_of_getElem? e)).2 fun n m => ?_
  have nd2 : ((stl T (F.drop (i + 1))).map (·.1)).Nodup := by
    rw [stl_keys, List.map_drop]
    exact List.Nodup.sublist (List.drop_sublist _ _) ndF
  rw [valT_rev nd2, h.valM n]
  unfold stl
  rw [valT_map]
  congr 1
  have out : n ∉ (F.take (i + 1)).map (·.1) := fun z => by
    obtain ⟨x, hx, rfl⟩ := List.mem_map.mp z
    exact tri_at h.tri e x hx m
  have : valT F n = valT (F.take (i + 1) ++ F.drop (i + 1)) n := by rw [List.take_append_drop]
  rw [this, valT_app, valT_notin out]
theorem valV_get {K : PySem.W.Frag} {H : Hp} : ∀ {kvs : List (Key × V)} {t : Tab} {i : Nat} {kv : Key × V}, TabK K H kvs t → (t.map (·.1)).Nodup → kvs[i]? = some kv → valV kvs kv.1 = some kv.2
  | [], _, _, _, _, _, e => by simp at e
  | _ :: _, [], _, _, h, _, _ => h.elim
  | p :: kvs, q :: t, 0, kv, h, _, e => by
    rw [List.getElem?_cons_zero] at e
    cases e
    exact valV_pos rfl
  | p :: kvs, q :: t, i + 1, kv, h, nd, e => by
    rw [List.getElem?_cons_succ] at e
    obtain ⟨n1, n2⟩ := List.nodup_cons.mp nd
    obtain ⟨x, hx, hx1, _⟩ := TabK.get h.2.2 e
    rw [valV_neg fun z => n1 ?_]
    · exact valV_get h.2.2 n2 e
    · rw [h.1, hx1] at z
      have z2 := Sum.inl.inj z
      show q.1 ∈ _
      rw [z2]
      exact List.mem_map.mpr ⟨x, List.mem_of_getElem? hx, rfl⟩
theorem sqT_ins {K : PySem.W.Frag} {H : Hp} {p b C dx : Addr} {fs : List (Str × V)} {o : HO} {xs : List V} (hp : H p = some (.ins C dx fs)) (h : SqT K H b xs) : SqT K (upd H p o) b xs := by
  rcases h with (h | ⟨u, h⟩) | h
  · exact .inl (.inl (by rw [upd_ne (ne_of h hp (by intro z; cases z))]; exact h))
  · exact .inl (.inr ⟨u, by rw [upd_ne (ne_of h hp (by intro z; cases z))]; exact h⟩)
  · exact .inr h
theorem max3_int (a b c : Int) : nuMax3 (.int a) (.int b) (.int c) = some (.int (max (max a b) c)) := by
  show (nuMax2 (.int a) (.int b)).bind (fun m => nuMax2 m (.int c)) = _
  have h : ∀ x y : Int, nuMax2 (.int x) (.int y) = some (.int (max x y)) := fun x y => by
    show some (if decide (x < y) = true then V.int y else V.int x) = _
    by_cases q : x < y
    · rw [if_pos (decide_eq_true q), Int.max_eq_right (Int.le_of_lt q)]
    · rw [if_neg (fun z => q (of_decide_eq_true z)), Int.max_eq_left (Int.not_lt.mp q)]
  rw [h]
  exact h _ _
theorem dp_tup {K : PySem.W.Frag} {H : Hp} {v : V} {ds : List PyData} (h : Dp K H v (.tuple ds)) : ∃ a xs, v = .ref a ∧ SqT K H a xs ∧ DpAll K H xs ds := by
  cases h with
  | tup s a => exact ⟨_, _, rfl, s, a⟩
/-! ### the promises of unification -/
def sp_is_variable (K : PySem.W.Frag) : Sp := fun vs H Q _ => ∃ (x : V) (d : PyData), vs = [x] ∧ Dp K H x d ∧ NdA d ∧ Q (.bl (isVarN d)) H
def sp_is_symbol (K : PySem.W.Frag) : Sp := fun vs H Q _ => ∃ (x : V) (d : PyData), vs = [x] ∧ Dp K H x d ∧ NdA d ∧ Q (.bl (isSymN d)) H
def sp_arity_of (K : PySem.W.Frag) : Sp := fun vs H Q _ => ∃ (x : V) (d : PyData), vs = [x] ∧ Dp K H x d ∧ NdA d ∧ Q (.int (arN d : Nat)) H
/-- a Side: the stack at r, the dict that counts at c -/
structure SideA (K : PySem.W.Frag) (H : Hp) (p r c : Addr) (n : Int) : Prop where
  ob : ∃ dx, H p = some (.ins (clsA K "Side") dx (fs_Side (.ref r) (.int n) (.ref c)))
/-- the stack holds these nodes, the first on top -/
structure StkA (K : PySem.W.Frag) (H : Hp) (r : Addr) (ds : List PyData) : Prop where
  at_ : ∃ xs, H r = some (.lst xs) ∧ DpAll K H xs ds.reverse
  nd : ∀ d ∈ ds, NdA d
structure CntA (H : Hp) (c : Addr) (f : Int → Nat) (m : Nat) : Prop where
  at_ : ∃ kvs, H c = some (.dK kvs) ∧ CntK kvs f ∧ kvs.length ≤ m
structure FndA (K : PySem.W.Frag) (H : Hp) (d : Addr) (F : Tab) : Prop where
  at_ : ∃ kvs, H d = some (.dK kvs) ∧ TabK K H kvs F
def notKey (F : Tab) (d : PyData) : Prop := isVarN d = true → valT F (numN d) = none
def sp_Side_take (K : PySem.W.Frag) : Sp := fun vs H Q _ => ∃ (p r c d : Addr) (n : Int) (ds : List PyData) (F T : Tab), vs = [.ref p, .ref d] ∧ SideA K H p r c n ∧ StkA K H r ds ∧ FndA K H d F ∧ Tri F T ∧ TabT T ∧ ds ≠ [] ∧ (appM T ds).length ≤ 100000 ∧
  ∀ v e ds' H', NdA e → notKey F e → appM T ds = e :: appM T ds' → StkA K H' r ds' → Dp K H' v e → But r H H' → Q v H'
def sp_Side_take_rest (K : PySem.W.Frag) : Sp := fun vs H Q _ => ∃ (p r c d : Addr) (n : Int) (x : V) (e : PyData) (ds : List PyData) (F T : Tab) (k : Nat), vs = [.ref p, x, .ref d] ∧ SideA K H p r c n ∧ StkA K H r ds ∧ FndA K H d F ∧ Tri F T ∧ TabT T ∧ Dp K H x e ∧ NdA e ∧ Tms (k + 1) (e :: appM T ds) ∧ (appM T ds).length ≤ 90000 ∧
  ∀ v ds' H', appM T ds' = (e :: appM T ds).drop (tk 1 (e :: appM T ds)) → StkA K H' r ds' → Dp K H' v (.tuple (sub1 (e :: appM T ds))) → But r H H' → Q v H'
def sp_Side_add_variables (K : PySem.W.Frag) : Sp := fun vs H Q _ => ∃ (p r c : Addr) (n : Int) (x : V) (ds : List PyData) (t : Int) (f : Int → Nat) (m : Nat), vs = [.ref p, x, .int t] ∧ SideA K H p r c n ∧ CntA H c f m ∧ Dp K H x (.tuple ds) ∧ (∀ d ∈ ds, NdA d) ∧ 0 ≤ t ∧ m + ds.length ≤ 10000000 ∧ t ≤ 100000 ∧
  ∀ H', CntA H' c (fun n => f n + t.toNat * cntN n ds) (m + ds.length) → But c H H' → Q .non H'
def sp_Side_bind (K : PySem.W.Frag) : Sp := fun vs H Q _ => ∃ (p r c : Addr) (n : Int) (x : V) (ds : List PyData) (y : Int) (f : Int → Nat) (m : Nat), vs = [.ref p, .int y, x] ∧ SideA K H p r c n ∧ CntA H c f m ∧ Dp K H x (.tuple ds) ∧ (∀ d ∈ ds, NdA d) ∧ m + ds.length ≤ 10000000 ∧ f y ≤ 100000 ∧ ds.length ≤ 100000 ∧
  ∀ H', SideA K H' p r c (n + (f y : Int) * ((ds.length : Int) - 1)) → CntA H' c (fun z => (if z = y then 0 else f z) + f y * cntN z ds) (m + ds.length) → (∀ b o, b ≠ p → b ≠ c → H b = some o → H' b = some o) → Q .non H'
def sp_Side___init__ (K : PySem.W.Frag) : Sp := fun vs H Q _ => ∃ (p dx : Addr) (x : V) (ds : List PyData), vs = [.ref p, x] ∧ H p = some (.ins (clsA K "Side") dx []) ∧ Dp K H x (.tuple ds) ∧ (∀ d ∈ ds, NdA d) ∧ ds.length ≤ 100000 ∧
  ∀ r c H', H r = Option.none → H c = Option.none → SideA K H' p r c (ds.length : Int) → StkA K H' r ds → CntA H' c (fun n => cntN n ds) ds.length → r ≠ p → c ≠ p → r ≠ c → But p H H' → Q .non H'
theorem appM_none (ds : List PyData) : appM [] ds = ds := by
  induction ds with
  | nil => rfl
  | cons d ds ih =>
    rw [appM_cons, ih]
    show (if isVarN d = true then [d] else [d]) ++ ds = _
    rw [ite_self]
    rfl
theorem eq_nd {d e : PyData} (h : NdA d) (h2 : NdA e) : PyData.eqv d e = true ↔ d = e := ⟨nd_eq h h2, fun w => by
  subst w
  obtain ⟨wd, h⟩ := h
  cases h <;> simp [PyData.eqv, PyData.eqvAll]⟩
theorem any_nd {ds : List PyData} {x : PyData} (h : ∀ d ∈ ds, NdA d) (hx : NdA x) : (ds.any fun z => PyData.eqv z x) = true ↔ x ∈ ds := by
  rw [List.any_eq_true]
  exact ⟨fun ⟨d, hd, q⟩ => by rw [← nd_eq (h d hd) hx q]; exact hd, fun q => ⟨x, q, (eq_nd hx hx).mpr rfl⟩⟩
theorem none_back {H H' : Hp} (s : Same H H') {a : Addr} (h : H' a = Option.none) : H a = Option.none := by
  cases e : H a with
  | none => rfl
  | some o => rw [s _ _ e] at h; cases h
def toA (a b : PyData) : Bool := isVarN a && !(isVarN b && decide (numN a < numN b))
theorem bind_A {a b : PyData} {l r : List PyData} (ha : NdA a) (hb : NdA b) (ne : a ≠ b) (h : toA a b = true) : bindM (a :: l) (b :: r) = some (numN a, sub1 (b :: r)) := by
  unfold toA at h
  rw [Bool.and_eq_true] at h
  simp only [bindM]
  rw [if_pos h.1]
  by_cases vb : isVarN b = true
  · rw [if_pos vb]
    rw [vb, Bool.true_and] at h
    have h2 : ¬ numN a < numN b := fun w => by rw [decide_eq_true w] at h; exact absurd h.2 (by decide)
    have h3 : numN a ≠ numN b := fun w => ne (by rw [var_vN ha h.1, var_vN hb vb, w])
    rw [if_pos (by omega)]
    have e := var_vN hb vb
    rw [show sub1 (b :: r) = [vN (numN b)] by rw [e, sub_var]; rfl]
    rfl
  · rw [if_neg vb]
theorem bind_B {a b : PyData} {l r : List PyData} (ha : NdA a) (hb : NdA b) (h : toA a b = false) (vb : isVarN b = true) : bindM (a :: l) (b :: r) = some (numN b, sub1 (a :: l)) := by
  unfold toA at h
  simp only [bindM]
  by_cases va : isVarN a = true
  · rw [va, vb, Bool.true_and, Bool.true_and] at h
    have h2 : numN a < numN b := by
      by_cases w : numN a < numN b
      · exact w
      · rw [decide_eq_false w] at h; exact absurd h (by decide)
    rw [if_pos va, if_pos vb, if_neg (by omega)]
    have e := var_vN ha va
    rw [show sub1 (a :: l) = [vN (numN a)] by rw [e, sub_var]; rfl]
    rfl
  · rw [if_neg va, if_pos vb]
theorem bind_C {a b : PyData} {l r : List PyData} (h : toA a b = false) (vb : isVarN b = false) : bindM (a :: l) (b :: r) = none := by
  unfold toA at h
  rw [vb, Bool.false_and, Bool.not_false, Bool.and_true] at h
  simp only [bindM]
  rw [h, vb]
  rfl
theorem app_self {n : Int} {v : List PyData} (hv : ∀ d ∈ v, NdA d) (h : vN n ∉ v) : appM [(n, v)] v = v := appM_free hv fun q hq => by rw [List.mem_singleton.mp hq]; exact h
theorem app_sing (n : Int) (v : List PyData) : appM [(n, v)] [vN n] = v := by rw [appM_cons, app_own, appM_nil, List.append_nil]
theorem cnt_le (n : Int) : ∀ ds : List PyData, cntN n ds ≤ ds.length
  | [] => Nat.le_refl _
  | d :: ds => by
    have := cnt_le n ds
    unfold cntN
    rw [List.length_cons]
    split <;> omega
theorem cnt_after {n : Int} {v ds : List PyData} (hv : ∀ d ∈ v, NdA d) (hd : ∀ d ∈ ds, NdA d) (own : vN n ∉ v) (z : Int) : (if z = n then 0 else cntN z ds) + cntN n ds * cntN z v = cntN z (appM [(n, v)] ds) := by
  by_cases e : z = n
  · subst e
    rw [if_pos rfl, (cnt_zero hv).mpr own, Nat.mul_zero, (cnt_zero (appM_nd (fun q hq => by rw [List.mem_singleton.mp hq]; exact hv) hd)).mpr (gone own hd)]
  · rw [if_neg e, cnt_bind e hd]
/-- two sides and the dict that was found -/
structure UH (K : PySem.W.Frag) (H : Hp) (o1 r1 c1 o2 r2 c2 z : Addr) (n1 n2 : Int) (ds1 ds2 : List PyData) (f1 f2 : Int → Nat) (M1 M2 : Nat) (F : Tab) : Prop where
  s1 : SideA K H o1 r1 c1 n1
  s2 : SideA K H o2 r2 c2 n2
  k1 : StkA K H r1 ds1
  k2 : StkA K H r2 ds2
  t1 : CntA H c1 f1 M1
  t2 : CntA H c2 f2 M2
  fd : FndA K H z F
  fn : TabN F
  oo : o1 ≠ o2
  rr : r1 ≠ r2
  cc : c1 ≠ c2
  z1 : z ≠ c1
  z2 : z ≠ c2
def KpP (a b : Addr) (H H' : Hp) : Prop := ∀ x o, x ≠ a → x ≠ b → H x = some o → H' x = some o
def nTup (H : Hp) (a : Addr) : Prop := ∃ o, H a = some o ∧ (∀ xs, o ≠ .tup xs) ∧ ∀ u xs, o ≠ .frz u (.tup xs)
theorem KpP.sqT {K : PySem.W.Frag} {a b : Addr} {H H' : Hp} (h : KpP a b H H') (na : nTup H a) (nb : nTup H b) {p : Addr} {xs : List V} (q : SqT K H p xs) : SqT K H' p xs := by
  obtain ⟨o, e, n1, n2⟩ := na
  obtain ⟨u, g, m1, m2⟩ := nb
  rcases q with (q | ⟨y, q⟩) | q
  · exact .inl (.inl (h _ _ (fun z => by rw [z, e] at q; exact n1 _ (Option.some.inj q)) (fun z => by rw [z, g] at q; exact m1 _ (Option.some.inj q)) q))
  · exact .inl (.inr ⟨y, h _ _ (fun z => by rw [z, e] at q; exact n2 _ _ (Option.some.inj q)) (fun z => by rw [z, g] at q; exact m2 _ _ (Option.some.inj q)) q⟩)
  · exact .inr q
theorem KpP.sqL {a : Addr} {H H' : Hp} (h : But a H H') : KpP a a H H' := fun x o n _ e => h x o n e
theorem CntA.cong {H : Hp} {c : Addr} {f g : Int → Nat} {m : Nat} (h : CntA H c f m) (e : ∀ z, f z = g z) : CntA H c g m := by rw [← show f = g from funext e]; exact h
section
variable {K : PySem.W.Frag} {H H' : Hp} {o1 r1 c1 o2 r2 c2 z a b : Addr} {n1 n2 : Int} {ds1 ds2 : List PyData} {f1 f2 : Int → Nat} {M1 M2 : Nat} {F : Tab}
theorem SideA.kp {p r c : Addr} {n : Int} (h : SideA K H p r c n) (k : KpP a b H H') (ha : p ≠ a) (hb : p ≠ b) : SideA K H' p r c n := by
  obtain ⟨dx, e⟩ := h.ob
  exact ⟨dx, k _ _ ha hb e⟩
theorem StkA.kp {r : Addr} {ds : List PyData} (h : StkA K H r ds) (k : KpP a b H H') (na : nTup H a) (nb : nTup H b) (ha : r ≠ a) (hb : r ≠ b) : StkA K H' r ds := by
  obtain ⟨xs, e, d⟩ := h.at_
  exact ⟨⟨xs, k _ _ ha hb e, dp_mapAll (fun _ _ q => k.sqT na nb q) _ _ (nds_noL fun x hx => h.nd x (List.mem_reverse.mp hx)) d⟩, h.nd⟩
theorem CntA.kp {c : Addr} {f : Int → Nat} {m : Nat} (h : CntA H c f m) (k : KpP a b H H') (ha : c ≠ a) (hb : c ≠ b) : CntA H' c f m := by
  obtain ⟨kvs, e, d⟩ := h.at_
  exact ⟨kvs, k _ _ ha hb e, d⟩
theorem FndA.kp {d : Addr} (h : FndA K H d F) (n : TabN F) (k : KpP a b H H') (na : nTup H a) (nb : nTup H b) (ha : d ≠ a) (hb : d ≠ b) : FndA K H' d F := by
  obtain ⟨kvs, e, t⟩ := h.at_
  exact ⟨kvs, k _ _ ha hb e, TabK.mono (fun _ _ hn hd => dp_map (fun _ _ q => k.sqT na nb q) _ _ (tup_noL hn) hd) n t⟩
theorem SideA.nt {p r c : Addr} {n : Int} (h : SideA K H p r c n) : nTup H p := by
  obtain ⟨dx, e⟩ := h.ob
  exact ⟨_, e, (fun _ w => by cases w), (fun _ _ w => by cases w)⟩
theorem StkA.nt {r : Addr} {ds : List PyData} (h : StkA K H r ds) : nTup H r := by
  obtain ⟨xs, e, d⟩ := h.at_
  exact ⟨_, e, (fun _ w => by cases w), (fun _ _ w => by cases w)⟩
theorem CntA.nt {c : Addr} {f : Int → Nat} {m : Nat} (h : CntA H c f m) : nTup H c := by
  obtain ⟨kvs, e, d⟩ := h.at_
  exact ⟨_, e, (fun _ w => by cases w), (fun _ _ w => by cases w)⟩
theorem FndA.nt {d : Addr} (h : FndA K H d F) : nTup H d := by
  obtain ⟨kvs, e, t⟩ := h.at_
  exact ⟨_, e, (fun _ w => by cases w), (fun _ _ w => by cases w)⟩
theorem ne_sk {p r c r' : Addr} {n : Int} {ds : List PyData} (h : SideA K H p r c n) (k : StkA K H r' ds) : p ≠ r' := by
  obtain ⟨dx, e⟩ := h.ob
  obtain ⟨xs, g, _⟩ := k.at_
  exact ne_of e g (by intro w; cases w)
theorem ne_sc {p r c c' : Addr} {n : Int} {f : Int → Nat} {m : Nat} (h : SideA K H p r c n) (k : CntA H c' f m) : p ≠ c' := by
  obtain ⟨dx, e⟩ := h.ob
  obtain ⟨xs, g, _⟩ := k.at_
  exact ne_of e g (by intro w; cases w)
theorem ne_sf {p r c d : Addr} {n : Int} (h : SideA K H p r c n) (k : FndA K H d F) : p ≠ d := by
  obtain ⟨dx, e⟩ := h.ob
  obtain ⟨xs, g, _⟩ := k.at_
  exact ne_of e g (by intro w; cases w)
theorem ne_kc {r c : Addr} {ds : List PyData} {f : Int → Nat} {m : Nat} (h : StkA K H r ds) (k : CntA H c f m) : r ≠ c := by
  obtain ⟨dx, e, _⟩ := h.at_
  obtain ⟨xs, g, _⟩ := k.at_
  exact ne_of e g (by intro w; cases w)
theorem ne_kf {r d : Addr} {ds : List PyData} (h : StkA K H r ds) (k : FndA K H d F) : r ≠ d := by
  obtain ⟨dx, e, _⟩ := h.at_
  obtain ⟨xs, g, _⟩ := k.at_
  exact ne_of e g (by intro w; cases w)
theorem UH.same (u : UH K H o1 r1 c1 o2 r2 c2 z n1 n2 ds1 ds2 f1 f2 M1 M2 F) (s : Same H H') : UH K H' o1 r1 c1 o2 r2 c2 z n1 n2 ds1 ds2 f1 f2 M1 M2 F := by
  obtain ⟨x1, e1, d1⟩ := u.k1.at_
  obtain ⟨x2, e2, d2⟩ := u.k2.at_
  obtain ⟨y1, g1, m1⟩ := u.t1.at_
  obtain ⟨y2, g2, m2⟩ := u.t2.at_
  obtain ⟨y3, g3, m3⟩ := u.fd.at_
  obtain ⟨d3, i1⟩ := u.s1.ob
  obtain ⟨d4, i2⟩ := u.s2.ob
  exact ⟨⟨d3, s _ _ i1⟩, ⟨d4, s _ _ i2⟩, ⟨⟨x1, s _ _ e1, dp_sameAll s _ _ d1⟩, u.k1.nd⟩, ⟨⟨x2, s _ _ e2, dp_sameAll s _ _ d2⟩, u.k2.nd⟩, ⟨y1, s _ _ g1, m1⟩, ⟨y2, s _ _ g2, m2⟩, ⟨y3, s _ _ g3, tab_same s u.fn m3⟩, u.fn, u.oo, u.rr, u.cc, u.z1, u.z2⟩
theorem UH.stk1 {ds : List PyData} (u : UH K H o1 r1 c1 o2 r2 c2 z n1 n2 ds1 ds2 f1 f2 M1 M2 F) (h : But r1 H H') (k : StkA K H' r1 ds) : UH K H' o1 r1 c1 o2 r2 c2 z n1 n2 ds ds2 f1 f2 M1 M2 F := by
  have kp := KpP.sqL h
  have n := u.k1.nt
  have a1 := ne_sk u.s1 u.k1
  have a2 := ne_sk u.s2 u.k1
  have a3 := (ne_kc u.k1 u.t1).symm
  have a4 := (ne_kc u.k1 u.t2).symm
  have a5 := (ne_kf u.k1 u.fd).symm
  exact ⟨u.s1.kp kp a1 a1, u.s2.kp kp a2 a2, k, u.k2.kp kp n n u.rr.symm u.rr.symm, u.t1.kp kp a3 a3, u.t2.kp kp a4 a4, u.fd.kp u.fn kp n n a5 a5, u.fn, u.oo, u.rr, u.cc, u.z1, u.z2⟩
theorem UH.stk2 {ds : List PyData} (u : UH K H o1 r1 c1 o2 r2 c2 z n1 n2 ds1 ds2 f1 f2 M1 M2 F) (h : But r2 H H') (k : StkA K H' r2 ds) : UH K H' o1 r1 c1 o2 r2 c2 z n1 n2 ds1 ds f1 f2 M1 M2 F := by
  have kp := KpP.sqL h
  have n := u.k2.nt
  have a1 := ne_sk u.s1 u.k2
  have a2 := ne_sk u.s2 u.k2
  have a3 := (ne_kc u.k2 u.t1).symm
  have a4 := (ne_kc u.k2 u.t2).symm
  have a5 := (ne_kf u.k2 u.fd).symm
  exact ⟨u.s1.kp kp a1 a1, u.s2.kp kp a2 a2, u.k1.kp kp n n u.rr u.rr, k, u.t1.kp kp a3 a3, u.t2.kp kp a4 a4, u.fd.kp u.fn kp n n a5 a5, u.fn, u.oo, u.rr, u.cc, u.z1, u.z2⟩
theorem UH.bnd1 {n : Int} {f : Int → Nat} {m : Nat} (u : UH K H o1 r1 c1 o2 r2 c2 z n1 n2 ds1 ds2 f1 f2 M1 M2 F) (kp : KpP o1 c1 H H') (s : SideA K H' o1 r1 c1 n) (t : CntA H' c1 f m) : UH K H' o1 r1 c1 o2 r2 c2 z n n2 ds1 ds2 f f2 m M2 F := by
  have n := u.s1.nt
  have n' := u.t1.nt
  exact ⟨s, u.s2.kp kp u.oo.symm (ne_sc u.s2 u.t1), u.k1.kp kp n n' (ne_sk u.s1 u.k1).symm (ne_kc u.k1 u.t1), u.k2.kp kp n n' (ne_sk u.s1 u.k2).symm (ne_kc u.k2 u.t1), t, u.t2.kp kp (ne_sc u.s1 u.t2).symm u.cc.symm, u.fd.kp u.fn kp n n' (ne_sf u.s1 u.fd).symm u.z1, u.fn, u.oo, u.rr, u.cc, u.z1, u.z2⟩
theorem UH.bnd2 {n : Int} {f : Int → Nat} {m : Nat} (u : UH K H o1 r1 c1 o2 r2 c2 z n1 n2 ds1 ds2 f1 f2 M1 M2 F) (kp : KpP o2 c2 H H') (s : SideA K H' o2 r2 c2 n) (t : CntA H' c2 f m) : UH K H' o1 r1 c1 o2 r2 c2 z n1 n ds1 ds2 f1 f M1 m F := by
  have n := u.s2.nt
  have n' := u.t2.nt
  exact ⟨u.s1.kp kp u.oo (ne_sc u.s1 u.t2), s, u.k1.kp kp n n' (ne_sk u.s2 u.k1).symm (ne_kc u.k1 u.t2), u.k2.kp kp n n' (ne_sk u.s2 u.k2).symm (ne_kc u.k2 u.t2), u.t1.kp kp (ne_sc u.s2 u.t1).symm u.cc, t, u.fd.kp u.fn kp n n' (ne_sf u.s2 u.fd).symm u.z2, u.fn, u.oo, u.rr, u.cc, u.z1, u.z2⟩
theorem UH.put {kvs : List (Key × V)} {n : Int} {x : V} {v : List PyData} (u : UH K H o1 r1 c1 o2 r2 c2 z n1 n2 ds1 ds2 f1 f2 M1 M2 F) (hz : H z = some (.dK kvs)) (nk : n ∉ F.map (·.1)) (nv : ∀ d ∈ v, NdA d) (dv : Dp K H x (.tuple v)) : UH K (upd H z (.dK (putK kvs (Sum.inl n) x))) o1 r1 c1 o2 r2 c2 z n1 n2 ds1 ds2 f1 f2 M1 M2 (F ++ [(n, v)]) := by
  have kp : KpP z z H (upd H z (.dK (putK kvs (Sum.inl n) x))) := fun b o hb _ e => by rw [upd_ne hb]; exact e
  have nt : nTup H z := u.fd.nt
  have ntz : notTup H z := .inr (.inl ⟨_, hz⟩)
  obtain ⟨kvs', e, tk⟩ := u.fd.at_
  rw [hz] at e
  cases e
  have a1 := ne_sf u.s1 u.fd
  have a2 := ne_sf u.s2 u.fd
  have a3 := ne_kf u.k1 u.fd
  have a4 := ne_kf u.k2 u.fd
  exact ⟨u.s1.kp kp a1 a1, u.s2.kp kp a2 a2, u.k1.kp kp nt nt a3 a3, u.k2.kp kp nt nt a4 a4, u.t1.kp kp u.z1.symm u.z1.symm, u.t2.kp kp u.z2.symm u.z2.symm,
    ⟨_, upd_same, TabK.add (tab_put ntz u.fn tk) nk (dp_put ntz _ _ (tup_noL nv) dv)⟩, fun q hq => (List.mem_append.mp hq).elim (u.fn q) fun w => by rw [List.mem_singleton.mp w]; exact nv, u.oo, u.rr, u.cc, u.z1, u.z2⟩
end
/-- a term's beginning that is a term itself is the whole of it -/
theorem cls_pre : ∀ (p l : List PyData) (m : Nat), Cls m p → Cls m (p ++ l) → l = []
  | [], [], _, _, _ => rfl
  | [], d :: l, m, h1, h2 => by
    have h1 : m = 0 := h1
    have := h2.1
    omega
  | d :: p, l, m, h1, h2 => cls_pre p l _ h1.2 h2.2
theorem same_len {p l r : List PyData} (hl : Tms 1 (p ++ l)) (hr : Tms 1 (p ++ r)) (h : r = []) : l = [] := by
  subst h
  rw [List.append_nil] at hr
  exact cls_pre _ _ _ hr.1 hl.1
def sp_apply (K : PySem.W.Frag) : Sp := fun vs H Q _ => ∃ (p : Addr) (F : Tab) (x : V) (ds : List PyData), vs = [.ref p, x] ∧ FndA K H p F ∧ TabT F ∧ Dp K H x (.tuple ds) ∧ (∀ d ∈ ds, NdA d) ∧ (appM F ds).length ≤ 2000000 ∧ ∀ v H', Same H H' → Dp K H' v (.tuple (appM F ds)) → Q v H'
def sp_settle (K : PySem.W.Frag) : Sp := fun vs H Q _ => ∃ (d : Addr) (F T : Tab), vs = [.ref d] ∧ FndA K H d F ∧ Tri F T ∧ (T.map (·.1)).Nodup ∧ TabT T ∧ (∀ q ∈ T, q.2.length ≤ 100000) ∧ F.length ≤ 100000 ∧ ∀ p H', Same H H' → H p = Option.none → FndA K H' p T → Q (.ref p) H'
def uniQ (K : PySem.W.Frag) (H : Hp) (Q : VK) (E : XK) : Res → Prop
  | .non => ∀ H', Same H H' → Q .non H'
  | .big => ∀ H', Same H H' → E (.ref (clsA K "TooLarge")) Option.none H'
  | .tab T => ∀ d H', Same H H' → H d = Option.none → FndA K H' d T → Q (.ref d) H'
def sp_unify_within (K : PySem.W.Frag) : Sp := fun vs H Q E => ∃ (x y : V) (L R : List PyData) (m : Int) (k : Nat) (s : Res), vs = [x, y, .int m] ∧ Dp K H x (.tuple L) ∧ Dp K H y (.tuple R) ∧ Tms 1 L ∧ Tms 1 R ∧ L.length ≤ 1000 ∧ R.length ≤ 1000 ∧ 0 ≤ m ∧ m ≤ 1000 ∧
  Eg (max m.toNat (max L.length R.length)) k L R [] s ∧ k ≤ 2000 ∧ uniQ K H Q E s
def sp_unify (K : PySem.W.Frag) : Sp := fun vs H Q E => ∃ (x y : V) (L R : List PyData) (k : Nat) (s : Res), vs = [x, y] ∧ Dp K H x (.tuple L) ∧ Dp K H y (.tuple R) ∧ Tms 1 L ∧ Tms 1 R ∧ L.length ≤ 1000 ∧ R.length ≤ 1000 ∧
  Eg (max 200 (max L.length R.length)) k L R [] s ∧ k ≤ 2000 ∧ uniQ K H Q E s
/-! ### small things that many proofs want -/
theorem dp_lst {K : PySem.W.Frag} {H : Hp} {v : V} {ds : List PyData} (h : Dp K H v (.list ds)) : ∃ a xs, v = .ref a ∧ SqL K H a xs ∧ DpAll K H xs ds := by
  cases h with
  | lst s a => exact ⟨_, _, rfl, s, a⟩
theorem keep_frz {H H' : Hp} {p : Addr} {k : List (Key × V)} (hp : H p = some (.dK k)) {o : HO} (s : Same (upd H p o) H') : Same H (upd H' p (.dK k)) := fun b o e => by
  by_cases z : b = p
  · subst z
    rw [hp] at e
    rw [upd_same]
    exact e
  · rw [upd_ne z]
    exact s b o (by rw [upd_ne z]; exact e)
theorem same_sqL {K : PySem.W.Frag} {H H' : Hp} {a : Addr} {xs : List V} (e : Same H H') (h : SqL K H a xs) : SqL K H' a xs := e.seq h
theorem same_new {H H' : Hp} {p : Addr} {o : HO} (np : H p = Option.none) (s : Same H H') : Same H (upd H' p o) := fun b u e => by rw [upd_ne (ne_of_none e np)]; exact s b u e
theorem noLA_of : ∀ {ds : List PyData}, (∀ d ∈ ds, noL d = true) → noLA ds = true
  | [], _ => by simp [noLA]
  | d :: r, h => by rw [noLA, h d (.head _), noLA_of fun e he => h e (.tail _ he)]; rfl
theorem isi_of {K : PySem.W.Frag} {H : Hp} {x : V} {t u : String} {b : Bool} {Q : VK} (h : TyX K H x (.type t)) (k : kitB t u = some b) (q : Q (.bl b) H) : rIsi K [x, .ty u] H Q := ⟨x, .ty u, _, _, _, rfl, .ty _, h, kit_ty k, q⟩
theorem kit_tt : kitB "tuple" "tuple" = some true := by decide +kernel
theorem kit_dd : kitB "dict" "dict" = some true := by decide +kernel
theorem kit_ll : kitB "list" "list" = some true := by decide +kernel
theorem kit_ib : kitB "int" "bool" = some false := by decide +kernel
theorem cat_dpA {K : PySem.W.Frag} {H : Hp} {x y : V} {ds es : List PyData} {Q : VK} (hx : Dp K H x (.tuple ds)) (hy : Dp K H y (.tuple es)) (hz : ds.length + es.length ≤ 1000) (h : ∀ v H', Same H H' → Dp K H' v (.tuple (ds ++ es)) → Q v H') : rCatA K x y H Q := by
  have hx0 := hx
  have hy0 := hy
  cases hx with
  | @tup a xs _ sx ax =>
  cases hy with
  | @tup b ys _ sy ay =>
  have lx := DpAll.len ax
  have ly := DpAll.len ay
  refine ⟨a, b, xs, ys, rfl, rfl, sx, sy, small_of (by omega), fun z => ?_, fun z => ?_, fun p np => ?_⟩
  · subst z
    cases ax
    exact h _ H (Same.refl H) hy0
  · subst z
    cases ay
    rw [List.append_nil] at h
    exact h _ H (Same.refl H) hx0
  · exact h _ _ (same_upd np) (.tup (SqT.of upd_same) (dp_sameAll (same_upd np) _ _ (DpAll.app ax ay)))
/-! ### definite clauses -/
theorem dp_cut {K : PySem.W.Frag} {H : Hp} {x : V} {ds es : List PyData} {lo hi : Option Int} {Q : VK} (iv : Dp K H x (.tuple ds)) (hc : ∀ xs : List V, DpAll K H xs ds → DpAll K H (cutV xs lo hi) es) (h : ∀ v H', Same H H' → Dp K H' v (.tuple es) → Q v H') : rSlA K x lo hi H Q := by
  cases iv with
  | @tup a xs _ g ia =>
  refine ⟨a, xs, rfl, g, fun z => ?_, fun z p np => ?_⟩
  · have hw : cutV xs lo hi = xs := by
      unfold cutV
      rw [z.1, z.2, List.drop_zero, Nat.sub_zero, List.take_length]
    have := hc xs ia
    rw [hw] at this
    exact h _ H (Same.refl H) (.tup g this)
  · exact h _ _ (same_upd np) (.tup (SqT.of upd_same) (dp_sameAll (same_upd np) _ _ (hc xs ia)))
theorem dp_take {K : PySem.W.Frag} {H : Hp} {x : V} {ds : List PyData} {k : Nat} {Q : VK} (iv : Dp K H x (.tuple ds)) (hk : k ≤ ds.length) (h : ∀ v H', Same H H' → Dp K H' v (.tuple (ds.take k)) → Q v H') : rSlA K x Option.none (some (k : Int)) H Q :=
  dp_cut iv (fun xs ia => by
    unfold cutV
    rw [HT.sIx_none, HT.sIx_nat, Nat.min_eq_left (by rw [DpAll.len ia]; exact hk), List.drop_zero, Nat.sub_zero]
    exact DpAll.taket _ ia) h
theorem dp_drop {K : PySem.W.Frag} {H : Hp} {x : V} {ds : List PyData} {k : Nat} {Q : VK} (iv : Dp K H x (.tuple ds)) (hk : k ≤ ds.length) (h : ∀ v H', Same H H' → Dp K H' v (.tuple (ds.drop k)) → Q v H') : rSlA K x (some (k : Int)) Option.none H Q :=
  dp_cut iv (fun xs ia => by
    unfold cutV
    rw [HT.sIx_none, HT.sIx_nat, Nat.min_eq_left (by rw [DpAll.len ia]; exact hk), List.take_of_length_le (by rw [List.length_drop]; exact Nat.le_refl _)]
    exact DpAll.dropt _ ia) h
theorem nopart_of {σ : L2.St} {H : Hp} {Q : Option Int → Hp → Prop} (h : Q Option.none H) : tNoPart σ H Q := h
/-! ### matching -/

def rRepA (K : PySem.W.Frag) : R2 := fun x y H Q => ∃ l k xs, x = .ref l ∧ y = .int k ∧ SqT K H l xs ∧ xs ≠ [] ∧ 0 ≤ k ∧ k ≤ 1000 ∧ xs.length ≤ 1000 ∧ (k = 1 → Q (.ref l) H) ∧ ∀ p, H p = Option.none → Q (.ref p) (upd H p (.tup (List.replicate k.toNat xs).flatten))
theorem tuple_mul0 (l : Addr) (items : Array Value) (n : Nat) (dd : Option Addr) (sl : Array (Option Value)) (u : Tok) (c1 : items.isEmpty = false) :
    Meets (Builtin.«tuple.__mul__» ⟨[.ref l, .int 0 u], []⟩) (fun _ R s => s.heap.get? l = some { cls := .type "tuple", dict := dd, data := .seq items n, slots := sl } ∧
      R (.ok (.ret (Value.ref s.heap.objs.size))) { s with heap := s.heap.push { cls := Value.type "tuple", data := Data.seq #[] }, toks := s.toks }) :=
  .of_wp fun prog w A R s h => by
    obtain ⟨hp, g, d, tk, os⟩ := s
    obtain ⟨hl, h⟩ := h
    have f1 := AutoSeq1.idx_int
    have e1 : (items.isEmpty || (0 : Int) == 1) = false := by rw [c1]; rfl
    have e2 : (decide ((0 : Int) ≤ 0) || items.isEmpty) = true := by rw [c1]; rfl
    wp_walk using wpAny_loadPart' hl
    repeat (first
      | (refine wpAny_ite_false (decide_eq_false (by rw [e1]; exact Bool.false_ne_true)) ?_; wp_walk using wpAny_loadPart' hl)
      | (refine wpAny_ite_true (decide_eq_true e2) ?_; wp_walk using wpAny_loadPart' hl))
    exact ⟨_, rfl, h⟩
theorem tuple_mul1 (l : Addr) (items : Array Value) (n : Nat) (dd : Option Addr) (sl : Array (Option Value)) (u : Tok) :
    Meets (Builtin.«tuple.__mul__» ⟨[.ref l, .int 1 u], []⟩) (fun _ R s => s.heap.get? l = some { cls := .type "tuple", dict := dd, data := .seq items n, slots := sl } ∧
      R (.ok (.ret (Value.ref l))) s) :=
  .of_wp fun prog w A R s h => by
    obtain ⟨hp, g, d, tk, os⟩ := s
    obtain ⟨hl, h⟩ := h
    have f1 := AutoSeq1.idx_int
    have e1 : (items.isEmpty || (1 : Int) == 1) = true := by cases items.isEmpty <;> rfl
    wp_walk using wpAny_loadPart' hl
    repeat (first
      | (refine wpAny_ite_true (decide_eq_true e1) ?_; wp_walk using wpAny_loadPart' hl))
    exact ⟨_, rfl, h⟩

theorem op_repA {X : Cx} : OpR X (binaryOp .Mult) (rRepA X.K) := by
  intro pins s σ H x y v u Q I rx ry h
  obtain ⟨l, k, xs, rfl, rfl, hT, hne, h1, h2, hz, q1, q⟩ := h
  by_cases k2 : 2 ≤ k
  · exact op_repT pins s σ H (.ref l) (.int k) v u Q I rx ry ⟨l, k, xs, rfl, rfl, hT, hne, k2, h2, hz, q⟩
  · cases rx
    obtain ⟨t, rfl⟩ := ry
    obtain ⟨its, r, ⟨⟨cls, dd, data, sl⟩, ho, hc, n, hd⟩, hs⟩ := I.tuple hT
    simp only at hc hd
    subst hc hd
    have hle : its.length = xs.length := r.length.symm
    have hn : its ≠ [] := fun e => hne (by
      rw [e] at hle
      exact List.eq_nil_of_length_eq_zero hle.symm)
    have hi : its.toArray.isEmpty = false := by
      cases its with
      | nil => exact absurd rfl hn
      | cons a b => rfl
    rcases (show k = 0 ∨ k = 1 by omega) with e | e
    · subst e
      refine wpAny_binaryOp_repeat_ref (T := "tuple") (U := "int") (by decide) ⟨_, ho, rfl⟩ (fun s' => typeIs_int s' 0 t) noFill_tuple_mul F.fills_int_mul F.slot_int_rmul repeat_tuple F.slot_int_index.lookup
        (call_meets F.slot_int_rmul (typeIs_int s 0 t) F.entry_int_rmul (F.args_int_rmul_2 _ _) (int_rmul_tuple 0 t l its.toArray n dd sl)
          ⟨ho, rfl, ⟨_, ho, rfl⟩, call_meets F.slot_tuple_mul ⟨_, ho, rfl⟩ F.entry_tuple_mul (F.args_tuple_mul_2 _ _) (tuple_mul0 l its.toArray n dd sl t hi) ⟨ho, ?_⟩⟩)
      refine ⟨.ref s.heap.objs.size, _, I.laid (t' := s.toks) (o := .tup (List.replicate (0 : Int).toNat xs).flatten) (fun b ob q => Heap.get?_push_of_some _ q) (Nat.le_refl _) ?_, rfl, q _ (I.hok.fresh (Nat.le_refl _))⟩
      exact ⟨by show 0 ≤ sizeLine; exact Nat.zero_le _, [], .nil, IsTup.new _ _⟩
    · subst e
      exact wpAny_binaryOp_repeat_ref (T := "tuple") (U := "int") (by decide) ⟨_, ho, rfl⟩ (fun s' => typeIs_int s' 1 t) noFill_tuple_mul F.fills_int_mul F.slot_int_rmul repeat_tuple F.slot_int_index.lookup
        (call_meets F.slot_int_rmul (typeIs_int s 1 t) F.entry_int_rmul (F.args_int_rmul_2 _ _) (int_rmul_tuple 1 t l its.toArray n dd sl)
          ⟨ho, rfl, ⟨_, ho, rfl⟩, call_meets F.slot_tuple_mul ⟨_, ho, rfl⟩ F.entry_tuple_mul (F.args_tuple_mul_2 _ _) (tuple_mul1 l its.toArray n dd sl t) ⟨ho, ⟨.ref l, H, I, rfl, q1 rfl⟩⟩⟩)
def pd (p : Str × Int) : PyData := .tuple [.str p.1, .int p.2]
def nodeF (x : Str) (n : Int) : PyData := .tuple [.str "f", .str x, .int n]
def trueN : PyData := nodeF "true" 0
def commaN : PyData := nodeF "," 2
def clN : PyData := nodeF ":-" 2
def CTL : List (Str × Int) := [("true", 0), ("fail", 0), ("!", 0), (",", 2), (";", 2), ("->", 2), ("\\+", 1), ("call", 1), ("call", 2), ("call", 3), ("call", 4), ("call", 5), ("call", 6), ("call", 7), ("call", 8), ("catch", 3), ("findall", 3), ("throw", 1)]
def BIN : List (Str × Int) := [("=", 2), ("\\=", 2), ("==", 2), ("\\==", 2), ("@<", 2), ("compare", 3), ("var", 1), ("nonvar", 1), ("atom", 1), ("integer", 1), ("callable", 1), ("functor", 3), ("arg", 3), ("=..", 2), ("copy_term", 2), ("sort", 2), ("is", 2), ("=:=", 2), ("<", 2), ("=<", 2), ("write", 1), ("nl", 0), ("asserta", 1), ("assertz", 1), ("retract", 1), ("tabled", 1), ("solve", 2)]
def LC1 : List (Str × Int) := [("true", 0), ("fail", 0), ("!", 0), (",", 2), (";", 2), ("->", 2), ("\\+", 1), ("catch", 3)]
def LC2 : List (Str × Int) := [("findall", 3), ("throw", 1), ("=", 2), ("\\=", 2), ("==", 2), ("\\==", 2), ("@<", 2)]
def LC3 : List (Str × Int) := [("compare", 3), ("var", 1), ("nonvar", 1), ("atom", 1), ("integer", 1), ("callable", 1)]
def LC4 : List (Str × Int) := [("functor", 3), ("arg", 3), ("=..", 2), ("copy_term", 2), ("sort", 2), ("is", 2)]
def LC5 : List (Str × Int) := [("=:=", 2), ("<", 2), ("=<", 2), ("write", 1), ("nl", 0), ("asserta", 1), ("assertz", 1)]
def LC6 : List (Str × Int) := [("retract", 1), ("tabled", 1), ("solve", 2)]
def LCT : List (Str × Int) := LC1 ++ LC2 ++ LC3 ++ LC4 ++ LC5 ++ LC6
def ON1 : List (Str × Int) := [("fail", 0), ("!", 0), (";", 2), ("->", 2), ("\\+", 1), ("catch", 3), ("findall", 3), ("throw", 1)]
def ON2 : List (Str × Int) := [("call", 1), ("call", 8), ("=", 2), ("is", 2), ("write", 1), ("nl", 0), ("assertz", 1)]
def ON3 : List (Str × Int) := [("retract", 1), ("tabled", 1), ("solve", 2), ("sort", 2), ("functor", 3), ("<", 2)]
def ON4 : List (Str × Int) := [("compare", 3), ("var", 1), ("nonvar", 1), ("atom", 1), ("integer", 1), ("arg", 3)]
def NEAR : List (Str × Int) := [("fail", 1), ("!", 2), (";", 1), ("->", 3), ("call", 0), ("true", 1), (":-", 1), ("tabled", 2), ("in", 2)]
def ON5 : List (Str × Int) := [("callable", 1), ("copy_term", 2), ("=..", 2), ("\\=", 2), ("==", 2), ("\\==", 2), ("@<", 2), ("=:=", 2), ("=<", 2), ("asserta", 1)]
def isG : PyData → Bool
  | .tuple [_, .str x, .int n] => !(decide ((x, n) ∈ CTL) || decide ((x, n) ∈ BIN))
  | _ => false
theorem any_pd (x : Str) (n : Int) : ∀ l : List (Str × Int), (l.map pd).any (fun z => PyData.eqv z (pd (x, n))) = decide ((x, n) ∈ l)
  | [] => rfl
  | (y, k) :: l => by
    rw [List.map_cons, List.any_cons, any_pd x n l]
    have e : PyData.eqv (pd (y, k)) (pd (x, n)) = decide ((x, n) = (y, k)) := by
      unfold pd
      simp only [PyData.eqv, PyData.eqvAll, Bool.and_true]
      rw [Bool.eq_iff_iff]
      simp only [Bool.and_eq_true, beq_iff_eq, decide_eq_true_eq, Prod.mk.injEq]
      exact ⟨fun h => ⟨h.1.symm, h.2.symm⟩, fun h => ⟨h.1.symm, h.2.symm⟩⟩
    rw [e, ← Bool.decide_or]
    exact decide_eq_decide.mpr (by rw [List.mem_cons])
theorem pd_shaped {x : Str} {n : Int} (h : okName x = true) : SeqAt.shaped (pd (x, n)) = true := by
  have hd : (pd (x, n)).depth ≤ 64 := by unfold pd; simp [PyData.depth, PyData.depthAll]
  have hc : (pd (x, n)).canLay0 = true := by unfold pd; simp only [PyData.canLay0, PyData.canLayAll0]; rw [okName_cps h]; rfl
  show ((pd (x, n)).canLay0 && decide ((pd (x, n)).depth ≤ 64)) = true
  rw [hc, decide_eq_true hd]
  rfl
theorem pds_lay : ∀ l : List (Str × Int), l.all (fun p => okName p.1) = true → PyData.canLayAll0 (l.map pd) = true ∧ PyData.depthAll (l.map pd) ≤ 1
  | [], _ => ⟨by simp [PyData.canLayAll0], by simp [PyData.depthAll]⟩
  | p :: l, h => by
    rw [List.all_cons, Bool.and_eq_true] at h
    obtain ⟨a, b⟩ := pds_lay l h.2
    rw [List.map_cons]
    have c : (pd p).canLay0 = true := by unfold pd; simp only [PyData.canLay0, PyData.canLayAll0]; rw [okName_cps h.1]; rfl
    have d : (pd p).depth = 1 := by unfold pd; simp [PyData.depth, PyData.depthAll]
    refine ⟨by simp only [PyData.canLayAll0, a, c, Bool.and_self], ?_⟩
    simp only [PyData.depthAll]
    omega
theorem pds_shaped {l : List (Str × Int)} (h : l.all (fun p => okName p.1) = true) : SeqAt.shaped (.tuple (l.map pd)) = true ∧ SeqAt.shaped (.list (l.map pd)) = true := by
  obtain ⟨a, b⟩ := pds_lay l h
  have hd : (PyData.tuple (l.map pd)).depth ≤ 64 := by simp only [PyData.depth]; omega
  have hc : (PyData.tuple (l.map pd)).canLay0 = true := by simp only [PyData.canLay0]; exact a
  have hd2 : (PyData.list (l.map pd)).depth ≤ 64 := by simp only [PyData.depth]; omega
  have hc2 : (PyData.list (l.map pd)).canLay0 = true := by simp only [PyData.canLay0]; exact a
  constructor
  · show ((PyData.tuple (l.map pd)).canLay0 && decide ((PyData.tuple (l.map pd)).depth ≤ 64)) = true
    rw [hc, decide_eq_true hd]; rfl
  · show ((PyData.list (l.map pd)).canLay0 && decide ((PyData.list (l.map pd)).depth ≤ 64)) = true
    rw [hc2, decide_eq_true hd2]; rfl
theorem ctl_ok : CTL.all (fun p => okName p.1) = true := by decide +kernel
theorem bin_ok : BIN.all (fun p => okName p.1) = true := by decide +kernel
theorem lct_ok : LCT.all (fun p => okName p.1) = true := by decide +kernel
theorem lc_in1 : LCT.all (fun p => decide (p ∈ CTL) || decide (p ∈ BIN)) = true := by decide +kernel
theorem lc_in2 : (CTL ++ BIN).all (fun p => decide (p ∈ LCT) || (decide (p.1 = "call") && decide (1 ≤ p.2))) = true := by decide +kernel
theorem call_in : ∀ n : Int, 1 ≤ n → n ≤ 8 → (("call" : Str), n) ∈ CTL := by
  intro n h1 h2
  have h : ∀ k : Fin 8, (("call" : Str), ((k.val + 1 : Nat) : Int)) ∈ CTL := by decide +kernel
  have := h ⟨n.toNat - 1, by omega⟩
  simp only at this
  rwa [show ((n.toNat - 1 + 1 : Nat) : Int) = n by omega] at this
theorem goal_law {x : Str} {n : Int} (h8 : n ≤ 8) : isG (nodeF x n) = (!(decide (x = "call") && decide (1 ≤ n)) && !decide ((x, n) ∈ LCT)) := by
  show (!(decide ((x, n) ∈ CTL) || decide ((x, n) ∈ BIN))) = _
  rw [← Bool.not_or]
  congr 1
  rw [Bool.eq_iff_iff]
  simp only [Bool.or_eq_true, Bool.and_eq_true, decide_eq_true_eq]
  constructor
  · intro h
    have := List.all_eq_true.mp lc_in2 (x, n) (List.mem_append.mpr h)
    simp only [Bool.or_eq_true, Bool.and_eq_true, decide_eq_true_eq] at this
    exact this.symm
  · rintro (⟨rfl, h1⟩ | h)
    · exact .inl (call_in n h1 h8)
    · have := List.all_eq_true.mp lc_in1 (x, n) h
      simpa only [Bool.or_eq_true, decide_eq_true_eq] using this
def OkR (ds : List PyData) : Prop := (∀ d ∈ ds, NdA d) ∧ Cls 1 ds ∧ ds.length ≤ 9 ∧ ∀ d, ds.head? = some d → PyData.eqv d commaN = false ∧ PyData.eqv d clN = false
inductive Flat : List (List PyData) → List PyData → Prop
  | nil : Flat [] []
  | comma {rs : List (List PyData)} {ds : List PyData} : Flat rs ds → Flat rs (commaN :: ds)
  | row {r : List PyData} {rs : List (List PyData)} {ds : List PyData} : OkR r → Flat rs ds → Flat (r :: rs) (r ++ ds)
theorem Flat.app {as bs : List (List PyData)} {a b : List PyData} (h : Flat as a) (k : Flat bs b) : Flat (as ++ bs) (a ++ b) := by
  induction h with
  | nil => exact k
  | comma _ ih => exact .comma ih
  | row r _ ih => rw [List.append_assoc]; exact .row r ih
theorem flat_nil {rs : List (List PyData)} {ds : List PyData} (h : Flat rs ds) (e : ds = []) : rs = [] := by
  cases h with
  | nil => rfl
  | comma _ => cases e
  | @row r rs ds ok _ =>
    cases r with
    | nil => exact absurd ok.2.1 (by show ¬ (1 = 0); decide)
    | cons d r => cases e
def isGr : List PyData → Bool
  | d :: _ => isG d | [] => false
def isTr (r : List PyData) : Bool := PyData.eqv (.tuple r) (.tuple [trueN])
def goalsM (rows : List (List PyData)) : List (List PyData) := rows.filter fun r => !isTr r
def goodM (rows : List (List PyData)) : Bool := (goalsM rows).all isGr
theorem tk_app : ∀ (r t : List PyData) (k : Nat), Cls k r → tk k (r ++ t) = r.length
  | [], t, k, h => by
    have hk : k = 0 := h
    subst hk
    exact tk_zero t
  | d :: r, t, k, h => by
    rw [List.cons_append, tk_cons h.1, tk_app r t _ h.2, List.length_cons]
    omega
theorem cls_rest : ∀ (r t : List PyData) (m j : Nat), Cls j r → Cls m (r ++ t) → j ≤ m → Cls (m - j) t
  | [], t, m, j, h, hm, _ => by
    have hj : j = 0 := h
    subst hj
    exact hm
  | d :: r, t, m, j, h, hm, hjm => by
    have h1 := h.1
    have h2 : Cls (m - 1 + arN d) (r ++ t) := hm.2
    have := cls_rest r t (m - 1 + arN d) (j - 1 + arN d) h.2 h2 (by omega)
    rwa [show m - 1 + arN d - (j - 1 + arN d) = m - j by omega] at this
def splitM : List PyData → List PyData × List PyData
  | [] => ([], [trueN])
  | d :: r => if PyData.eqv d clN = true then (r.take (tk 1 r), r.drop (tk 1 r)) else (d :: r, [trueN])
theorem comma_nd : NdA commaN := ⟨1, .f "," 2 (by decide +kernel) (by decide) (by decide)⟩
theorem cl_nd : NdA clN := ⟨1, .f ":-" 2 (by decide +kernel) (by decide) (by decide)⟩
theorem true_nd : NdA trueN := ⟨1, .f "true" 0 (by decide +kernel) (by decide) (by decide)⟩
theorem true_row : OkR [trueN] := ⟨fun d hd => by rw [List.mem_singleton.mp hd]; exact true_nd, ⟨by decide, rfl⟩, by decide, fun d hd => by
  have e : trueN = d := Option.some.inj hd
  subst e
  exact ⟨by decide +kernel, by decide +kernel⟩⟩
inductive Parts : List (List PyData) → List (List PyData) → Prop
  | nil : Parts [] []
  | cons {as cs R : List (List PyData)} {c : List PyData} : Flat as c → Cls 1 c → (∀ d ∈ c, NdA d) → Parts cs R → Parts (c :: cs) (as ++ R)
theorem Parts.merge : ∀ {i : Nat} {cs R : List (List PyData)} {a b : List PyData}, Parts cs R → cs[i]? = some a → cs[i + 1]? = some b → Parts (cs.take i ++ [commaN :: (a ++ b)] ++ cs.drop (i + 2)) R
  | 0, _, _, a, b, h, ha, hb => by
    cases h with
    | nil => simp at ha
    | @cons as cs R c f1 c1 n1 h =>
      rw [List.getElem?_cons_zero] at ha
      rw [List.getElem?_cons_succ] at hb
      cases ha
      cases h with
      | nil => simp at hb
      | @cons bs cs R c f2 c2 n2 h =>
        rw [List.getElem?_cons_zero] at hb
        cases hb
        rw [← List.append_assoc]
        refine .cons (.comma (f1.app f2)) ⟨by decide, ?_⟩ (fun d hd => ?_) h
        · exact cls_app a b 1 1 c1 c2
        · rcases List.mem_cons.mp hd with z | z
          · rw [z]; exact comma_nd
          · rcases List.mem_append.mp z with z | z
            · exact n1 d z
            · exact n2 d z
  | i + 1, _, _, a, b, h, ha, hb => by
    cases h with
    | nil => simp at ha
    | cons f1 c1 n1 h =>
      rw [List.getElem?_cons_succ] at ha hb
      exact .cons f1 c1 n1 (Parts.merge h ha hb)
theorem imAll_rep {K : PySem.W.Frag} {G : Addr → Prop} {H : Hp} {xs : List V} {ds : List PyData} (h : ImAll K G H xs ds) : ∀ n : Nat, ImAll K G H (List.replicate n xs).flatten (List.replicate n ds).flatten
  | 0 => .nil
  | n + 1 => by
    rw [List.replicate_succ, List.replicate_succ, List.flatten_cons, List.flatten_cons]
    exact ImAll.app h (imAll_rep h n)
theorem im_rep {K : PySem.W.Frag} {G : Addr → Prop} {H : Hp} {x : V} {ds : List PyData} {k : Int} {Q : VK} (iv : Im K G H x (.tuple ds)) (hne : ds ≠ []) (h0 : 0 ≤ k) (h1 : k ≤ 1000) (hl : ds.length ≤ 1000) (h : ∀ v H', Same H H' → Im K (fun b => G b ∨ H b = Option.none) H' v (.tuple (List.replicate k.toNat ds).flatten) → Q v H') : rRepA K x (.int k) H Q := by
  cases id iv with
  | @tup a xs _ ga ea ia =>
  have hxl := ia.len
  refine ⟨a, k, xs, rfl, rfl, SqT.of ea, fun z => hne (by rw [z] at hxl; exact List.eq_nil_of_length_eq_zero hxl.symm), h0, h1, by omega, fun k1 => ?_, fun p np => ?_⟩
  · refine h _ _ (Same.refl _) ?_
    rw [k1, show ((1 : Int).toNat) = 1 from rfl, List.replicate_one, List.flatten_cons, List.flatten_nil, List.append_nil]
    exact Im.mono (fun _ _ _ e => e) (fun _ g => .inl g) _ _ iv
  · exact h _ _ (same_upd np) (im_new np (imAll_rep ia k.toNat))
theorem okN_len {y : Str} (h : okName y = true) : y.length ≤ 40 := by
  unfold okName at h
  simp only [Bool.and_eq_true, decide_eq_true_eq] at h
  exact h.1.2
theorem digit_ok {n : Int} (h0 : 0 ≤ n) (h8 : n ≤ 8) : n.natAbs.log2 < 1920 ∧ (toString n : Str).length ≤ 10 := by
  rcases (show n = 0 ∨ n = 1 ∨ n = 2 ∨ n = 3 ∨ n = 4 ∨ n = 5 ∨ n = 6 ∨ n = 7 ∨ n = 8 by omega) with z | z | z | z | z | z | z | z | z <;> subst z <;> decide +kernel
theorem len_app (a b : Str) : (a ++ b).length = a.length + b.length := by
  show (a.cps ++ b.cps).size = _
  rw [Array.size_append]
  rfl
theorem rowsP {rows : List (List PyData)} {r : List PyData} (h : r ∈ rows) (t : isTr r = false) (g : isGr r = false) : goodM rows = false := by
  cases e : goodM rows with
  | false => rfl
  | true =>
    have := List.all_eq_true.mp e r (List.mem_filter.mpr ⟨h, by rw [t]; rfl⟩)
    rw [g] at this
    cases this
def okP (p : Str × Int) : Bool := okName p.1 && decide (0 ≤ p.2) && decide (p.2 ≤ 8) && !decide (p = ((",", 2) : Str × Int)) && !decide (p = ((":-", 2) : Str × Int))
theorem okP_of {p : Str × Int} (h : okP p = true) : okName p.1 = true ∧ 0 ≤ p.2 ∧ p.2 ≤ 8 ∧ PyData.eqv (nodeF p.1 p.2) commaN = false ∧ PyData.eqv (nodeF p.1 p.2) clN = false := by
  unfold okP at h
  simp only [Bool.and_eq_true, decide_eq_true_eq, Bool.not_eq_true', decide_eq_false_iff_not] at h
  obtain ⟨⟨⟨⟨a, b⟩, c⟩, d⟩, e⟩ := h
  have ne : ∀ y k, p ≠ (y, k) → PyData.eqv (nodeF p.1 p.2) (nodeF y k) = false := fun y k hne => by
    cases z : PyData.eqv (nodeF p.1 p.2) (nodeF y k) with
    | false => rfl
    | true =>
      unfold nodeF at z
      simp only [PyData.eqv, PyData.eqvAll, Bool.and_eq_true, beq_iff_eq] at z
      exact absurd (Prod.ext z.2.1 z.2.2.1) hne
  exact ⟨a, b, c, ne _ _ d, ne _ _ e⟩
def aN : PyData := nodeF "a" 0
theorem aN_nd : NdA aN := ⟨1, .f "a" 0 (by decide +kernel) (by decide) (by decide)⟩
theorem cls_as : ∀ n : Nat, Cls n (List.replicate n [aN]).flatten
  | 0 => rfl
  | n + 1 => by
    rw [List.replicate_succ, List.flatten_cons]
    exact ⟨Nat.succ_pos n, cls_as n⟩
theorem as_len : ∀ n : Nat, ((List.replicate n [aN]).flatten).length = n
  | 0 => rfl
  | n + 1 => by
    rw [List.replicate_succ, List.flatten_cons, List.length_append, as_len n]
    show 1 + n = _
    omega
theorem odd_row {p : Str × Int} (h : okP p = true) : OkR (nodeF p.1 p.2 :: (List.replicate p.2.toNat [aN]).flatten) := by
  obtain ⟨a, b, c, d, e⟩ := okP_of h
  have hl := as_len p.2.toNat
  refine ⟨fun x hx => ?_, ⟨by decide, ?_⟩, by rw [List.length_cons, hl]; omega, fun x hx => ?_⟩
  · rcases List.mem_cons.mp hx with z | z
    · rw [z]; exact ⟨1, .f _ _ a b c⟩
    · obtain ⟨l, hl, hx⟩ := List.mem_flatten.mp z
      rw [List.eq_of_mem_replicate hl] at hx
      rw [List.mem_singleton.mp hx]
      exact aN_nd
  · have : 1 - 1 + arN (nodeF p.1 p.2) = p.2.toNat := by show 0 + p.2.toNat = _; omega
    rw [this]
    exact cls_as _
  · have ex : nodeF p.1 p.2 = x := Option.some.inj hx
    rw [← ex]
    exact ⟨d, e⟩
theorem one_row {d : PyData} (h : NdA d) (a : arN d = 0) (k1 : PyData.eqv d commaN = false) (k2 : PyData.eqv d clN = false) : OkR [d] :=
  ⟨fun x hx => by rw [List.mem_singleton.mp hx]; exact h, ⟨by decide, by show Cls (1 - 1 + arN d) []; rw [a]; rfl⟩, by show 1 ≤ 9; decide, fun x hx => by
    have ex : d = x := Option.some.inj hx
    rw [← ex]
    exact ⟨k1, k2⟩⟩
theorem split_facts {d : PyData} {r : List PyData} (h : ∀ e ∈ d :: r, NdA e) : (∀ e ∈ (splitM (d :: r)).1, NdA e) ∧ (∀ e ∈ (splitM (d :: r)).2, NdA e) ∧ (splitM (d :: r)).2.length ≤ r.length + 1 := by
  show (∀ e ∈ (if PyData.eqv d clN = true then (r.take (tk 1 r), r.drop (tk 1 r)) else (d :: r, [trueN])).1, NdA e) ∧ (∀ e ∈ (if PyData.eqv d clN = true then (r.take (tk 1 r), r.drop (tk 1 r)) else (d :: r, [trueN])).2, NdA e) ∧ (if PyData.eqv d clN = true then (r.take (tk 1 r), r.drop (tk 1 r)) else (d :: r, [trueN])).2.length ≤ r.length + 1
  by_cases e : PyData.eqv d clN = true
  · rw [if_pos e]
    exact ⟨fun x hx => h x (List.mem_cons_of_mem _ (List.mem_of_mem_take hx)), fun x hx => h x (List.mem_cons_of_mem _ (List.mem_of_mem_drop hx)), by show (r.drop _).length ≤ _; rw [List.length_drop]; omega⟩
  · rw [if_neg e]
    exact ⟨h, fun x hx => by rw [List.mem_singleton.mp hx]; exact true_nd, by show 1 ≤ _; omega⟩
theorem lit_add {K : PySem.W.Frag} {σ : L2.St} {t u : TE} {i j : Int} (h1 : Lit K σ t (.int i)) (h2 : Lit K σ u (.int j)) : Lit K σ (tOp (rI0 fun i j => .int (i + j)) t u) (.int (i + j)) := fun H Q h =>
  h1 H _ fun v H1 s1 i1 => h2 H1 _ fun w H2 s2 i2 => by
    cases i1
    cases i2
    exact ⟨_, _, rfl, rfl, h _ _ (s1.trans s2) (.int _)⟩
section
variable {K : PySem.W.Frag} {H Ha Hb Hn H' : Hp} {s l : Addr} {v : V} {d : PyData}
theorem fr_of (bn : But s H Hn) (Sn : Stm Hn s l) : ∀ b, Hn b = Option.none → H b = Option.none := fun b np => by
  obtain ⟨on, hon⟩ := Sn.at_s
  cases e : H b with
  | none => rfl
  | some o =>
    by_cases z : b = s
    · rw [z, hon] at np; cases np
    · rw [bn _ _ z e] at np; cases np
theorem frs_of (bn : But s H Hn) (Sn : Stm Hn s l) (i : Im K (fun b => Hn b = Option.none) H' v d) : Im K (fun b => H b = Option.none) H' v d := Im.mono (fun _ _ _ e => e) (fr_of bn Sn) _ _ i
theorem frs_keep (S0 : Stm H s l) (b : But s Ha Hb) (i : Im K (fun b => H b = Option.none) Ha v d) : Im K (fun b => H b = Option.none) Hb v d := by
  obtain ⟨os, hos⟩ := S0.at_s
  exact Im.mono (fun c o g e => b c o (fun z => by rw [z, hos] at g; cases g) e) (fun _ g => g) _ _ i
theorem frs_cat {x y : V} {ds es : List PyData} {Q : VK} (bn : But s H Ha) (Sn : Stm Ha s l) (iv : Im K (fun b => H b = Option.none) Ha x (.tuple ds)) (iw : Im K (fun b => H b = Option.none) Ha y (.tuple es)) (hz : ds.length + es.length ≤ 1000)
    (h : ∀ v H', Same Ha H' → Im K (fun b => H b = Option.none) H' v (.tuple (ds ++ es)) → Q v H') : rCatA K x y Ha Q :=
  im_cat iv iw hz fun v H' s' i => h v H' s' (Im.mono (fun _ _ _ e => e) (fun b g => g.elim id (fr_of bn Sn b)) _ _ i)
theorem far_of (S0 : Stm H s l) (i : Im K (fun b => H b = Option.none) Ha v d) : Im K (fun b => b ≠ s) Ha v d := by
  obtain ⟨os, hos⟩ := S0.at_s
  exact Im.mono (fun _ _ _ e => e) (fun b g z => by rw [z, hos] at g; cases g) _ _ i
theorem far_keep (b : But s Ha Hb) (i : Im K (fun b => b ≠ s) Ha v d) : Im K (fun b => b ≠ s) Hb v d := Im.mono (fun c o g e => b c o g e) (fun _ g => g) _ _ i
theorem far_cat {x y : V} {ds es : List PyData} {Q : VK} (Sn : Stm Ha s l) (iv : Im K (fun b => b ≠ s) Ha x (.tuple ds)) (iw : Im K (fun b => b ≠ s) Ha y (.tuple es)) (hz : ds.length + es.length ≤ 1000)
    (h : ∀ v H', Same Ha H' → Im K (fun b => b ≠ s) H' v (.tuple (ds ++ es)) → Q v H') : rCatA K x y Ha Q :=
  im_cat iv iw hz fun v H' s' i => h v H' s' (Im.mono (fun _ _ _ e => e) (fun b g => g.elim id fun g z => by obtain ⟨o, ho⟩ := Sn.at_s; rw [z, ho] at g; cases g) _ _ i)
end
theorem okr_of {x : Str} {n : Int} {ds : List PyData} (h : okP (x, n) = true) (nd : ∀ d ∈ ds, NdA d) (hc : Cls n.toNat ds) (hl : ds.length ≤ 8) : OkR (nodeF x n :: ds) := by
  obtain ⟨a, b, c, d, e⟩ := okP_of h
  refine ⟨fun y hy => ?_, ⟨by decide, ?_⟩, by rw [List.length_cons]; omega, fun y hy => ?_⟩
  · rcases List.mem_cons.mp hy with z | z
    · rw [z]; exact ⟨1, .f _ _ a b c⟩
    · exact nd y z
  · have : 1 - 1 + arN (nodeF x n) = n.toNat := by show 0 + n.toNat = _; omega
    rw [this]
    exact hc
  · have ex : nodeF x n = y := Option.some.inj hy
    rw [← ex]
    exact ⟨d, e⟩
def abc : List Str := ["a", "b", "c"]
def ppp : List Str := ["p", "p", "pp"]
def fourI : List Int := [-1, 10 ^ 30, 10 ^ 30 + 1, -(10 ^ 39)]
theorem fourI_ok : ∀ i ∈ fourI, -(10 ^ 40) < i ∧ i < 10 ^ 40 := by decide +kernel
theorem lst_of {ta : TA} {σ : L2.St} {H : Hp} {Q : VK} (h : ta σ H fun xs H1 => xs.length ≤ sizeLine ∧ ∀ p, H1 p = Option.none → Q (.ref p) (upd H1 p (.lst xs))) : tLst ta σ H Q := h
theorem litA_at {K : PySem.W.Frag} {σ : L2.St} {ta : TA} {ds : List PyData} (h : LitA K σ ta ds) {H : Hp} {Q : List V → Hp → Prop} (q : ∀ vs H', Same H H' → ImAll K (fun b => H b = Option.none) H' vs ds → Q vs H') : ta σ H Q := h H Q q
theorem on_ok : (ON1 ++ ON2 ++ ON3 ++ ON4 ++ ON5 ++ NEAR).all okP = true := by decide +kernel
theorem call_ok {r : Int} (h0 : 0 ≤ r) (h6 : r < 6) : okP ("call", 2 + r) = true := by
  rcases (show r = 0 ∨ r = 1 ∨ r = 2 ∨ r = 3 ∨ r = 4 ∨ r = 5 by omega) with z | z | z | z | z | z <;> subst z <;> decide +kernel
theorem pd_pick {K : PySem.W.Frag} {G : Addr → Prop} {H : Hp} {xs : List V} {ps : List (Str × Int)} {r : Int} (a : ImAll K G H xs (ps.map pd)) (r0 : 0 ≤ r) (r1 : r < (ps.length : Int)) : ∃ p v, p ∈ ps ∧ atI xs r = some v ∧ Im K G H v (pd p) := by
  have hr : r.toNat < ps.length := by omega
  have hd : (ps.map pd)[r.toNat]? = some (pd ps[r.toNat]) := by
    rw [List.getElem?_map, List.getElem?_eq_getElem hr]
    rfl
  obtain ⟨v, hv, iv⟩ := ImAll.get a hd
  exact ⟨_, v, List.getElem_mem hr, at_of (j := r.toNat) (by omega) hv, iv⟩
theorem cut_take (xs : List V) (i : Nat) (h : i ≤ xs.length) : cutV xs Option.none (some (i : Int)) = xs.take i := by
  unfold cutV
  rw [HT.sIx_none, HT.sIx_nat, Nat.min_eq_left h, List.drop_zero, Nat.sub_zero]
theorem cut_drop (xs : List V) (i : Nat) (h : i ≤ xs.length) : cutV xs (some (i : Int)) Option.none = xs.drop i := by
  unfold cutV
  rw [HT.sIx_none, HT.sIx_nat, Nat.min_eq_left h, List.take_of_length_le (by rw [List.length_drop]; exact Nat.le_refl _)]
theorem parts_of : ∀ {rows : List (List PyData)}, (∀ r ∈ rows, OkR r) → Parts rows rows
  | [], _ => .nil
  | r :: rows, h => by
    have ok := h r List.mem_cons_self
    have f : Flat [r] r := by
      have := Flat.row ok .nil
      rwa [List.append_nil] at this
    exact Parts.cons (as := [r]) f ok.2.1 ok.1 (parts_of fun x hx => h x (List.mem_cons_of_mem _ hx))
def szP (cs : List (List PyData)) : Nat := (cs.map List.length).sum + cs.length
theorem sz_merge {cs : List (List PyData)} {i : Nat} {a b : List PyData} (ha : cs[i]? = some a) (hb : cs[i + 1]? = some b) : szP (cs.take i ++ [commaN :: (a ++ b)] ++ cs.drop (i + 2)) = szP cs ∧ (cs.take i ++ [commaN :: (a ++ b)] ++ cs.drop (i + 2)).length + 1 = cs.length := by
  obtain ⟨k1, g1⟩ := List.getElem?_eq_some_iff.mp ha
  obtain ⟨k2, g2⟩ := List.getElem?_eq_some_iff.mp hb
  have e : cs = cs.take i ++ (a :: b :: cs.drop (i + 2)) := by
    conv => lhs; rw [← List.take_append_drop i cs]
    rw [List.drop_eq_getElem_cons k1, g1, List.drop_eq_getElem_cons k2, g2]
  constructor
  · conv => rhs; rw [e]
    unfold szP
    simp only [List.map_append, List.map_cons, List.map_nil, List.sum_append, List.sum_cons, List.sum_nil, List.length_append, List.length_cons, List.length_nil]
    omega
  · conv => rhs; rw [e]
    simp only [List.length_append, List.length_cons, List.length_nil]
    omega
theorem sz_rows : ∀ {rows : List (List PyData)}, (∀ r ∈ rows, OkR r) → szP rows ≤ 10 * rows.length
  | [], _ => Nat.le_refl 0
  | r :: rows, h => by
    have ih := sz_rows (rows := rows) fun x hx => h x (List.mem_cons_of_mem _ hx)
    have := (h r List.mem_cons_self).2.2.1
    unfold szP at *
    simp only [List.map_cons, List.sum_cons, List.length_cons]
    omega
theorem rows_facts : ∀ {l : List (List PyData)}, (∀ r ∈ l, ∀ d ∈ r, NdA d) → PyData.canLayAll0 (l.map PyData.tuple) = true ∧ PyData.depthAll (l.map PyData.tuple) ≤ 2 ∧ PyData.eqvAll (l.map PyData.tuple) (l.map PyData.tuple) = true ∧ noLA (l.map PyData.tuple) = true
  | [], _ => ⟨by simp [PyData.canLayAll0], by simp [PyData.depthAll], by simp [PyData.eqvAll], by simp [noLA]⟩
  | r :: l, h => by
    obtain ⟨a1, a2, a3⟩ := nds_lay (h r List.mem_cons_self)
    obtain ⟨b1, b2, b3, b4⟩ := rows_facts (l := l) fun x hx => h x (List.mem_cons_of_mem _ hx)
    rw [List.map_cons]
    refine ⟨by simp only [PyData.canLayAll0, PyData.canLay0, a1, b1, Bool.and_self], ?_, by simp only [PyData.eqvAll, PyData.eqv, a3, b3, Bool.and_self], by simp only [noLA, tup_noL (h r List.mem_cons_self), b4, Bool.and_self]⟩
    simp only [PyData.depthAll, PyData.depth]
    omega
theorem rows_shaped {l : List (List PyData)} (h : ∀ r ∈ l, ∀ d ∈ r, NdA d) : SeqAt.shaped (.list (l.map PyData.tuple)) = true := by
  obtain ⟨a, b, _⟩ := rows_facts h
  have hd : (PyData.list (l.map PyData.tuple)).depth ≤ 64 := by simp only [PyData.depth]; omega
  have hc : (PyData.list (l.map PyData.tuple)).canLay0 = true := by simp only [PyData.canLay0]; exact a
  show ((PyData.list (l.map PyData.tuple)).canLay0 && decide ((PyData.list (l.map PyData.tuple)).depth ≤ 64)) = true
  rw [hc, decide_eq_true hd]
  rfl
theorem good_len (rows : List (List PyData)) : decide (V.int (((goalsM rows).filter fun r => !isGr r).length : Int) = V.int 0) = goodM rows := by
  unfold goodM
  generalize goalsM rows = l
  rw [Bool.eq_iff_iff, decide_eq_true_eq, List.all_eq_true]
  constructor
  · intro h r hr
    have h0 := V.int.inj h
    cases g : isGr r with
    | true => rfl
    | false =>
      have hm : r ∈ l.filter fun r => !isGr r := List.mem_filter.mpr ⟨hr, by rw [g]; rfl⟩
      have := List.length_pos_of_mem hm
      omega
  · intro h
    have : (l.filter fun r => !isGr r) = [] := List.filter_eq_nil_iff.mpr fun r hr => by rw [h r hr]; decide
    rw [this]
    rfl
section
variable {K : PySem.W.Frag} {H : Hp} {p : Addr} {o : HO}
end
section
variable {K : PySem.W.Frag} {H H' : Hp}
end
/-! ### variables -/
def numS (acc : List Int) (d : PyData) : List Int := if isVarN d = true ∧ numN d ∉ acc then acc ++ [numN d] else acc
def nums (ds : List PyData) : List Int := ds.foldl numS []
def mapD (g : Int → Int) (d : PyData) : PyData := if isVarN d = true then .tuple [.str "v", .int (g (numN d))] else d
def renM (first : Int) (ds : List PyData) : List PyData := ds.map (mapD fun n => first + ((nums ds).idxOf n : Nat))
theorem nums_take {ds : List PyData} {i : Nat} {d : PyData} (h : ds[i]? = some d) : nums (ds.take (i + 1)) = numS (nums (ds.take i)) d := by
  unfold nums
  rw [List.take_add_one, h, List.foldl_append]
  rfl
theorem numS_pre (acc : List Int) (d : PyData) : ∃ t, numS acc d = acc ++ t := by
  unfold numS
  split
  · exact ⟨_, rfl⟩
  · exact ⟨[], (List.append_nil _).symm⟩
theorem fold_pre : ∀ (ds : List PyData) (acc : List Int), ∃ t, ds.foldl numS acc = acc ++ t
  | [], acc => ⟨[], (List.append_nil _).symm⟩
  | d :: r, acc => by
    obtain ⟨t1, h1⟩ := numS_pre acc d
    obtain ⟨t2, h2⟩ := fold_pre r (numS acc d)
    exact ⟨t1 ++ t2, by rw [List.foldl_cons, h2, h1, List.append_assoc]⟩
theorem nums_pre (ds : List PyData) (i : Nat) : ∃ t, nums ds = nums (ds.take i) ++ t := by
  have e : nums ds = (ds.drop i).foldl numS (nums (ds.take i)) := by
    unfold nums
    rw [← List.foldl_append, List.take_append_drop]
  rw [e]
  exact fold_pre _ _
theorem numS_mem {acc : List Int} {d : PyData} (h : isVarN d = true) : numN d ∈ numS acc d := by
  unfold numS
  by_cases hm : numN d ∈ acc
  · rw [if_neg (fun z => z.2 hm)]; exact hm
  · rw [if_pos ⟨h, hm⟩]; exact List.mem_append_right _ (List.mem_singleton.mpr rfl)
theorem nums_len : ∀ (ds : List PyData), (nums ds).length ≤ ds.length := by
  have h : ∀ (ds : List PyData) (acc : List Int), (ds.foldl numS acc).length ≤ acc.length + ds.length := by
    intro ds
    induction ds with
    | nil => intro acc; exact Nat.le_refl _
    | cons d r ih =>
      intro acc
      rw [List.foldl_cons, List.length_cons]
      have h1 := ih (numS acc d)
      have h2 : (numS acc d).length ≤ acc.length + 1 := by
        unfold numS
        split
        · rw [List.length_append]; exact Nat.le_refl _
        · exact Nat.le_succ _
      omega
  intro ds
  have := h ds []
  rwa [List.length_nil, Nat.zero_add] at this
theorem nums_mem {ds : List PyData} {i : Nat} {d : PyData} (h : ds[i]? = some d) (v : isVarN d = true) : numN d ∈ nums (ds.take (i + 1)) := by
  rw [nums_take h]; exact numS_mem v
theorem idx_pre {ds : List PyData} {i : Nat} {n : Int} (h : n ∈ nums (ds.take i)) : (nums ds).idxOf n = (nums (ds.take i)).idxOf n := by
  obtain ⟨t, e⟩ := nums_pre ds i
  rw [e, List.idxOf_append, if_pos h]
theorem mem_pre {ds : List PyData} {i : Nat} {n : Int} (h : n ∈ nums (ds.take i)) : n ∈ nums ds := by
  obtain ⟨t, e⟩ := nums_pre ds i
  rw [e]; exact List.mem_append_left _ h
theorem idx_inj {l : List Int} {a b : Int} (ha : a ∈ l) (hb : b ∈ l) (h : l.idxOf a = l.idxOf b) : a = b := by
  have h1 := List.getElem_idxOf (List.idxOf_lt_length_of_mem ha)
  have h2 := List.getElem_idxOf (List.idxOf_lt_length_of_mem hb)
  rw [← h1, ← h2]
  simp only [h]
def VarP (l r : List PyData) : Prop := l.length = r.length ∧ (∀ (k : Nat) (a b : PyData), l[k]? = some a → r[k]? = some b → (isVarN a = true ∧ isVarN b = true) ∨ PyData.eqv a b = true) ∧
  (∀ (j k : Nat) (a b c d : PyData), l[j]? = some a → r[j]? = some b → l[k]? = some c → r[k]? = some d → isVarN a = true → isVarN b = true → isVarN c = true → isVarN d = true → (numN a = numN c ↔ numN b = numN d))
theorem nd_refl {d : PyData} (h : NdA d) : PyData.eqv d d = true := (nd_lay h).2.2
theorem var_both {a b : PyData} (ha : NdA a) (hb : NdA b) (h : PyData.eqv a b = true) : isVarN a = isVarN b := by rw [nd_eq ha hb h]
theorem side {l r : List PyData} (nl : ∀ d ∈ l, NdA d) (nr : ∀ d ∈ r, NdA d) (h : VarP l r) : ∀ i, i ≤ l.length → (nums (l.take i)).length = (nums (r.take i)).length ∧
    ∀ (k : Nat) (x y : Int), (nums (l.take i))[k]? = some x → (nums (r.take i))[k]? = some y → ∃ (j : Nat) (a b : PyData), l[j]? = some a ∧ r[j]? = some b ∧ isVarN a = true ∧ isVarN b = true ∧ numN a = x ∧ numN b = y
  | 0, _ => ⟨rfl, fun k x y h => by simp [nums] at h⟩
  | i + 1, hi => by
    obtain ⟨ih1, ih2⟩ := side nl nr h i (by omega)
    have ha : l[i]? = some l[i] := List.getElem?_eq_getElem (by omega)
    have hlr := h.1
    have hb : r[i]? = some r[i] := List.getElem?_eq_getElem (by omega)
    generalize l[i] = a at ha
    generalize r[i] = b at hb
    have na := nl a (List.mem_of_getElem? ha)
    have nb := nr b (List.mem_of_getElem? hb)
    rw [nums_take ha, nums_take hb]
    rcases h.2.1 i a b ha hb with ⟨va, vb⟩ | e
    · have key : numN a ∈ nums (l.take i) ↔ numN b ∈ nums (r.take i) := by
        constructor
        · intro hm
          obtain ⟨k, hk⟩ := List.getElem?_of_mem hm
          have hk2 : k < (nums (r.take i)).length := by
            have := (List.getElem?_eq_some_iff.mp hk).1
            omega
          have hy : (nums (r.take i))[k]? = some (nums (r.take i))[k] := List.getElem?_eq_getElem hk2
          obtain ⟨j, a', b', g1, g2, g3, g4, g5, g6⟩ := ih2 k _ _ hk hy
          have := (h.2.2 j i a' b' a b g1 g2 ha hb g3 g4 va vb).mp g5
          rw [← this, g6]
          exact List.mem_of_getElem? hy
        · intro hm
          obtain ⟨k, hk⟩ := List.getElem?_of_mem hm
          have hk2 : k < (nums (l.take i)).length := by
            have := (List.getElem?_eq_some_iff.mp hk).1
            omega
          have hy : (nums (l.take i))[k]? = some (nums (l.take i))[k] := List.getElem?_eq_getElem hk2
          obtain ⟨j, a', b', g1, g2, g3, g4, g5, g6⟩ := ih2 k _ _ hy hk
          have := (h.2.2 j i a' b' a b g1 g2 ha hb g3 g4 va vb).mpr g6
          rw [← this, g5]
          exact List.mem_of_getElem? hy
      unfold numS
      by_cases hm : numN a ∈ nums (l.take i)
      · rw [if_neg (fun z => z.2 hm), if_neg (fun z => z.2 (key.mp hm))]
        exact ⟨ih1, ih2⟩
      · rw [if_pos ⟨va, hm⟩, if_pos ⟨vb, fun z => hm (key.mpr z)⟩]
        refine ⟨by rw [List.length_append, List.length_append, ih1]; rfl, fun k x y hx hy => ?_⟩
        by_cases hk : k < (nums (l.take i)).length
        · rw [List.getElem?_append_left hk] at hx
          rw [List.getElem?_append_left (by omega)] at hy
          exact ih2 k x y hx hy
        · rw [List.getElem?_append_right (by omega)] at hx
          rw [List.getElem?_append_right (by omega)] at hy
          have h0 : k - (nums (l.take i)).length = 0 := by
            have := (List.getElem?_eq_some_iff.mp hx).1
            rw [List.length_singleton] at this
            omega
          rw [h0] at hx
          rw [← ih1, h0] at hy
          rw [List.getElem?_cons_zero] at hx hy
          cases hx
          cases hy
          exact ⟨i, a, b, ha, hb, va, vb, rfl, rfl⟩
    · have ev := var_both na nb e
      have en := nd_eq na nb e
      by_cases va : isVarN a = true
      · have vb : isVarN b = true := by rw [← ev]; exact va
        have key : numN a ∈ nums (l.take i) ↔ numN b ∈ nums (r.take i) := by
          constructor
          · intro hm
            obtain ⟨k, hk⟩ := List.getElem?_of_mem hm
            have hk2 : k < (nums (r.take i)).length := by
              have := (List.getElem?_eq_some_iff.mp hk).1
              omega
            have hy : (nums (r.take i))[k]? = some (nums (r.take i))[k] := List.getElem?_eq_getElem hk2
            obtain ⟨j, a', b', g1, g2, g3, g4, g5, g6⟩ := ih2 k _ _ hk hy
            have := (h.2.2 j i a' b' a b g1 g2 ha hb g3 g4 va vb).mp g5
            rw [← this, g6]
            exact List.mem_of_getElem? hy
          · intro hm
            obtain ⟨k, hk⟩ := List.getElem?_of_mem hm
            have hk2 : k < (nums (l.take i)).length := by
              have := (List.getElem?_eq_some_iff.mp hk).1
              omega
            have hy : (nums (l.take i))[k]? = some (nums (l.take i))[k] := List.getElem?_eq_getElem hk2
            obtain ⟨j, a', b', g1, g2, g3, g4, g5, g6⟩ := ih2 k _ _ hy hk
            have := (h.2.2 j i a' b' a b g1 g2 ha hb g3 g4 va vb).mpr g6
            rw [← this, g5]
            exact List.mem_of_getElem? hy
        unfold numS
        by_cases hm : numN a ∈ nums (l.take i)
        · rw [if_neg (fun z => z.2 hm), if_neg (fun z => z.2 (key.mp hm))]
          exact ⟨ih1, ih2⟩
        · rw [if_pos ⟨va, hm⟩, if_pos ⟨vb, fun z => hm (key.mpr z)⟩]
          refine ⟨by rw [List.length_append, List.length_append, ih1]; rfl, fun k x y hx hy => ?_⟩
          by_cases hk : k < (nums (l.take i)).length
          · rw [List.getElem?_append_left hk] at hx
            rw [List.getElem?_append_left (by omega)] at hy
            exact ih2 k x y hx hy
          · rw [List.getElem?_append_right (by omega)] at hx
            rw [List.getElem?_append_right (by omega)] at hy
            have h0 : k - (nums (l.take i)).length = 0 := by
              have := (List.getElem?_eq_some_iff.mp hx).1
              rw [List.length_singleton] at this
              omega
            rw [h0] at hx
            rw [← ih1, h0] at hy
            rw [List.getElem?_cons_zero] at hx hy
            cases hx
            cases hy
            exact ⟨i, a, b, ha, hb, va, vb, rfl, rfl⟩
      · unfold numS
        rw [if_neg (fun z => va z.1), if_neg (fun z => va (by rw [ev]; exact z.1))]
        exact ⟨ih1, ih2⟩
theorem mapD_nd {g : Int → Int} {d : PyData} (h : NdA d) (hg : ∀ n, 0 ≤ g n) : NdA (mapD g d) := by
  unfold mapD
  split
  · exact ⟨g (numN d) + 1, .v _ (hg _) (by omega)⟩
  · exact h
theorem ren_nd {f : Int} {ds : List PyData} (h : ∀ d ∈ ds, NdA d) (hf : 0 ≤ f) : ∀ d ∈ renM f ds, NdA d := by
  intro d hd
  obtain ⟨e, he, rfl⟩ := List.mem_map.mp hd
  exact mapD_nd (h e he) fun n => by omega
theorem mapD_eq {g g' : Int → Int} {a b : PyData} (na : NdA a) (nb : NdA b) (h : mapD g a = mapD g' b) : (isVarN a = true ∧ isVarN b = true ∧ g (numN a) = g' (numN b)) ∨ (isVarN a = false ∧ a = b) := by
  unfold mapD at h
  by_cases va : isVarN a = true
  · rw [if_pos va] at h
    by_cases vb : isVarN b = true
    · rw [if_pos vb] at h
      left
      refine ⟨va, vb, ?_⟩
      injection h with h
      injection h with _ h
      injection h with h _
      injection h
    · rw [if_neg vb] at h
      rw [← h] at vb
      exact absurd rfl vb
  · rw [if_neg va] at h
    by_cases vb : isVarN b = true
    · rw [if_pos vb] at h
      rw [h] at va
      exact absurd rfl va
    · rw [if_neg vb] at h
      exact .inr ⟨Bool.eq_false_iff.mpr va, h⟩
theorem ren_var {l r : List PyData} (nl : ∀ d ∈ l, NdA d) (nr : ∀ d ∈ r, NdA d) : PyData.eqv (.tuple (renM 0 l)) (.tuple (renM 0 r)) = true ↔ VarP l r := by
  constructor
  · intro h
    have e := tup_eq (ren_nd nl (Int.le_refl 0)) (ren_nd nr (Int.le_refl 0)) h
    have el : l.length = r.length := by
      have := congrArg List.length e
      unfold renM at this
      rwa [List.length_map, List.length_map] at this
    have at_ : ∀ (k : Nat) (a b : PyData), l[k]? = some a → r[k]? = some b → (isVarN a = true ∧ isVarN b = true ∧ (0 : Int) + ((nums l).idxOf (numN a) : Nat) = 0 + ((nums r).idxOf (numN b) : Nat)) ∨ (isVarN a = false ∧ a = b) := by
      intro k a b ha hb
      have h1 : (renM 0 l)[k]? = some (mapD (fun n => 0 + ((nums l).idxOf n : Nat)) a) := by unfold renM; rw [List.getElem?_map, ha]; rfl
      have h2 : (renM 0 r)[k]? = some (mapD (fun n => 0 + ((nums r).idxOf n : Nat)) b) := by unfold renM; rw [List.getElem?_map, hb]; rfl
      rw [e, h2] at h1
      exact mapD_eq (nl a (List.mem_of_getElem? ha)) (nr b (List.mem_of_getElem? hb)) (Option.some.inj h1).symm
    refine ⟨el, fun k a b ha hb => ?_, fun j k a b c d ha hb hc hd va vb vc vd => ?_⟩
    · rcases at_ k a b ha hb with ⟨z1, z2, _⟩ | ⟨_, z⟩
      · exact .inl ⟨z1, z2⟩
      · rw [z]; exact .inr (nd_refl (nr b (List.mem_of_getElem? hb)))
    · have i1 : (nums l).idxOf (numN a) = (nums r).idxOf (numN b) := by
        rcases at_ j a b ha hb with ⟨_, _, z⟩ | ⟨z, _⟩
        · omega
        · rw [va] at z; cases z
      have i2 : (nums l).idxOf (numN c) = (nums r).idxOf (numN d) := by
        rcases at_ k c d hc hd with ⟨_, _, z⟩ | ⟨z, _⟩
        · omega
        · rw [vc] at z; cases z
      constructor
      · intro z
        rw [z] at i1
        exact idx_inj (mem_pre (nums_mem hb vb)) (mem_pre (nums_mem hd vd)) (i1.symm.trans i2)
      · intro z
        rw [z] at i1
        exact idx_inj (mem_pre (nums_mem ha va)) (mem_pre (nums_mem hc vc)) (i1.trans i2.symm)
  · intro h
    obtain ⟨s1, s2⟩ := side nl nr h l.length (Nat.le_refl _)
    rw [List.take_length, h.1, List.take_length] at s1 s2
    have idx : ∀ (j : Nat) (a b : PyData), l[j]? = some a → r[j]? = some b → isVarN a = true → isVarN b = true → (nums l).idxOf (numN a) = (nums r).idxOf (numN b) := by
      intro j a b ha hb va vb
      have ma := mem_pre (nums_mem ha va)
      have mb := mem_pre (nums_mem hb vb)
      have la := List.idxOf_lt_length_of_mem ma
      have lb := List.idxOf_lt_length_of_mem mb
      have pa : (nums l)[(nums l).idxOf (numN a)]? = some (numN a) := by rw [List.getElem?_eq_getElem la, List.getElem_idxOf la]
      have pb : (nums r)[(nums r).idxOf (numN b)]? = some (numN b) := by rw [List.getElem?_eq_getElem lb, List.getElem_idxOf lb]
      have pa2 : (nums r)[(nums l).idxOf (numN a)]? = some (nums r)[(nums l).idxOf (numN a)] := List.getElem?_eq_getElem (by omega)
      have pb2 : (nums l)[(nums r).idxOf (numN b)]? = some (nums l)[(nums r).idxOf (numN b)] := List.getElem?_eq_getElem (by omega)
      obtain ⟨j1, a1, b1, g1, g2, g3, g4, g5, g6⟩ := s2 _ _ _ pa pa2
      obtain ⟨j2, a2, b2, k1, k2, k3, k4, k5, k6⟩ := s2 _ _ _ pb2 pb
      have e1 := (h.2.2 j1 j a1 b1 a b g1 g2 ha hb g3 g4 va vb).mp g5
      have e2 := (h.2.2 j2 j a2 b2 a b k1 k2 ha hb k3 k4 va vb).mpr k6
      rw [g6] at e1
      rw [k5] at e2
      have le1 : (nums r).idxOf (numN b) ≤ (nums l).idxOf (numN a) := by
        rcases Nat.lt_or_ge ((nums l).idxOf (numN a)) ((nums r).idxOf (numN b)) with z | z
        · have := List.not_of_lt_findIdx (p := (· == numN b)) (xs := nums r) z
          simp [e1] at this
        · exact z
      have le2 : (nums l).idxOf (numN a) ≤ (nums r).idxOf (numN b) := by
        rcases Nat.lt_or_ge ((nums r).idxOf (numN b)) ((nums l).idxOf (numN a)) with z | z
        · have := List.not_of_lt_findIdx (p := (· == numN a)) (xs := nums l) z
          simp [e2] at this
        · exact z
      omega
    have e : renM 0 l = renM 0 r := by
      refine List.ext_getElem? fun k => ?_
      unfold renM
      rw [List.getElem?_map, List.getElem?_map]
      rcases Nat.lt_or_ge k l.length with z | z
      · have ha : l[k]? = some l[k] := List.getElem?_eq_getElem z
        have hb : r[k]? = some (r[k]'(by rw [← h.1]; exact z)) := List.getElem?_eq_getElem _
        generalize l[k] = a at ha
        generalize r[k]'(by rw [← h.1]; exact z) = b at hb
        rw [ha, hb]
        show some _ = some _
        congr 1
        unfold mapD
        rcases h.2.1 k a b ha hb with ⟨va, vb⟩ | q
        · rw [if_pos va, if_pos vb]; show PyData.tuple [.str "v", .int (0 + ((nums l).idxOf (numN a) : Nat))] = .tuple [.str "v", .int (0 + ((nums r).idxOf (numN b) : Nat))]; rw [idx k a b ha hb va vb]
        · have en := nd_eq (nl a (List.mem_of_getElem? ha)) (nr b (List.mem_of_getElem? hb)) q
          by_cases va : isVarN a = true
          · have vb : isVarN b = true := by rw [← en]; exact va
            rw [if_pos va, if_pos vb]; show PyData.tuple [.str "v", .int (0 + ((nums l).idxOf (numN a) : Nat))] = .tuple [.str "v", .int (0 + ((nums r).idxOf (numN b) : Nat))]; rw [idx k a b ha hb va vb]
          · rw [if_neg va, if_neg (by rw [← en]; exact va), en]
      · rw [List.getElem?_eq_none z, List.getElem?_eq_none (by rw [← h.1]; exact z)]
        rfl
    rw [e]
    exact tup_eqv (ren_nd nr (Int.le_refl 0))
theorem inV_int (n : Int) : ∀ l : List Int, inV (.int n) (l.map V.int) = decide (n ∈ l)
  | [] => rfl
  | m :: l => by
    have ih := inV_int n l
    unfold inV at *
    rw [List.map_cons, List.any_cons, ih]
    show ((m == n) || decide (n ∈ l)) = _
    by_cases h : m = n
    · subst h; simp
    · rw [beq_eq_false_iff_ne.mpr h, Bool.false_or]
      refine decide_eq_decide.mpr ⟨fun z => List.mem_cons_of_mem _ z, fun z => ?_⟩
      rcases List.mem_cons.mp z with y | y
      · exact absurd y.symm h
      · exact y
theorem ints_flat : ∀ l : List Int, (l.map V.int).all flatV = true
  | [] => rfl
  | m :: l => by rw [List.map_cons, List.all_cons, ints_flat l]; rfl
theorem numS_non {acc : List Int} {d : PyData} (h : ¬ isVarN d = true) : numS acc d = acc := if_neg fun z => h z.1
theorem numS_old {acc : List Int} {d : PyData} (h : numN d ∈ acc) : numS acc d = acc := if_neg fun z => z.2 h
theorem numS_new {acc : List Int} {d : PyData} (v : isVarN d = true) (h : numN d ∉ acc) : numS acc d = acc ++ [numN d] := if_pos ⟨v, h⟩
theorem keys_put {kvs : List (Key × V)} {acc : List Int} {d : PyData} (x : V) (v : isVarN d = true) (h : kvs.map (·.1) = acc.map Sum.inl) : (putK kvs (Sum.inl (numN d)) x).map (·.1) = (numS acc d).map Sum.inl := by
  have hk : (kvs.any fun kv => decide (kv.1 = Sum.inl (numN d))) = decide (numN d ∈ acc) := by
    by_cases hm : numN d ∈ acc
    · rw [decide_eq_true hm]
      have : (Sum.inl (numN d) : Key) ∈ kvs.map (·.1) := by rw [h]; exact List.mem_map_of_mem hm
      obtain ⟨kv, h1, h2⟩ := List.mem_map.mp this
      exact List.any_eq_true.mpr ⟨kv, h1, decide_eq_true h2⟩
    · rw [decide_eq_false hm]
      refine Bool.eq_false_iff.mpr fun z => hm ?_
      obtain ⟨kv, h1, h2⟩ := List.any_eq_true.mp z
      have h3 : kv.1 ∈ kvs.map (·.1) := List.mem_map_of_mem h1
      rw [of_decide_eq_true h2, h] at h3
      obtain ⟨m, h4, h5⟩ := List.mem_map.mp h3
      rw [← Sum.inl.inj h5]
      exact h4
  unfold putK
  rw [hk]
  by_cases hm : numN d ∈ acc
  · rw [if_pos (decide_eq_true hm), numS_old hm, ← h, List.map_map]
    refine List.map_congr_left fun kv _ => ?_
    show (if kv.1 = Sum.inl (numN d) then (kv.1, x) else kv).1 = kv.1
    split <;> rfl
  · rw [if_neg (fun z => hm (of_decide_eq_true z)), numS_new v hm, List.map_append, List.map_append, h]
    rfl
theorem keys_kV {kvs : List (Key × V)} {acc : List Int} (h : kvs.map (·.1) = acc.map Sum.inl) : (kvs.map fun kv => kV kv.1) = acc.map V.int := by
  have : (kvs.map fun kv => kV kv.1) = (kvs.map (·.1)).map kV := by rw [List.map_map]; rfl
  rw [this, h, List.map_map]
  rfl
structure Given (K : PySem.W.Frag) (H : Hp) (f : Int) (acc : List Int) (kvs : List (Key × V)) : Prop where
  len : kvs.length = acc.length
  old : ∀ n ∈ acc, ∃ v, valV kvs (Sum.inl n) = some v ∧ Dp K H v (.tuple [.str "v", .int (f + (acc.idxOf n : Nat))])
  new : ∀ n, n ∉ acc → valV kvs (Sum.inl n) = none
theorem Given.mono {K : PySem.W.Frag} {H H' : Hp} {f : Int} {acc : List Int} {kvs : List (Key × V)} (g : Given K H f acc kvs) (h : ∀ v n, Dp K H v (.tuple [.str "v", .int n]) → Dp K H' v (.tuple [.str "v", .int n])) : Given K H' f acc kvs :=
  ⟨g.len, fun n hn => by obtain ⟨v, h1, h2⟩ := g.old n hn; exact ⟨v, h1, h _ _ h2⟩, g.new⟩
theorem Given.put {K : PySem.W.Frag} {H : Hp} {f : Int} {acc : List Int} {kvs : List (Key × V)} {n : Int} {v : V} (g : Given K H f acc kvs) (hn : n ∉ acc) (hv : Dp K H v (.tuple [.str "v", .int (f + (acc.length : Nat))])) : Given K H f (acc ++ [n]) (putK kvs (Sum.inl n) v) := by
  refine ⟨?_, fun m hm => ?_, fun m hm => ?_⟩
  · rw [putK_new _ (g.new n hn), List.length_append, List.length_append, g.len]
    rfl
  · rw [valV_put]
    by_cases e : m = n
    · subst e
      refine ⟨v, if_pos rfl, ?_⟩
      rw [List.idxOf_append, if_neg hn]
      rw [show ([m] : List Int).idxOf m = 0 by simp, Nat.zero_add]
      exact hv
    · rcases List.mem_append.mp hm with z | z
      · obtain ⟨w, h1, h2⟩ := g.old m z
        refine ⟨w, by rw [if_neg (fun y => e (Sum.inl.inj y))]; exact h1, ?_⟩
        rw [List.idxOf_append, if_pos z]
        exact h2
      · exact absurd (List.mem_singleton.mp z) e
  · rw [valV_put, if_neg (fun y => hm (by rw [Sum.inl.inj y]; exact List.mem_append_right _ (List.mem_singleton.mpr rfl)))]
    exact g.new m fun z => hm (List.mem_append_left _ z)
def pairD (p : Int × Int) : PyData := .tuple [.int p.1, .int p.2]
theorem pairs_noL : ∀ P : List (Int × Int), noLA (P.map pairD) = true
  | [] => by simp [noLA]
  | p :: P => by rw [List.map_cons, noLA, pairs_noL P]; simp [pairD, noL, noLA]
def PairsOf (l r : List PyData) (i : Nat) (P : List (Int × Int)) : Prop := ∀ n m, (n, m) ∈ P ↔ ∃ (j : Nat) (a b : PyData), j < i ∧ l[j]? = some a ∧ r[j]? = some b ∧ isVarN a = true ∧ isVarN b = true ∧ numN a = n ∧ numN b = m
theorem PairsOf.add {l r : List PyData} {i : Nat} {P : List (Int × Int)} {a b : PyData} (h : PairsOf l r i P) (ha : l[i]? = some a) (hb : r[i]? = some b) (va : isVarN a = true) (vb : isVarN b = true) : PairsOf l r (i + 1) (P ++ [(numN a, numN b)]) := by
  intro n m
  constructor
  · intro hm
    rcases List.mem_append.mp hm with z | z
    · obtain ⟨j, a', b', h1, h2⟩ := (h n m).mp z
      exact ⟨j, a', b', by omega, h2⟩
    · have := List.mem_singleton.mp z
      cases this
      exact ⟨i, a, b, by omega, ha, hb, va, vb, rfl, rfl⟩
  · rintro ⟨j, a', b', h1, h2, h3, h4, h5, h6, h7⟩
    by_cases e : j = i
    · subst e
      rw [ha] at h2
      rw [hb] at h3
      cases h2
      cases h3
      rw [← h6, ← h7]
      exact List.mem_append_right _ (List.mem_singleton.mpr rfl)
    · exact List.mem_append_left _ ((h n m).mpr ⟨j, a', b', by omega, h2, h3, h4, h5, h6, h7⟩)
theorem PairsOf.stay {l r : List PyData} {i : Nat} {P : List (Int × Int)} {a b : PyData} (h : PairsOf l r i P) (ha : l[i]? = some a) (hb : r[i]? = some b) (v : ¬ (isVarN a = true ∧ isVarN b = true)) : PairsOf l r (i + 1) P := by
  intro n m
  constructor
  · intro hm
    obtain ⟨j, a', b', h1, h2⟩ := (h n m).mp hm
    exact ⟨j, a', b', by omega, h2⟩
  · rintro ⟨j, a', b', h1, h2, h3, h4, h5, h6, h7⟩
    by_cases e : j = i
    · subst e
      rw [ha] at h2
      rw [hb] at h3
      cases h2
      cases h3
      exact absurd ⟨h4, h5⟩ v
    · exact (h n m).mpr ⟨j, a', b', by omega, h2, h3, h4, h5, h6, h7⟩
theorem nums_nodup (ds : List PyData) : (nums ds).Nodup := by
  have h : ∀ (ds : List PyData) (acc : List Int), acc.Nodup → (ds.foldl numS acc).Nodup := by
    intro ds
    induction ds with
    | nil => intro acc h; exact h
    | cons d r ih =>
      intro acc h
      rw [List.foldl_cons]
      refine ih _ ?_
      unfold numS
      split
      · next z =>
        refine List.nodup_append.mpr ⟨h, by simp, fun x hx y hy => ?_⟩
        rw [List.mem_singleton.mp hy]
        exact fun e => z.2 (e ▸ hx)
      · exact h
  exact h ds [] List.nodup_nil
theorem VarP.symm {l r : List PyData} (nl : ∀ d ∈ l, NdA d) (nr : ∀ d ∈ r, NdA d) (h : VarP l r) : VarP r l := by
  refine ⟨h.1.symm, fun k a b ha hb => ?_, fun j k a b c d ha hb hc hd va vb vc vd => (h.2.2 j k b a d c hb ha hd hc vb va vd vc).symm⟩
  rcases h.2.1 k b a hb ha with ⟨z1, z2⟩ | z
  · exact .inl ⟨z2, z1⟩
  · rw [nd_eq (nl b (List.mem_of_getElem? hb)) (nr a (List.mem_of_getElem? ha)) z]
    exact .inr (nd_refl (nr a (List.mem_of_getElem? ha)))
theorem VarP.refl {l : List PyData} (nl : ∀ d ∈ l, NdA d) : VarP l l := by
  refine ⟨rfl, fun k a b ha hb => ?_, fun j k a b c d ha hb hc hd _ _ _ _ => ?_⟩
  · rw [ha] at hb
    cases hb
    exact .inr (nd_refl (nl a (List.mem_of_getElem? ha)))
  · rw [ha] at hb
    rw [hc] at hd
    cases hb
    cases hd
    exact Iff.rfl
theorem ints_dp {K : PySem.W.Frag} {H : Hp} : ∀ l : List Int, DpAll K H (l.map V.int) (l.map PyData.int)
  | [] => .nil
  | n :: l => .cons (.int n) (ints_dp l)
def Drawn (N : List Int) (i : Nat) (kvs : List (Key × V)) : Prop := (∀ m ∈ N.take i, ∃ z, valV kvs (Sum.inl m) = some (.int z)) ∧ ∀ k v, valV kvs k = some v → ∃ z : Int, v = .int z ∧ 0 ≤ z
theorem Drawn.put {N : List Int} {i : Nat} {kvs : List (Key × V)} {n z : Int} (h : Drawn N i kvs) (hz : 0 ≤ z) : Drawn N i (putK kvs (Sum.inl n) (.int z)) := by
  refine ⟨fun m hm => ?_, fun k v hv => ?_⟩
  · rw [valV_put]
    by_cases e : (Sum.inl m : Key) = Sum.inl n
    · rw [if_pos e]; exact ⟨z, rfl⟩
    · rw [if_neg e]; exact h.1 m hm
  · rw [valV_put] at hv
    by_cases e : k = Sum.inl n
    · rw [if_pos e] at hv; cases hv; exact ⟨z, rfl, hz⟩
    · rw [if_neg e] at hv; exact h.2 k v hv
theorem Drawn.next {N : List Int} {i : Nat} {kvs : List (Key × V)} {n z : Int} (h : Drawn N i kvs) (hn : N[i]? = some n) (hz : 0 ≤ z) : Drawn N (i + 1) (putK kvs (Sum.inl n) (.int z)) := by
  refine ⟨fun m hm => ?_, (h.put hz).2⟩
  rw [List.take_add_one, hn] at hm
  rcases List.mem_append.mp hm with y | y
  · exact (h.put hz).1 m y
  · rw [List.mem_singleton.mp y, valV_put, if_pos rfl]
    exact ⟨z, rfl⟩
def Named (N : List Int) (f : Int) (i : Nat) (kvs : List (Key × V)) : Prop := ∀ m ∈ N.take i, valV kvs (Sum.inl m) = some (.int (f + (N.idxOf m : Nat)))
theorem Named.next {N : List Int} {f : Int} {i : Nat} {kvs : List (Key × V)} {n : Int} (h : Named N f i kvs) (nd : N.Nodup) (hn : N[i]? = some n) : Named N f (i + 1) (putK kvs (Sum.inl n) (.int (f + (i : Nat)))) := by
  have hi : N.idxOf n = i := by
    obtain ⟨h1, h2⟩ := List.getElem?_eq_some_iff.mp hn
    rw [← h2]
    exact nd.idxOf_getElem i h1
  intro m hm
  rw [valV_put]
  by_cases e : m = n
  · rw [if_pos (congrArg _ e), e, hi]
  · rw [if_neg (fun y => e (Sum.inl.inj y))]
    rw [List.take_add_one, hn] at hm
    rcases List.mem_append.mp hm with y | y
    · exact h m y
    · exact absurd (List.mem_singleton.mp y) e
/-! ### the promises of definite clauses -/
def Frs (K : PySem.W.Frag) (H H' : Hp) (v : V) (ds : List PyData) : Prop := Im K (fun b => H b = Option.none) H' v (.tuple ds)
def ndC (K : PySem.W.Frag) : Value := .ref (clsA K "NotDefinite")
def sp_end_of (K : PySem.W.Frag) : Sp := fun vs H Q _ => ∃ (x : V) (ds : List PyData) (i k : Nat), vs = [x, .int i] ∧ Dp K H x (.tuple ds) ∧ (∀ d ∈ ds, NdA d) ∧ Cls (k + 1) (ds.drop i) ∧ Q (.int ((i + tk 1 (ds.drop i) : Nat) : Int)) H
def sp_is_control (K : PySem.W.Frag) : Sp := fun vs H Q _ => ∃ (x : Str) (n : Int), vs = [.str x, .int n] ∧ okName x = true ∧ ∀ H', Same H H' → Q (.bl (decide ((x, n) ∈ CTL))) H'
def sp_is_built_in (K : PySem.W.Frag) : Sp := fun vs H Q _ => ∃ (x : Str) (n : Int), vs = [.str x, .int n] ∧ okName x = true ∧ ∀ H', Same H H' → Q (.bl (decide ((x, n) ∈ BIN))) H'
def sp_split_clause (K : PySem.W.Frag) : Sp := fun vs H Q _ => ∃ (x : V) (d : PyData) (r : List PyData), vs = [x] ∧ Dp K H x (.tuple (d :: r)) ∧ (∀ e ∈ d :: r, NdA e) ∧ (PyData.eqv d clN = true → Cls 2 r) ∧ r.length ≤ 200 ∧ ∀ v H', Same H H' → Dp K H' v (.tuple [.tuple (splitM (d :: r)).1, .tuple (splitM (d :: r)).2]) → Q v H'
def sp_check_goal (K : PySem.W.Frag) : Sp := fun vs H Q E => ∃ (x : V) (d : PyData) (r : List PyData), vs = [x] ∧ Dp K H x (.tuple (d :: r)) ∧ NdA d ∧ (isG d = true → ∀ H', Same H H' → Q .non H') ∧ (isG d = false → ∀ H', Same H H' → E (ndC K) Option.none H')
def sp_goals_of (K : PySem.W.Frag) : Sp := fun vs H Q E => ∃ (x : V) (ds : List PyData) (rows : List (List PyData)) (m : Nat), vs = [x] ∧ Dp K H x (.tuple ds) ∧ (∀ d ∈ ds, NdA d) ∧ Flat rows ds ∧ Cls m ds ∧ ds.length ≤ 200 ∧ rows.length ≤ 200 ∧
  (goodM rows = true → ∀ r ys H', Same H H' → H r = Option.none → H' r = some (.lst ys) → DpAll K H' ys ((goalsM rows).map PyData.tuple) → Q (.ref r) H') ∧ (goodM rows = false → ∀ H', Same H H' → E (ndC K) Option.none H')
def sp_head_and_goals (K : PySem.W.Frag) : Sp := fun vs H Q E => ∃ (x : V) (d : PyData) (r : List PyData) (rows : List (List PyData)) (m : Nat), vs = [x] ∧ Dp K H x (.tuple (d :: r)) ∧ (∀ e ∈ d :: r, NdA e) ∧ (PyData.eqv d clN = true → Cls 2 r) ∧ r.length < 200 ∧ (splitM (d :: r)).1 ≠ [] ∧ Flat rows (splitM (d :: r)).2 ∧ Cls m (splitM (d :: r)).2 ∧ rows.length ≤ 200 ∧
  ((isGr (splitM (d :: r)).1 && goodM rows) = true → ∀ p hv g ys H', Same H H' → H g = Option.none → H' p = some (.tup [hv, .ref g]) → Dp K H' hv (.tuple (splitM (d :: r)).1) → H' g = some (.lst ys) → DpAll K H' ys ((goalsM rows).map PyData.tuple) → p ≠ g → Q (.ref p) H') ∧ ((isGr (splitM (d :: r)).1 && goodM rows) = false → ∀ H', Same H H' → E (ndC K) Option.none H')
def sp__law_leaf (K : PySem.W.Frag) : Sp := fun vs H Q _ => ∃ (s l : Addr) (wd : Int), vs = [.ref s, .int wd] ∧ Stm H s l ∧ 0 < wd ∧ wd ≤ 1000 ∧ ∀ v d H', NdA d → arN d = 0 → But s H H' → Stm H' s l → Frs K H H' v [d] → Q v H'
def sp__law_argument (K : PySem.W.Frag) : Sp := fun vs H Q _ => ∃ (s l : Addr) (wd : Int), vs = [.ref s, .int wd] ∧ Stm H s l ∧ 0 < wd ∧ wd ≤ 1000 ∧ ∀ v ds H', (∀ d ∈ ds, NdA d) → Cls 1 ds → ds.length ≤ 3 → But s H H' → Stm H' s l → Frs K H H' v ds → Q v H'
def sp__law_atom_of (K : PySem.W.Frag) : Sp := fun vs H Q _ => ∃ (s l : Addr) (wd : Int), vs = [.ref s, .int wd] ∧ Stm H s l ∧ 0 < wd ∧ wd ≤ 1000 ∧ ∀ v ds H', OkR ds → isGr ds = true → But s H H' → Stm H' s l → Frs K H H' v ds → Q v H'
/-! ### a law's own unify -/
theorem sub1_cons (a : PyData) (l : List PyData) : ∃ t, sub1 (a :: l) = a :: t := by
  unfold sub1
  rw [tk_cons (by decide), Nat.add_comm, List.take_succ_cons]
  exact ⟨_, rfl⟩
theorem sub1_var {a : PyData} {l : List PyData} (ha : NdA a) (h : isVarN a = true) : sub1 (a :: l) = [a] := by
  rw [var_vN ha h, sub_var]
theorem FndA.same' {K : PySem.W.Frag} {H H' : Hp} {d : Addr} {F : Tab} (h : FndA K H d F) (n : TabN F) (s : Same H H') : FndA K H' d F := by
  obtain ⟨kvs, e, t⟩ := h.at_
  exact ⟨kvs, s _ _ e, tab_same s n t⟩
theorem eg_tab {B : Nat} {k : Nat} {L R : List PyData} {T : Tab} {s : Res} (h : Eg B k L R T s) : Sol L R T → ∀ T', s = .tab T' → TabT T' ∧ (T'.map (·.1)).Nodup := by
  induction h with
  | done L T => intro S T' e; cases e; exact ⟨S.t, S.nd⟩
  | clash _ _ => intro _ _ e; cases e
  | occ _ _ _ => intro _ _ e; cases e
  | big _ _ _ _ => intro _ _ e; cases e
  | step _ h1 h2 _ _ ih => intro S T' e; exact ih (S.next (bind_ok S.l S.r h1 h2)) T' e
theorem tab_small {B : Nat} {k : Nat} {L R : List PyData} {T : Tab} {s : Res} (h : Eg B k L R T s) : Sol L R T → ∀ T', s = .tab T' → T'.length = T.length + k := by
  induction h with
  | done L T => intro S T' e; cases e; rfl
  | clash _ _ => intro _ _ e; cases e
  | occ _ _ _ => intro _ _ e; cases e
  | big _ _ _ _ => intro _ _ e; cases e
  | step _ h1 h2 _ _ ih =>
    intro S T' e
    rw [ih (S.next (bind_ok S.l S.r h1 h2)) T' e]
    unfold up1
    rw [List.length_append, List.length_map, List.length_singleton]
    omega
def halfT (f : List PyData → List PyData) (T : Tab) (i : Nat) : Tab := ((T.take i).map fun q => (q.1, f q.2)) ++ T.drop i
theorem half_step {f : List PyData → List PyData} {T : Tab} {i : Nat} {q : Int × List PyData} (nd : (T.map (·.1)).Nodup) (h : T[i]? = some q) : (halfT f T i).map (fun x => if x.1 = q.1 then (x.1, f q.2) else x) = halfT f T (i + 1) := by
  obtain ⟨hi, e⟩ := List.getElem?_eq_some_iff.mp h
  have eT : T = T.take i ++ q :: T.drop (i + 1) := by rw [← e, ← List.drop_eq_getElem_cons hi, List.take_append_drop]
  have ed : T.drop i = q :: T.drop (i + 1) := by rw [List.drop_eq_getElem_cons hi, e]
  have et : T.take (i + 1) = T.take i ++ [q] := by rw [List.take_add_one, h]; rfl
  have nA : ∀ x ∈ T.take i, x.1 ≠ q.1 := fun x hx w => by
    rw [eT, List.map_append, List.map_cons] at nd
    have := (List.nodup_append.mp nd).2.2 x.1 (List.mem_map.mpr ⟨x, hx, rfl⟩) q.1 (.head _)
    exact this w
  have nB : ∀ x ∈ T.drop (i + 1), x.1 ≠ q.1 := fun x hx w => by
    rw [eT, List.map_append, List.map_cons] at nd
    have := (List.nodup_cons.mp (List.nodup_append.mp nd).2.1).1
    exact this (by rw [← w]; exact List.mem_map.mpr ⟨x, hx, rfl⟩)
  unfold halfT
  rw [ed, et, List.map_append, List.map_map, List.map_cons, if_pos rfl, List.map_append, List.append_assoc]
  congr 1
  · refine List.map_congr_left fun x hx => ?_
    show (if x.1 = q.1 then _ else _) = _
    rw [if_neg (nA x hx)]
  · show _ = [(q.1, f q.2)] ++ _
    rw [show (T.drop (i + 1)).map (fun x => if x.1 = q.1 then (x.1, f q.2) else x) = T.drop (i + 1) from by
      rw [show T.drop (i + 1) = (T.drop (i + 1)).map id from (List.map_id _).symm]
      rw [List.map_map]
      refine List.map_congr_left fun x hx => ?_
      show (if x.1 = q.1 then _ else _) = _
      rw [if_neg (nB x hx)]]
    rfl
theorem half_keys (f : List PyData → List PyData) (T : Tab) (i : Nat) : (halfT f T i).map (·.1) = T.map (·.1) := by
  unfold halfT
  rw [List.map_append, List.map_map]
  show ((T.take i).map (·.1)) ++ _ = _
  rw [← List.map_append, List.take_append_drop]
theorem half_get {f : List PyData → List PyData} {T : Tab} {i : Nat} {q : Int × List PyData} (h : T[i]? = some q) : (halfT f T i)[i]? = some q := by
  unfold halfT
  have hi := (List.getElem?_eq_some_iff.mp h).1
  rw [List.getElem?_append_right (by rw [List.length_map, List.length_take]; omega), List.length_map, List.length_take, Nat.min_eq_left (by omega), Nat.sub_self, List.getElem?_drop]
  exact h
theorem half_all (f : List PyData → List PyData) (T : Tab) : halfT f T T.length = T.map fun q => (q.1, f q.2) := by
  unfold halfT
  rw [List.take_length, List.drop_length, List.append_nil]
theorem half_mem {f : List PyData → List PyData} {T : Tab} {i : Nat} {x : Int × List PyData} (h : x ∈ halfT f T i) : x ∈ T ∨ ∃ q ∈ T, x = (q.1, f q.2) := by
  rcases List.mem_append.mp h with h | h
  · obtain ⟨q, hq, e⟩ := List.mem_map.mp h
    exact .inr ⟨q, List.mem_of_mem_take hq, e.symm⟩
  · exact .inl (List.mem_of_mem_drop h)
theorem len_appM {n : Int} {v ds : List PyData} (h1 : v.length ≤ 1000) (h2 : ds.length ≤ 1000) (hd : ∀ d ∈ ds, NdA d) : (appM [(n, v)] ds).length ≤ 2000000 := by
  have e := len_bind (n := n) (v := v) hd
  have c := cnt_le n ds
  have : (cntN n ds : Int) * ((v.length : Int) - 1) ≤ 1000 * 1000 := by
    rcases Int.le_total 0 ((v.length : Int) - 1) with w | w
    · exact Int.mul_le_mul (by omega) (by omega) w (by decide)
    · exact Int.le_trans (Int.mul_nonpos_of_nonneg_of_nonpos (by omega) w) (by decide)
  omega
def dueQ (K : PySem.W.Frag) (H : Hp) (Q : VK) : Res → Prop
  | .non => ∀ H', Same H H' → Q .non H'
  | .big => ∀ H', Same H H' → Q (.str "large") H'
  | .tab T => ∀ d H', Same H H' → H d = Option.none → FndA K H' d T → Q (.ref d) H'
theorem drw {K : PySem.W.Frag} {H : Hp} {Q : VK} {E : XK} {s l : Addr} {n : Int} (S : Stm H s l) (h0 : 0 < n) (h1 : n ≤ 10 ^ 41) (q : ∀ r H', 0 ≤ r → r < n → But s H H' → Stm H' s l → Q (.int r) H') : sp__law_draw K ([V.ref s, .int n] ++ []) H Q E := ⟨s, l, n, rfl, S, h0, nine (by omega) h1, q⟩
theorem eg_small {B : Nat} {k : Nat} {L R : List PyData} {T : Tab} {s : Res} (h : Eg B k L R T s) : Sol L R T → L.length ≤ B → R.length ≤ B → ∀ T', s = .tab T' → ∀ q ∈ T', q.2.length ≤ B := by
  induction h with
  | done L T => intro S l r T' e; cases e; exact fun q hq => (S.inf q hq).elim (fun w => Nat.le_trans w.length_le l) (fun w => Nat.le_trans w.length_le r)
  | clash _ _ => intro _ _ _ _ e; cases e
  | occ _ _ _ => intro _ _ _ _ e; cases e
  | big _ _ _ _ => intro _ _ _ _ e; cases e
  | step _ h1 h2 h3 _ ih => intro S _ _ T' e; exact ih (S.next (bind_ok S.l S.r h1 h2)) (by omega) (by omega) T' e
theorem app_le {B : Nat} {T : Tab} (hB : 1 ≤ B) (h : ∀ q ∈ T, q.2.length ≤ B) : ∀ ds : List PyData, (appM T ds).length ≤ ds.length * B
  | [] => by rw [appM_nil]; exact Nat.zero_le _
  | d :: r => by
    have ih := app_le hB h r
    have one : (appN T d).length ≤ B := by
      by_cases v : isVarN d = true
      · unfold appN
        rw [if_pos v]
        cases e : valT T (numN d) with
        | none => exact hB
        | some w =>
          obtain ⟨q, hq, rfl⟩ := valT_mem e
          exact h q hq
      · rw [appN_non v]
        exact hB
    rw [appM_cons, List.length_append, List.length_cons, Nat.add_mul]
    omega
/-! ### lists of terms, renumbered together -/
def gN (f : Int) (ds : List PyData) (n : Int) : Int := f + ((nums ds).idxOf n : Nat)
def renT (f : Int) (ts : List (List PyData)) : List (List PyData) := ts.map fun t => t.map (mapD (gN f ts.flatten))
theorem renT_flat (f : Int) (ts : List (List PyData)) : renM f ts.flatten = (renT f ts).flatten := by
  unfold renM renT gN
  rw [← List.map_flatten]
def NdT (ts : List (List PyData)) : Prop := ∀ t ∈ ts, ∀ d ∈ t, NdA d
theorem NdT.flat {ts : List (List PyData)} (h : NdT ts) : ∀ d ∈ ts.flatten, NdA d := fun d hd => by
  obtain ⟨t, ht, hd⟩ := List.mem_flatten.mp hd
  exact h t ht d hd
theorem NdT.noL {ts : List (List PyData)} (h : NdT ts) : noLA (ts.map PyData.tuple) = true := noLA_of fun e he => by
  obtain ⟨t, ht, rfl⟩ := List.mem_map.mp he
  exact tup_noL (h t ht)
theorem renT_len (f : Int) (ts : List (List PyData)) : (renT f ts).length = ts.length := List.length_map _
theorem renT_at {f : Int} {ts : List (List PyData)} {i : Nat} {t : List PyData} (h : ts[i]? = some t) : (renT f ts)[i]? = some (t.map (mapD (gN f ts.flatten))) := by
  unfold renT
  rw [List.getElem?_map, h]
  rfl
theorem gN_pos {f : Int} (h : 0 ≤ f) (ds : List PyData) (n : Int) : 0 ≤ gN f ds n := by unfold gN; omega
theorem renT_nd {f : Int} {ts : List (List PyData)} (h : NdT ts) (hf : 0 ≤ f) : NdT (renT f ts) := fun t ht d hd => by
  obtain ⟨u, hu, rfl⟩ := List.mem_map.mp ht
  obtain ⟨e, he, rfl⟩ := List.mem_map.mp hd
  exact mapD_nd (h u hu e he) (gN_pos hf _)
theorem mapD_noL {g : Int → Int} {d : PyData} (h : NdA d) : noL (mapD g d) = true := by
  unfold mapD
  split
  · simp [noL, noLA]
  · exact nd_noL h
theorem renT_noL1 {g : Int → Int} {t : List PyData} (h : ∀ d ∈ t, NdA d) : noL (.tuple (t.map (mapD g))) = true := by
  have : noLA (t.map (mapD g)) = true := noLA_of fun e he => by
    obtain ⟨d, hd, rfl⟩ := List.mem_map.mp he
    exact mapD_noL (h d hd)
  simpa [noL] using this
theorem renT_noL {g : Int → Int} {ts : List (List PyData)} (h : NdT ts) : noLA ((ts.map fun t => t.map (mapD g)).map PyData.tuple) = true := noLA_of fun e he => by
  obtain ⟨u, hu, rfl⟩ := List.mem_map.mp he
  obtain ⟨t, ht, rfl⟩ := List.mem_map.mp hu
  exact renT_noL1 (h t ht)
def szT (ts : List (List PyData)) : Nat := ts.flatten.length
theorem take_flat (ts : List (List PyData)) (i : Nat) : (ts.take i).flatten = ts.flatten.take (szT (ts.take i)) := by
  have e : ts.flatten = (ts.take i).flatten ++ (ts.drop i).flatten := by rw [← List.flatten_append, List.take_append_drop]
  unfold szT
  rw [e, List.take_left]
theorem cut_flat {ts : List (List PyData)} {i : Nat} {t : List PyData} (h : ts[i]? = some t) : (ts.flatten.drop (szT (ts.take i))).take t.length = t := by
  obtain ⟨hi, rfl⟩ := List.getElem?_eq_some_iff.mp h
  have e : ts.flatten = (ts.take i).flatten ++ (ts[i] ++ (ts.drop (i + 1)).flatten) := by
    rw [← List.flatten_cons, ← List.drop_eq_getElem_cons hi, ← List.flatten_append, List.take_append_drop]
  unfold szT
  rw [e, List.drop_left, List.take_left]
theorem szT_succ {ts : List (List PyData)} {i : Nat} {t : List PyData} (h : ts[i]? = some t) : szT (ts.take (i + 1)) = szT (ts.take i) + t.length := by
  unfold szT
  rw [List.take_add_one, h, List.flatten_append, List.length_append]
  simp
theorem szT_le (ts : List (List PyData)) (i : Nat) : szT (ts.take i) ≤ szT ts := by
  unfold szT
  rw [take_flat, List.length_take]
  exact Nat.min_le_right _ _
theorem szT_mul {m : Nat} {ts : List (List PyData)} (h : ∀ t ∈ ts, t.length ≤ 200) (l : ts.length ≤ m) (hm : m ≤ 500 := by decide) : szT ts ≤ 100000 := by
  · have : ∀ ts : List (List PyData), (∀ t ∈ ts, t.length ≤ 200) → ts.flatten.length ≤ 200 * ts.length := by
      intro ts
      induction ts with
      | nil => intro _; exact Nat.le_refl _
      | cons t r ih =>
        intro h
        have h1 := h t (.head _)
        have h2 := ih fun x hx => h x (.tail _ hx)
        rw [List.flatten_cons, List.length_append, List.length_cons]
        omega
    have := this ts h
    unfold szT
    omega
/-- the next number that is free -/
def nxN (m : Int) (d : PyData) : Int := if isVarN d = true then max m (numN d + 1) else m
def nxt (ds : List PyData) : Int := ds.foldl nxN 0
theorem nx_take {ds : List PyData} {i : Nat} {d : PyData} (h : ds[i]? = some d) : nxt (ds.take (i + 1)) = nxN (nxt (ds.take i)) d := by
  unfold nxt
  rw [List.take_add_one, h, List.foldl_append]
  rfl
theorem nx_fold : ∀ (ds : List PyData) (m : Int), (∀ d ∈ ds, NdA d) → 0 ≤ m → m ≤ ds.foldl nxN m ∧ (∀ d ∈ ds, isVarN d = true → numN d + 1 ≤ ds.foldl nxN m) ∧ (ds.foldl nxN m = m ∨ ∃ d ∈ ds, isVarN d = true ∧ ds.foldl nxN m = numN d + 1)
  | [], m, _, _ => ⟨Int.le_refl _, (fun d hd => nomatch hd), .inl rfl⟩
  | d :: r, m, nd, h => by
    have h2 : m ≤ nxN m d ∧ (isVarN d = true → numN d + 1 ≤ nxN m d) ∧ (nxN m d = m ∨ (isVarN d = true ∧ nxN m d = numN d + 1)) := by
      unfold nxN
      by_cases v : isVarN d = true
      · rw [if_pos v]
        refine ⟨by omega, fun _ => by omega, ?_⟩
        rcases Int.le_total m (numN d + 1) with z | z
        · exact .inr ⟨v, by omega⟩
        · exact .inl (by omega)
      · rw [if_neg v]
        exact ⟨Int.le_refl _, fun z => absurd z v, .inl rfl⟩
    obtain ⟨a1, a2, a3⟩ := h2
    obtain ⟨b1, b2, b3⟩ := nx_fold r (nxN m d) (fun x hx => nd x (.tail _ hx)) (by omega)
    rw [List.foldl_cons]
    refine ⟨by omega, fun x hx v => ?_, ?_⟩
    · rcases List.mem_cons.mp hx with rfl | hx
      · have := a2 v
        omega
      · exact b2 x hx v
    · rcases b3 with e | ⟨x, hx, v, e⟩
      · rcases a3 with e2 | ⟨v, e2⟩
        · exact .inl (by rw [e, e2])
        · exact .inr ⟨d, .head _, v, by rw [e, e2]⟩
      · exact .inr ⟨x, .tail _ hx, v, e⟩
theorem nxt_pos {ds : List PyData} (h : ∀ d ∈ ds, NdA d) : 0 ≤ nxt ds := (nx_fold ds 0 h (Int.le_refl _)).1
/-- the numbers that max is asked of -/
def nxL (ds : List PyData) : List Int := ds.filterMap fun d => if isVarN d = true then some (numN d + 1) else none
theorem nxL_max {ds : List PyData} (h : ∀ d ∈ ds, NdA d) {m : Int} (h1 : m ∈ nxL ds) (h2 : ∀ y ∈ nxL ds, y ≤ m) : m = nxt ds := by
  obtain ⟨_, b2, b3⟩ := nx_fold ds 0 h (Int.le_refl _)
  obtain ⟨d, hd, e⟩ := List.mem_filterMap.mp h1
  split at e
  case isFalse => cases e
  rename_i v
  cases e
  have l1 := b2 d hd v
  have n0 : 0 ≤ numN d := by
    obtain ⟨n, n0, rfl⟩ := var_num (h d hd) v
    exact n0
  rcases b3 with e | ⟨x, hx, vx, e⟩
  · rw [e] at l1
    omega
  · have := h2 (numN x + 1) (List.mem_filterMap.mpr ⟨x, hx, by rw [if_pos vx]⟩)
    unfold nxt
    omega
theorem nxL_none {ds : List PyData} (h : ∀ d ∈ ds, NdA d) (e : nxL ds = []) : nxt ds = 0 := by
  obtain ⟨_, _, b3⟩ := nx_fold ds 0 h (Int.le_refl _)
  rcases b3 with e2 | ⟨x, hx, vx, _⟩
  · exact e2
  · have : numN x + 1 ∈ nxL ds := List.mem_filterMap.mpr ⟨x, hx, by rw [if_pos vx]⟩
    rw [e] at this
    cases this
theorem nxL_app (a b : List PyData) : nxL (a ++ b) = nxL a ++ nxL b := List.filterMap_append
theorem nxL_len (ds : List PyData) : (nxL ds).length ≤ ds.length := List.length_filterMap_le _ _
theorem flat_take {ts : List (List PyData)} {i : Nat} {t : List PyData} (h : ts[i]? = some t) : (ts.take (i + 1)).flatten = (ts.take i).flatten ++ t := by
  rw [List.take_add_one, h, List.flatten_append]
  simp
theorem g_lc2 {wi wi1 : TI} {g g1 : TG} {tt tt1 : TT} {te : TE} {vs vs1 : List Nat} {σ : L2.St} {H : Hp} {Q : VK} (h : wi σ H fun J H1 => ∀ D, H1 D = Option.none → ∃ W : Nat → Nat → Hp → Prop, (∃ m, W 0 m (upd H1 D (.lst []))) ∧ ∀ i m H, W i m H →
  (J.stop i H ∧ Q (.ref D) H) ∨ (J.go i H ∧ ∃ Nx : Hp → Prop, (∀ H', Nx H' → ∃ m', m' < m ∧ W (i + 1) m' H') ∧ ∀ x H', J.yld i H x H' → g x (wipe σ vs) H' fun σ2 H2 => wipe σ2 vs = wipe σ vs ∧ tt σ2 H2 fun b H3 =>
    if b = true then wi1 σ2 H3 fun J1 H4 => ∃ W1 : Nat → Nat → Hp → Prop, (∃ m, W1 0 m H4) ∧ ∀ j k H, W1 j k H →
      (J1.stop j H ∧ Nx H) ∨ (J1.go j H ∧ ∃ Nx1 : Hp → Prop, (∀ H', Nx1 H' → ∃ k', k' < k ∧ W1 (j + 1) k' H') ∧ ∀ x H', J1.yld j H x H' → g1 x (wipe σ2 vs1) H' fun σ3 H5 => wipe σ3 vs1 = wipe σ2 vs1 ∧ tt1 σ3 H5 fun b H6 =>
        if b = true then te σ3 H6 fun y H7 => ∃ acc, H7 D = some (.lst acc) ∧ acc.length < sizeLine ∧ Nx1 (upd H7 D (.lst (acc ++ [y]))) else Nx1 H6)
    else Nx H3)) : tLc2 wi g tt wi1 g1 tt1 te vs vs1 σ H Q := h
/-! ### the promises of resolution, first half -/
def sp_renumber (K : PySem.W.Frag) : Sp := fun vs H Q _ => ∃ (x : V) (ds : List PyData) (f : Int), vs = [x, .int f] ∧ Dp K H x (.list ds) ∧ (∀ d ∈ ds, NdA d) ∧ ds.length ≤ 100000 ∧ ∀ v H', Same H H' → Dp K H' v (.tuple (renM f ds)) → Q v H'
def TsA (K : PySem.W.Frag) (H : Hp) (a : Addr) (ts : List (List PyData)) : Prop := ∃ xs, SqL K H a xs ∧ DpAll K H xs (ts.map PyData.tuple)
theorem TsA.same {K : PySem.W.Frag} {H H' : Hp} {a : Addr} {ts : List (List PyData)} (h : TsA K H a ts) (s : Same H H') : TsA K H' a ts := by
  obtain ⟨xs, h1, h2⟩ := h
  exact ⟨xs, same_sqL s h1, dp_sameAll s _ _ h2⟩
def sp_renumber_together (K : PySem.W.Frag) : Sp := fun vs H Q _ => ∃ (a : Addr) (ts : List (List PyData)) (f : Int), vs = [.ref a, .int f] ∧ TsA K H a ts ∧ NdT ts ∧ szT ts ≤ 100000 ∧ ts.length ≤ 1000 ∧ ∀ r H' ys, Same H H' → H r = Option.none → H' r = some (.lst ys) → DpAll K H' ys ((renT f ts).map PyData.tuple) → Q (.ref r) H'
def sp_next_number (K : PySem.W.Frag) : Sp := fun vs H Q _ => ∃ (a : Addr) (ts : List (List PyData)), vs = [.ref a] ∧ TsA K H a ts ∧ NdT ts ∧ szT ts ≤ 100000 ∧ ts.length ≤ 1000 ∧ ∀ H', Same H H' → Q (.int (nxt ts.flatten)) H'
def sp_renamed (K : PySem.W.Frag) : Sp := fun vs H Q _ => ∃ (c g : Addr) (hv : V) (hd : List PyData) (gs : List (List PyData)) (f : Int), vs = [.ref c, .int f] ∧ SqT K H c [hv, .ref g] ∧ Dp K H hv (.tuple hd) ∧ TsA K H g gs ∧ NdT (hd :: gs) ∧ szT (hd :: gs) ≤ 100000 ∧ gs.length ≤ 900 ∧
  ∀ p r v H', Same H H' → H r = Option.none → H' p = some (.tup [v, .ref r]) → Dp K H' v (.tuple (hd.map (mapD (gN f (hd :: gs).flatten)))) → (∃ ys, H' r = some (.lst ys) ∧ DpAll K H' ys ((renT f (hd :: gs)).tail.map PyData.tuple)) → Q (.ref p) H'
def sp_check_size (K : PySem.W.Frag) : Sp := fun vs H Q E => ∃ (n m : Int), vs = [.int n, .int m] ∧ m = 200 ∧ (n ≤ m → ∀ H', Same H H' → Q .non H') ∧ (m < n → ∀ H', Same H H' → E (.ref (clsA K "TooLarge")) Option.none H')

/-- the terms of the next row of goals -/
def nextT (T : Tab) (q : List PyData) (gs : List (List PyData)) (p : Nat) (os : List (List PyData)) : List (List PyData) := (q :: (gs.take p ++ os ++ gs.drop (p + 1))).map (appM T)
def wide (ts : List (List PyData)) : Prop := ∃ t ∈ ts, 200 < t.length
def rowM (q : List PyData) (gs : List (List PyData)) (hd : List PyData) (os : List (List PyData)) : List (List PyData) := renT (nxt (q :: gs).flatten) (hd :: os)
def resQ (K : PySem.W.Frag) (H : Hp) (Q : VK) (E : XK) (q : List PyData) (gs : List (List PyData)) (p : Nat) (os : List (List PyData)) : Res → Prop
  | .non => ∀ H', Same H H' → Q .non H'
  | .big => ∀ H', Same H H' → E (.ref (clsA K "TooLarge")) Option.none H'
  | .tab T => (wide (nextT T q gs p os) → ∀ H', Same H H' → E (.ref (clsA K "TooLarge")) Option.none H') ∧
    (¬ wide (nextT T q gs p os) → ∀ c v r ys H', Same H H' → H' c = some (.tup [v, .ref r]) → Dp K H' v (.tuple ((renT 0 (nextT T q gs p os)).headD [])) → H' r = some (.lst ys) → DpAll K H' ys ((renT 0 (nextT T q gs p os)).tail.map PyData.tuple) → Q (.ref c) H')
structure ResI (q : List PyData) (gs : List (List PyData)) (p : Nat) (hd : List PyData) (os : List (List PyData)) (g h : List PyData) (k : Nat) (s : Res) : Prop where
  at_ : gs[p]? = some g
  nd : NdT (q :: gs)
  ndr : NdT (hd :: os)
  sz : ∀ t ∈ (q :: gs) ++ (hd :: os), t.length ≤ 200
  lg : gs.length ≤ 20
  lo : os.length ≤ 200
  tg : Tms 1 g
  th : Tms 1 h
  hh : (rowM q gs hd os).head? = some h
  eg : Eg (max 200 (max g.length h.length)) k g h [] s
  k1 : k ≤ 2000
  gv : ∀ d, g.head? = some d → isVarN d = false
  hv : ∀ d, hd.head? = some d → isVarN d = false
theorem rowM_head {q : List PyData} {gs : List (List PyData)} {hd : List PyData} {os : List (List PyData)} : (rowM q gs hd os).head? = some (hd.map (mapD (gN (nxt (q :: gs).flatten) (hd :: os).flatten))) := rfl
theorem eg_clash {B k : Nat} {a b : PyData} {l r : List PyData} {T : Tab} {s : Res} (h : Eg B k (a :: l) (b :: r) T s) (ne : a ≠ b) (va : isVarN a = false) (vb : isVarN b = false) : s = .non := by
  rcases eg_dif (p := []) h ne rfl rfl with ⟨_, e⟩ | ⟨n, v, e, _⟩
  · exact e
  · rw [bind_C (by unfold toA; rw [va]; rfl) vb] at e
    cases e
theorem ResI.ndOwn {q : List PyData} {gs : List (List PyData)} {p : Nat} {hd : List PyData} {os : List (List PyData)} {g h : List PyData} {k : Nat} {s : Res} (I : ResI q gs p hd os g h k s) : NdT (rowM q gs hd os) := renT_nd I.ndr (nxt_pos I.nd.flat)
theorem ResI.ndAll {q : List PyData} {gs : List (List PyData)} {p : Nat} {hd : List PyData} {os : List (List PyData)} {g h : List PyData} {k : Nat} {s : Res} (I : ResI q gs p hd os g h k s) : NdT (q :: (gs.take p ++ (rowM q gs hd os).tail ++ gs.drop (p + 1))) := fun t ht => by
  rcases List.mem_cons.mp ht with rfl | ht
  · exact I.nd _ (.head _)
  rcases List.mem_append.mp ht with ht | ht
  · rcases List.mem_append.mp ht with ht | ht
    · exact I.nd _ (.tail _ (List.mem_of_mem_take ht))
    · exact I.ndOwn _ (List.mem_of_mem_tail ht)
  · exact I.nd _ (.tail _ (List.mem_of_mem_drop ht))
theorem ResI.lenAll {q : List PyData} {gs : List (List PyData)} {p : Nat} {hd : List PyData} {os : List (List PyData)} {g h : List PyData} {k : Nat} {s : Res} (I : ResI q gs p hd os g h k s) : (q :: (gs.take p ++ (rowM q gs hd os).tail ++ gs.drop (p + 1))).length ≤ 300 ∧ ∀ t ∈ q :: (gs.take p ++ (rowM q gs hd os).tail ++ gs.drop (p + 1)), t.length ≤ 200 := by
  refine ⟨?_, fun t ht => ?_⟩
  · have h1 := I.lg
    have h2 := I.lo
    have h3 : (rowM q gs hd os).tail.length = os.length := by unfold rowM; rw [List.length_tail, renT_len]; rfl
    rw [List.length_cons, List.length_append, List.length_append, List.length_take, List.length_drop, h3]
    omega
  · rcases List.mem_cons.mp ht with rfl | ht
    · exact I.sz _ (.head _)
    rcases List.mem_append.mp ht with ht | ht
    · rcases List.mem_append.mp ht with ht | ht
      · exact I.sz _ (List.mem_append_left _ (.tail _ (List.mem_of_mem_take ht)))
      · have ht := List.mem_of_mem_tail ht
        obtain ⟨u, hu, rfl⟩ := List.mem_map.mp ht
        rw [List.length_map]
        exact I.sz _ (List.mem_append_right _ hu)
    · exact I.sz _ (List.mem_append_left _ (.tail _ (List.mem_of_mem_drop ht)))
def sp_resolved (K : PySem.W.Frag) : Sp := fun vs H Q E => ∃ (x : V) (q : List PyData) (a : Addr) (gs : List (List PyData)) (p : Nat) (c b : Addr) (hv : V) (hd : List PyData) (os : List (List PyData)) (g h : List PyData) (k : Nat) (s : Res), vs = [x, .ref a, .int p, .ref c] ∧ Dp K H x (.tuple q) ∧ TsA K H a gs ∧ SqT K H c [hv, .ref b] ∧ Dp K H hv (.tuple hd) ∧ TsA K H b os ∧ ResI q gs p hd os g h k s ∧ resQ K H Q E q gs p (rowM q gs hd os).tail s
def GoalD (ds : List PyData) : Prop := ∃ d r, ds = d :: r ∧ NdA d ∧ isG d = true
def sp_resolve (K : PySem.W.Frag) : Sp := fun vs H Q E => ∃ (x : V) (q : List PyData) (a : Addr) (gs : List (List PyData)) (p : Nat) (y : V) (d : PyData) (r : List PyData) (rows : List (List PyData)) (m : Nat) (g h : List PyData) (k : Nat) (s : Res), vs = [x, .ref a, .int p, y] ∧ Dp K H x (.tuple q) ∧ GoalD q ∧ TsA K H a gs ∧ (∀ g ∈ gs, GoalD g) ∧
  Dp K H y (.tuple (d :: r)) ∧ (∀ e ∈ d :: r, NdA e) ∧ (PyData.eqv d clN = true → Cls 2 r) ∧ r.length < 200 ∧ (splitM (d :: r)).1 ≠ [] ∧ Flat rows (splitM (d :: r)).2 ∧ Cls m (splitM (d :: r)).2 ∧ rows.length ≤ 200 ∧ isGr (splitM (d :: r)).1 = true ∧ goodM rows = true ∧
  ResI q gs p (splitM (d :: r)).1 (goalsM rows) g h k s ∧ resQ K H Q E q gs p (rowM q gs (splitM (d :: r)).1 (goalsM rows)).tail s
/-! ### the law's own readings: parts, tables, numbers -/
theorem tk_row : ∀ {row rest : List PyData} {m : Nat}, Cls m row → tk m (row ++ rest) = row.length
  | [], rest, m, h => by
    have h : m = 0 := h
    subst h
    rw [List.nil_append, tk_zero]
    rfl
  | d :: row, rest, m, h => by
    rw [List.cons_append, tk_cons h.1, tk_row h.2, List.length_cons]
    omega
theorem rows_cls : ∀ {rows : List (List PyData)} {rest : List (List PyData)} {row : List PyData}, (∀ r ∈ row :: rest, Cls 1 r ∧ ∀ d ∈ r, NdA d) → Cls (rest.length + 1) ((row :: rest).flatten)
  | rows, [], row, h => by
    rw [List.flatten_cons, List.flatten_nil, List.append_nil]
    exact (h row List.mem_cons_self).1
  | rows, r :: rest, row, h => by
    rw [List.flatten_cons]
    have ih := rows_cls (rows := rows) (rest := rest) (row := r) fun x hx => h x (List.mem_cons_of_mem _ hx)
    have := cls_app row _ 1 (rest.length + 1) (h row List.mem_cons_self).1 ih
    rw [show (r :: rest).length + 1 = 1 + (rest.length + 1) by rw [List.length_cons]; omega]
    exact this
theorem sym_num {d : PyData} (h : NdA d) (v : isSymN d = true) : ∃ y n, d = .tuple [.str "f", .str y, .int n] ∧ 0 ≤ n := by
  obtain ⟨wd, nn⟩ := h
  cases nn with
  | i n h1 h2 => cases v
  | v n h1 h2 => exact absurd (show false = true from v) (by decide)
  | f y n h1 h2 h3 => exact ⟨y, n, rfl, by omega⟩
theorem sym_zero {d : PyData} (h : NdA d) (v : isSymN d = false) : arN d = 0 := by
  obtain ⟨wd, nn⟩ := h
  cases nn with
  | i n h1 h2 => rfl
  | v n h1 h2 => rfl
  | f y n h1 h2 h3 => exact absurd v (by show ¬ (true = false); decide)
def tbl (f : Int) (acc : List Int) : Tab := acc.map fun n => (n, [vN (f + (acc.idxOf n : Nat))])
theorem tbl_keys (f : Int) (acc : List Int) : (tbl f acc).map (·.1) = acc := by
  unfold tbl
  rw [List.map_map]
  exact List.map_id' acc
theorem tbl_snoc (f : Int) {acc : List Int} {n : Int} (h : n ∉ acc) : tbl f (acc ++ [n]) = tbl f acc ++ [(n, [vN (f + (acc.length : Nat))])] := by
  unfold tbl
  rw [List.map_append]
  congr 1
  · exact List.map_congr_left fun m hm => by rw [List.idxOf_append, if_pos hm]
  · rw [List.map_singleton, List.idxOf_append, if_neg h]
    simp
theorem tbl_len (f : Int) (acc : List Int) : (tbl f acc).length = acc.length := List.length_map _
theorem tbl_in {f : Int} {acc : List Int} {n : Int} (nd : acc.Nodup) (h : n ∈ acc) : valT (tbl f acc) n = some [vN (f + (acc.idxOf n : Nat))] :=
  valT_at (q := (n, [vN (f + (acc.idxOf n : Nat))])) (by rw [tbl_keys]; exact nd) (List.mem_map.mpr ⟨n, h, rfl⟩)
theorem tbl_out {f : Int} {acc : List Int} {n : Int} (h : n ∉ acc) : valT (tbl f acc) n = none := valT_notin (by rw [tbl_keys]; exact h)
theorem tbl_app {f : Int} {acc : List Int} (na : acc.Nodup) : ∀ {ds : List PyData}, (∀ d ∈ ds, NdA d) → (∀ d ∈ ds, isVarN d = true → numN d ∈ acc) → appM (tbl f acc) ds = ds.map (mapD fun n => f + (acc.idxOf n : Nat))
  | [], _, _ => rfl
  | d :: r, h, h2 => by
    rw [appM_cons, List.map_cons, tbl_app na (fun x hx => h x (.tail _ hx)) fun x hx => h2 x (.tail _ hx)]
    by_cases v : isVarN d = true
    · obtain ⟨n, rfl⟩ := var_form (h d (.head _)) v
      rw [appN_in (n := n) (tbl_in na (h2 _ (.head _) v))]
      rfl
    · rw [appN_non v]
      show [d] ++ _ = mapD _ d :: _
      unfold mapD
      rw [if_neg v]
      rfl
theorem tbl_tm {f : Int} (hf : 0 ≤ f) (acc : List Int) : TabT (tbl f acc) := fun q hq => by
  obtain ⟨n, _, rfl⟩ := List.mem_map.mp hq
  refine ⟨⟨by decide, rfl⟩, fun d hd => ?_⟩
  rw [List.mem_singleton.mp hd]
  exact ⟨f + (acc.idxOf n : Nat) + 1, .v _ (by omega) (by omega)⟩
theorem nums_app (a b : List PyData) : nums (a ++ b) = b.foldl numS (nums a) := by unfold nums; rw [List.foldl_append]
theorem nums_one (a : List PyData) (d : PyData) : nums (a ++ [d]) = numS (nums a) d := by rw [nums_app]; rfl
theorem nums_allI {ds : List PyData} {d : PyData} (h : d ∈ ds) (v : isVarN d = true) : numN d ∈ nums ds := by
  obtain ⟨i, hi⟩ := List.getElem?_of_mem h
  exact mem_pre (nums_mem hi v)
theorem tbl_row {f : Int} {ts : List (List PyData)} {i : Nat} {t : List PyData} (nd : NdT ts) (h : ts[i]? = some t) : appM (tbl f (nums (ts.take (i + 1)).flatten)) t = t.map (mapD (gN f ts.flatten)) := by
  have e := take_flat ts (i + 1)
  rw [tbl_app (nums_nodup _) (nd t (List.mem_of_getElem? h))]
  · refine List.map_congr_left fun d hd => ?_
    unfold mapD
    by_cases v : isVarN d = true
    · rw [if_pos v, if_pos v]
      have hm : numN d ∈ nums (ts.take (i + 1)).flatten := nums_allI (by rw [flat_take h]; exact List.mem_append_right _ hd) v
      unfold gN
      rw [e] at hm ⊢
      rw [idx_pre hm]
    · rw [if_neg v, if_neg v]
  · intro d hd v
    exact nums_allI (by rw [flat_take h]; exact List.mem_append_right _ hd) v
theorem nxt_snoc (a : List PyData) (d : PyData) : nxt (a ++ [d]) = nxN (nxt a) d := by unfold nxt; rw [List.foldl_append]; rfl
/-! ### the promises of the law's own readings -/
def sp__law_is_variable (K : PySem.W.Frag) : Sp := sp_is_variable K
def sp__law_end (K : PySem.W.Frag) : Sp := sp_end_of K
def sp__law_parts (K : PySem.W.Frag) : Sp := fun vs H Q _ => ∃ (x : V) (d0 : PyData) (rows : List (List PyData)), vs = [x] ∧ Dp K H x (.tuple (d0 :: rows.flatten)) ∧ NdA d0 ∧ (∀ row ∈ rows, Cls 1 row ∧ ∀ d ∈ row, NdA d) ∧ rows.length ≤ 9 ∧ rows.flatten.length ≤ 900 ∧ ∀ r ys H', Same H H' → H r = Option.none → H' r = some (.lst ys) → DpAll K H' ys (rows.map PyData.tuple) → Q (.ref r) H'
def sp__law_put (K : PySem.W.Frag) : Sp := fun vs H Q _ => ∃ (p : Addr) (F : Tab) (x : V) (ds : List PyData), vs = [.ref p, x] ∧ FndA K H p F ∧ TabN F ∧ Dp K H x (.tuple ds) ∧ (∀ d ∈ ds, NdA d) ∧ (appM F ds).length ≤ 2000000 ∧ ∀ v H', Same H H' → Dp K H' v (.tuple (appM F ds)) → Q v H'
def sp__law_numbered (K : PySem.W.Frag) : Sp := fun vs H Q _ => ∃ (a : Addr) (ts : List (List PyData)) (f : Int), vs = [.ref a, .int f] ∧ TsA K H a ts ∧ NdT ts ∧ 0 ≤ f ∧ szT ts ≤ 100000 ∧ ts.length ≤ 1000 ∧ ∀ r H' ys, Same H H' → H r = Option.none → H' r = some (.lst ys) → DpAll K H' ys ((renT f ts).map PyData.tuple) → Q (.ref r) H'
def sp__law_fresh (K : PySem.W.Frag) : Sp := fun vs H Q _ => ∃ (a : Addr) (ts : List (List PyData)), vs = [.ref a] ∧ TsA K H a ts ∧ NdT ts ∧ szT ts ≤ 100000 ∧ ts.length ≤ 1000 ∧ ∀ H', Same H H' → Q (.int (nxt ts.flatten)) H'
theorem bindM_eq (a b : PyData) (l r : List PyData) : bindM (a :: l) (b :: r) = if isVarN a = true then (if isVarN b = true then some (if numN b < numN a then (numN a, varN (numN b)) else (numN b, varN (numN a))) else some (numN a, sub1 (b :: r))) else if isVarN b = true then some (numN b, sub1 (a :: l)) else none := rfl
def bndQ (K : PySem.W.Frag) (H : Hp) (Q : VK) : Option (Int × List PyData) → Prop
  | none => ∀ H', Same H H' → Q .non H'
  | some (n, v) => (vN n ∈ v → ∀ H', Same H H' → Q .non H') ∧ (vN n ∉ v → ∀ c w H', Same H H' → H' c = some (.tup [.int n, w]) → Dp K H' w (.tuple v) → Q (.ref c) H')
def sp__law_bound (K : PySem.W.Frag) : Sp := fun vs H Q _ => ∃ (x y : V) (p l r : List PyData) (a b : PyData) (k j : Nat), vs = [x, y, .int (p.length : Nat)] ∧ Dp K H x (.tuple (p ++ a :: l)) ∧ Dp K H y (.tuple (p ++ b :: r)) ∧ (∀ d ∈ p ++ a :: l, NdA d) ∧ (∀ d ∈ p ++ b :: r, NdA d) ∧ Tms (k + 1) (a :: l) ∧ Tms (j + 1) (b :: r) ∧ a ≠ b ∧ bndQ K H Q (bindM (a :: l) (b :: r))
def sp__law_unify (K : PySem.W.Frag) : Sp := fun vs H Q E => ∃ (x y : V) (L R : List PyData) (k : Nat) (s : Res), vs = [x, y] ∧ Dp K H x (.tuple L) ∧ Dp K H y (.tuple R) ∧ Tms 1 L ∧ Tms 1 R ∧ L.length ≤ 1000 ∧ R.length ≤ 1000 ∧
  Eg (max 200 (max L.length R.length)) k L R [] s ∧ k ≤ 2000 ∧ dueQ K H Q s
/-! ### a renaming before the renumbering changes nothing -/
theorem mapD_var {h : Int → Int} {d : PyData} : isVarN (mapD h d) = isVarN d := by
  by_cases v : isVarN d = true
  · unfold mapD
    rw [if_pos v, v]
    rfl
  · unfold mapD
    rw [if_neg v]
theorem mapD_num {h : Int → Int} {d : PyData} (v : isVarN d = true) : numN (mapD h d) = h (numN d) := by
  unfold mapD
  rw [if_pos v]
  rfl
theorem mapD_twice {g h : Int → Int} {d : PyData} : mapD g (mapD h d) = mapD (fun n => g (h n)) d := by
  by_cases v : isVarN d = true
  · have e : mapD h d = vN (h (numN d)) := by unfold mapD; rw [if_pos v]; rfl
    rw [e]
    show PyData.tuple [.str "v", .int (g (h (numN d)))] = mapD _ d
    unfold mapD
    rw [if_pos v]
  · have e : mapD h d = d := by unfold mapD; rw [if_neg v]
    rw [e]
    unfold mapD
    rw [if_neg v, if_neg v]
theorem mapD_cg {g h : Int → Int} {d : PyData} (e : isVarN d = true → g (numN d) = h (numN d)) : mapD g d = mapD h d := by
  by_cases v : isVarN d = true
  · unfold mapD
    rw [if_pos v, if_pos v, e v]
  · unfold mapD
    rw [if_neg v, if_neg v]
theorem foldS_from : ∀ (ds : List PyData) (acc : List Int) {x : Int}, x ∈ ds.foldl numS acc → x ∈ acc ∨ ∃ d ∈ ds, isVarN d = true ∧ numN d = x
  | [], _, _, h => .inl h
  | d :: r, acc, x, h => by
    rcases foldS_from r (numS acc d) h with h | ⟨e, he, v, q⟩
    · unfold numS at h
      split at h
      · rename_i c
        rcases List.mem_append.mp h with h | h
        · exact .inl h
        · exact .inr ⟨d, .head _, c.1, (List.mem_singleton.mp h).symm⟩
      · exact .inl h
    · exact .inr ⟨e, .tail _ he, v, q⟩
theorem nums_from {ds : List PyData} {x : Int} (h : x ∈ nums ds) : ∃ d ∈ ds, isVarN d = true ∧ numN d = x := (foldS_from ds [] h).elim (fun z => nomatch z) id
def InjOn (S : Int → Prop) (h : Int → Int) : Prop := ∀ x y, S x → S y → h x = h y → x = y
theorem mem_mapI {S : Int → Prop} {h : Int → Int} (i : InjOn S h) {acc : List Int} (ha : ∀ x ∈ acc, S x) {n : Int} (hn : S n) : h n ∈ acc.map h ↔ n ∈ acc := by
  constructor
  · intro m
    obtain ⟨x, hx, e⟩ := List.mem_map.mp m
    rw [← i x n (ha x hx) hn e]
    exact hx
  · exact fun m => List.mem_map.mpr ⟨n, m, rfl⟩
theorem nums_ren {S : Int → Prop} {h : Int → Int} (i : InjOn S h) : ∀ (ds : List PyData) (acc : List Int), (∀ x ∈ acc, S x) → (∀ d ∈ ds, isVarN d = true → S (numN d)) → (ds.map (mapD h)).foldl numS (acc.map h) = (ds.foldl numS acc).map h
  | [], acc, _, _ => rfl
  | d :: r, acc, ha, hd => by
    rw [List.map_cons, List.foldl_cons, List.foldl_cons]
    have e : numS (acc.map h) (mapD h d) = (numS acc d).map h := by
      by_cases v : isVarN d = true
      · have m := mem_mapI i ha (hd d (.head _) v)
        unfold numS
        rw [mapD_var, mapD_num v]
        by_cases c : numN d ∈ acc
        · rw [if_neg (fun z => z.2 (m.mpr c)), if_neg (fun z => z.2 c)]
        · rw [if_pos ⟨v, fun z => c (m.mp z)⟩, if_pos ⟨v, c⟩, List.map_append]
          rfl
      · rw [numS_non v, numS_non (by rw [mapD_var]; exact v)]
    rw [e]
    refine nums_ren i r _ (fun x hx => ?_) fun y hy => hd y (.tail _ hy)
    unfold numS at hx
    split at hx
    · rename_i c
      rcases List.mem_append.mp hx with hx | hx
      · exact ha x hx
      · rw [List.mem_singleton.mp hx]
        exact hd d (.head _) c.1
    · exact ha x hx
theorem idx_map {S : Int → Prop} {h : Int → Int} (i : InjOn S h) : ∀ {acc : List Int}, (∀ x ∈ acc, S x) → ∀ {n : Int}, S n → (acc.map h).idxOf (h n) = acc.idxOf n
  | [], _, _, _ => rfl
  | a :: r, ha, n, hn => by
    rw [List.map_cons, List.idxOf_cons, List.idxOf_cons, idx_map i (fun x hx => ha x (.tail _ hx)) hn]
    by_cases c : a = n
    · subst c
      rw [show (h a == h a) = true from beq_self_eq_true _, show (a == a) = true from beq_self_eq_true _]
    · have c2 : h a ≠ h n := fun z => c (i a n (ha a (.head _)) hn z)
      rw [show (h a == h n) = false from beq_eq_false_iff_ne.mpr c2, show (a == n) = false from beq_eq_false_iff_ne.mpr c]
theorem renT_ren {f : Int} {h : Int → Int} {ts : List (List PyData)} (i : InjOn (fun n => ∃ d ∈ ts.flatten, isVarN d = true ∧ numN d = n) h) : renT f (ts.map fun t => t.map (mapD h)) = renT f ts := by
  have fl : (ts.map fun t => t.map (mapD h)).flatten = ts.flatten.map (mapD h) := by rw [List.map_flatten]
  have hS : ∀ d ∈ ts.flatten, isVarN d = true → ∃ e ∈ ts.flatten, isVarN e = true ∧ numN e = numN d := fun d hd v => ⟨d, hd, v, rfl⟩
  have e : nums (ts.flatten.map (mapD h)) = (nums ts.flatten).map h := nums_ren i ts.flatten [] (fun _ h => nomatch h) hS
  unfold renT
  rw [fl, List.map_map]
  refine List.map_congr_left fun t ht => ?_
  show (t.map (mapD h)).map (mapD (gN f (ts.flatten.map (mapD h)))) = t.map (mapD (gN f ts.flatten))
  rw [List.map_map]
  refine List.map_congr_left fun d hd => ?_
  have hdf : d ∈ ts.flatten := List.mem_flatten.mpr ⟨t, ht, hd⟩
  show mapD (gN f (ts.flatten.map (mapD h))) (mapD h d) = mapD (gN f ts.flatten) d
  by_cases v : isVarN d = true
  · have hm : ∀ x ∈ nums ts.flatten, ∃ e ∈ ts.flatten, isVarN e = true ∧ numN e = x := fun x hx => nums_from hx
    have g : gN f (ts.flatten.map (mapD h)) (h (numN d)) = gN f ts.flatten (numN d) := by
      unfold gN
      rw [e, idx_map i hm (hS d hdf v)]
    rw [mapD_twice]
    exact mapD_cg fun _ => g
  · have e1 : mapD h d = d := by unfold mapD; rw [if_neg v]
    rw [e1]
    unfold mapD
    rw [if_neg v, if_neg v]
theorem gN_inj {f : Int} {ds : List PyData} : InjOn (fun n => ∃ d ∈ ds, isVarN d = true ∧ numN d = n) (gN f ds) := fun x y hx hy e => by
  obtain ⟨d, hd, v, rfl⟩ := hx
  obtain ⟨d', hd', v', rfl⟩ := hy
  unfold gN at e
  exact idx_inj (nums_allI hd v) (nums_allI hd' v') (by omega)
theorem InjOn.sub {S S' : Int → Prop} {h : Int → Int} (i : InjOn S h) (hs : ∀ x, S' x → S x) : InjOn S' h := fun x y hx hy => i x y (hs x hx) (hs y hy)
/-- the rows in another order, numbered again -/
theorem renT_perm {f f' : Int} {ts us : List (List PyData)} (h : ∀ u ∈ us, u ∈ ts) : renT f (us.map fun t => t.map (mapD (gN f' ts.flatten))) = renT f us :=
  renT_ren (gN_inj.sub fun x ⟨d, hd, v, e⟩ => by
    obtain ⟨u, hu, hd⟩ := List.mem_flatten.mp hd
    exact ⟨d, List.mem_flatten.mpr ⟨u, h u hu, hd⟩, v, e⟩)
/-! ### the law's resolution -/
theorem nxt_mem {ds es : List PyData} (h : ∀ d ∈ ds, NdA d) (h2 : ∀ d ∈ es, NdA d) (s : ∀ d ∈ ds, d ∈ es) : nxt ds ≤ nxt es := by
  obtain ⟨a1, _, a3⟩ := nx_fold ds 0 h (Int.le_refl _)
  obtain ⟨b1, b2, _⟩ := nx_fold es 0 h2 (Int.le_refl _)
  unfold nxt
  rcases a3 with e | ⟨x, hx, v, e⟩
  · rw [e]
    exact b1
  · rw [e]
    exact b2 x (s x hx) v
theorem nxt_same {ds es : List PyData} (h : ∀ d ∈ ds, NdA d) (s : ∀ d, d ∈ ds ↔ d ∈ es) : nxt ds = nxt es := by
  have h2 : ∀ d ∈ es, NdA d := fun d hd => h d ((s d).mpr hd)
  have a := nxt_mem h h2 fun d hd => (s d).mp hd
  have b := nxt_mem h2 h fun d hd => (s d).mpr hd
  omega
structure LawI (ts : List (List PyData)) (g : List PyData) (hd : List PyData) (os : List (List PyData)) (h : List PyData) (k : Nat) (s : Res) : Prop where
  nd : NdT (ts ++ [g])
  ndr : NdT (hd :: os)
  sz : ∀ t ∈ (ts ++ [g]) ++ (hd :: os), t.length ≤ 200
  lt : ts.length ≤ 30
  lo : os.length ≤ 200
  tg : Tms 1 g
  th : Tms 1 h
  hh : (renT (nxt (ts ++ [g]).flatten) (hd :: os)).head? = some h
  eg : Eg (max 200 (max g.length h.length)) k g h [] s
  k1 : k ≤ 2000
def FT (T : Tab) (ts : List (List PyData)) (g hd : List PyData) (os : List (List PyData)) : List (List PyData) := (ts ++ (renT (nxt (ts ++ [g]).flatten) (hd :: os)).tail).map (appM T)
theorem LawI.sizes {ts : List (List PyData)} {g hd : List PyData} {os : List (List PyData)} {h : List PyData} {k : Nat} {s : Res} (I : LawI ts g hd os h k s) : (ts ++ (renT (nxt (ts ++ [g]).flatten) (hd :: os)).tail).length ≤ 300 ∧ (∀ t ∈ ts ++ (renT (nxt (ts ++ [g]).flatten) (hd :: os)).tail, t.length ≤ 200) ∧ NdT (ts ++ (renT (nxt (ts ++ [g]).flatten) (hd :: os)).tail) := by
  have nd2 : NdT (renT (nxt (ts ++ [g]).flatten) (hd :: os)) := renT_nd I.ndr (nxt_pos I.nd.flat)
  refine ⟨?_, fun t ht => ?_, fun t ht => ?_⟩
  · have h1 := I.lt
    have h2 := I.lo
    have h3 : (renT (nxt (ts ++ [g]).flatten) (hd :: os)).tail.length = os.length := by rw [List.length_tail, renT_len]; rfl
    rw [List.length_append, h3]
    omega
  · rcases List.mem_append.mp ht with ht | ht
    · exact I.sz _ (List.mem_append_left _ (List.mem_append_left _ ht))
    · have ht := List.mem_of_mem_tail ht
      obtain ⟨u, hu, rfl⟩ := List.mem_map.mp ht
      rw [List.length_map]
      exact I.sz _ (List.mem_append_right _ hu)
  · rcases List.mem_append.mp ht with ht | ht
    · exact I.nd _ (List.mem_append_left _ ht)
    · exact nd2 _ (List.mem_of_mem_tail ht)
/-! ### the promises of the law's resolution -/
def lresQ (K : PySem.W.Frag) (H : Hp) (Q : VK) (ts : List (List PyData)) (g hd : List PyData) (os : List (List PyData)) : Res → Prop
  | .non => ∀ H', Same H H' → Q .non H'
  | .big => ∀ H', Same H H' → Q (.str "large") H'
  | .tab T => (wide (FT T ts g hd os) → ∀ H', Same H H' → Q (.str "large") H') ∧
    (¬ wide (FT T ts g hd os) → ∀ r ys H', Same H H' → H r = Option.none → H' r = some (.lst ys) → DpAll K H' ys ((renT 0 (FT T ts g hd os)).map PyData.tuple) → Q (.ref r) H')
def sp__law_resolve (K : PySem.W.Frag) : Sp := fun vs H Q E => ∃ (t : Addr) (ts : List (List PyData)) (x : V) (g : List PyData) (w : Addr) (hd : List PyData) (os : List (List PyData)) (h : List PyData) (k : Nat) (s : Res), vs = [.ref t, x, .ref w] ∧ (∃ xs, H t = some (.lst xs) ∧ DpAll K H xs (ts.map PyData.tuple)) ∧ Dp K H x (.tuple g) ∧ TsA K H w (hd :: os) ∧ LawI ts g hd os h k s ∧ lresQ K H Q ts g hd os s
/-! ### clauses: a head and rows joined by commas -/
def joinM : List (List PyData) → List PyData
  | [] => []
  | [r] => r
  | r :: s :: rest => commaN :: (r ++ joinM (s :: rest))
theorem join_cons {r : List PyData} {l : List (List PyData)} (h : l ≠ []) : joinM (r :: l) = commaN :: (r ++ joinM l) := by
  cases l with
  | nil => exact absurd rfl h
  | cons a b => rfl
def OkRs (rows : List (List PyData)) : Prop := ∀ r ∈ rows, OkR r
theorem OkR.tms {r : List PyData} (h : OkR r) : Tms 1 r := ⟨h.2.1, h.1⟩
theorem OkR.ne {r : List PyData} (h : OkR r) : r ≠ [] := h.tms.ne
theorem join_tms : ∀ {rows : List (List PyData)}, OkRs rows → rows ≠ [] → Tms 1 (joinM rows)
  | [], _, h => absurd rfl h
  | [r], h, _ => (h r (.head _)).tms
  | r :: s :: rest, h, _ => by
    have a := (h r (.head _)).tms.app (join_tms (rows := s :: rest) (fun x hx => h x (.tail _ hx)) (List.cons_ne_nil _ _))
    refine ⟨⟨by decide, a.1⟩, fun d hd => ?_⟩
    rcases List.mem_cons.mp hd with rfl | hd
    · exact comma_nd
    · exact a.2 d hd
theorem join_flat : ∀ {rows : List (List PyData)}, OkRs rows → Flat rows (joinM rows)
  | [], _ => .nil
  | [r], h => by
    have := Flat.row (h r (.head _)) .nil
    rw [List.append_nil] at this
    exact this
  | r :: s :: rest, h => .comma (.row (h r (.head _)) (join_flat (rows := s :: rest) fun x hx => h x (.tail _ hx)))
theorem join_len : ∀ {rows : List (List PyData)}, OkRs rows → (joinM rows).length ≤ 10 * rows.length
  | [], _ => Nat.zero_le _
  | [r], h => Nat.le_trans (h r (.head _)).2.2.1 (show 9 ≤ 10 * 1 by decide)
  | r :: s :: rest, h => by
    have := join_len (rows := s :: rest) fun x hx => h x (.tail _ hx)
    have h1 := (h r (.head _)).2.2.1
    show (commaN :: (r ++ joinM (s :: rest))).length ≤ _
    rw [List.length_cons, List.length_append, List.length_cons]
    omega
structure ClsP (ds hd : List PyData) (rows : List (List PyData)) : Prop where
  h : OkR hd
  g : isGr hd = true
  r : OkRs rows
  rg : goodM rows = true
  ne : rows ≠ []
  len : rows.length ≤ 12
  sh : (ds = hd ∧ rows = [[trueN]]) ∨ ds = clN :: (hd ++ joinM rows)
theorem OkR.cons {r : List PyData} (h : OkR r) : ∃ d t, r = d :: t ∧ NdA d ∧ PyData.eqv d commaN = false ∧ PyData.eqv d clN = false := by
  cases r with
  | nil => exact absurd rfl h.ne
  | cons d t => exact ⟨d, t, rfl, h.1 d (.head _), h.2.2.2 d rfl⟩
theorem goals_app (a b : List (List PyData)) : goalsM (a ++ b) = goalsM a ++ goalsM b := List.filter_append ..
theorem goals_one (r : List PyData) : goalsM [r] = if isTr r = true then [] else [r] := by
  unfold goalsM
  cases h : isTr r <;> simp [h]
theorem goals_mem {rows : List (List PyData)} {r : List PyData} (h : r ∈ goalsM rows) : r ∈ rows := (List.mem_filter.mp h).1
theorem goals_true : goalsM [[trueN]] = [] := by decide +kernel
theorem dp_last {K : PySem.W.Frag} {H : Hp} : ∀ {zs : List V} {ds : List PyData} {d : PyData}, DpAll K H zs (ds ++ [d]) → ∃ a z, zs = a ++ [z] ∧ DpAll K H a ds ∧ Dp K H z d
  | _, [], _, .cons h .nil => ⟨[], _, rfl, .nil, h⟩
  | _, _ :: _, _, .cons h t => by
    obtain ⟨a, z, rfl, h1, h2⟩ := dp_last t
    exact ⟨_ :: a, z, rfl, .cons h h1, h2⟩
/-! ### the promises of the law's clauses -/
def sp__law_conjuncts (K : PySem.W.Frag) : Sp := fun vs H Q _ => ∃ (x : V) (rows : List (List PyData)), vs = [x] ∧ Dp K H x (.tuple (joinM rows)) ∧ OkRs rows ∧ rows ≠ [] ∧ rows.length ≤ 12 ∧ ∀ r ys H', Same H H' → H r = Option.none → H' r = some (.lst ys) → DpAll K H' ys ((goalsM rows).map PyData.tuple) → Q (.ref r) H'
def sp__law_row (K : PySem.W.Frag) : Sp := fun vs H Q _ => ∃ (x : V) (ds hd : List PyData) (rows : List (List PyData)), vs = [x] ∧ Dp K H x (.tuple ds) ∧ ClsP ds hd rows ∧ ∀ r ys H', Same H H' → H r = Option.none → H' r = some (.lst ys) → DpAll K H' ys ((hd :: goalsM rows).map PyData.tuple) → Q (.ref r) H'
/-! ### drawn clauses -/
def abcd : List Str := ["a", "b", "c", "d"]
theorem sN_nd : NdA (nodeF "s" 1) := ⟨1, .f "s" 1 (by decide +kernel) (by decide) (by decide)⟩
theorem qN_nd : NdA (nodeF "q" 2) := ⟨1, .f "q" 2 (by decide +kernel) (by decide) (by decide)⟩
theorem vN_ndI {n : Int} (h : 0 ≤ n) : NdA (vN n) := ⟨n + 1, .v n h (by omega)⟩
theorem tms_v {n : Int} (h : 0 ≤ n) : Tms 1 [vN n] := ⟨⟨by decide, rfl⟩, fun d hd => by rw [List.mem_singleton.mp hd]; exact vN_ndI h⟩
theorem tms_s {r : List PyData} (h : Tms 1 r) : Tms 1 (nodeF "s" 1 :: r) := ⟨⟨by decide, h.1⟩, fun d hd => by
  rcases List.mem_cons.mp hd with rfl | hd
  · exact sN_nd
  · exact h.2 d hd⟩
theorem tms_q {r t : List PyData} (h : Tms 1 r) (k : Tms 1 t) : Tms 1 (nodeF "q" 2 :: (r ++ t)) := by
  have a := h.app k
  refine ⟨⟨by decide, a.1⟩, fun d hd => ?_⟩
  rcases List.mem_cons.mp hd with rfl | hd
  · exact qN_nd
  · exact a.2 d hd
theorem gr_tr {r : List PyData} (h : isGr r = true) (ok : ∀ d ∈ r, NdA d) : isTr r = false := by
  cases e : isTr r with
  | false => rfl
  | true =>
    unfold isTr at e
    cases r with
    | nil => cases h
    | cons d t =>
      have e1 : PyData.eqv d trueN = true := by
        simp only [PyData.eqv, PyData.eqvAll, Bool.and_eq_true] at e
        exact e.1
      have e2 : d = trueN := (eq_nd (ok d (.head _)) true_nd).mp e1
      subst e2
      exact absurd (show isG trueN = true from h) (by decide +kernel)
theorem good_all {rows : List (List PyData)} (h : ∀ r ∈ rows, isGr r = true) : goodM rows = true := by
  unfold goodM
  exact List.all_eq_true.mpr fun r hr => h r (goals_mem hr)
theorem good_snoc {rows : List (List PyData)} (h : goodM rows = true) : goodM (rows ++ [[trueN]]) = true := by
  unfold goodM
  rw [goals_app, goals_true, List.append_nil]
  exact h
structure BigG (ds : List PyData) : Prop where
  t : Tms 1 ds
  g : isGr ds = true
  len : ds.length ≤ 130
theorem OkR.big {ds : List PyData} (h : OkR ds) (g : isGr ds = true) : BigG ds := ⟨h.tms, g, Nat.le_trans h.2.2.1 (by decide)⟩
def ClsL (ps : List (List PyData)) : Prop := ∀ p ∈ ps, ∃ hd rows, ClsP p hd rows
theorem dp_butAll {K : PySem.W.Frag} {H H' : Hp} {s l : Addr} (S : Stm H s l) (b : But s H H') : ∀ {vs : List V} {ts : List (List PyData)}, NdT ts → DpAll K H vs (ts.map PyData.tuple) → DpAll K H' vs (ts.map PyData.tuple)
  | _, [], _, .nil => .nil
  | _, t :: ts, n, .cons h r => .cons (dp_but S b (n t (.head _)) h) (dp_butAll S b (fun x hx => n x (.tail _ hx)) r)
theorem ClsP.nd {ds hd : List PyData} {rows : List (List PyData)} (C : ClsP ds hd rows) : ∀ d ∈ ds, NdA d := by
  rcases C.sh with ⟨rfl, _⟩ | rfl
  · exact C.h.1
  · intro d hd
    rcases List.mem_cons.mp hd with rfl | hd
    · exact cl_nd
    · rcases List.mem_append.mp hd with hd | hd
      · exact C.h.1 d hd
      · exact (join_tms C.r C.ne).2 d hd
theorem ClsP.size {ds hd : List PyData} {rows : List (List PyData)} (C : ClsP ds hd rows) : ds.length ≤ 130 := by
  have a := C.h.2.2.1
  have b := join_len C.r
  have c := C.len
  rcases C.sh with ⟨rfl, _⟩ | rfl
  · omega
  · rw [List.length_cons, List.length_append]
    omega
theorem ClsL.nd {ps : List (List PyData)} (h : ClsL ps) : NdT ps := fun p hp => by
  obtain ⟨hd, rows, C⟩ := h p hp
  exact C.nd
/-! ### the promises of the draws -/
def sp__law_atom (K : PySem.W.Frag) : Sp := fun vs H Q _ => ∃ (s l : Addr), vs = [.ref s] ∧ Stm H s l ∧ ∀ v y H', y ∈ abcd → But s H H' → Stm H' s l → Dp K H' v (.tuple [nodeF y 0]) → Q v H'
def sp__law_large (K : PySem.W.Frag) : Sp := fun vs H Q _ => ∃ (s l : Addr), vs = [.ref s] ∧ Stm H s l ∧ ∀ v ds H', BigG ds → But s H H' → Stm H' s l → Dp K H' v (.tuple ds) → Q v H'
def sp__law_joined (K : PySem.W.Frag) : Sp := fun vs H Q _ => ∃ (a : Addr) (ys : List V) (rows : List (List PyData)), vs = [.ref a] ∧ H a = some (.lst ys) ∧ DpAll K H ys (rows.map PyData.tuple) ∧ OkRs rows ∧ rows ≠ [] ∧ rows.length ≤ 12 ∧ ∀ v H', Same H H' → Dp K H' v (.tuple (joinM rows)) → Q v H'
def sp__law_clause (K : PySem.W.Frag) : Sp := fun vs H Q _ => ∃ (s l : Addr), vs = [.ref s] ∧ Stm H s l ∧ ∀ v ds hd rows H', ClsP ds hd rows → But s H H' → Stm H' s l → Dp K H' v (.tuple ds) → Q v H'
def prgQ (K : PySem.W.Frag) (H : Hp) (Q : VK) (s l : Addr) (n : Nat) : Prop := ∀ r ys ps H', ClsL ps → 0 < ps.length → ps.length ≤ n → H r = Option.none → r ≠ s → H' r = some (.lst ys) → But s H H' → Stm H' s l → DpAll K H' ys (ps.map PyData.tuple) → Q (.ref r) H'
def sp__law_known (K : PySem.W.Frag) : Sp := fun vs H Q _ => ∃ (s l : Addr) (i : Int), vs = [.ref s, .int i] ∧ Stm H s l ∧ 0 ≤ i ∧ i < 4 ∧ prgQ K H Q s l 7
def sp__law_program (K : PySem.W.Frag) : Sp := fun vs H Q _ => ∃ (s l : Addr), vs = [.ref s] ∧ Stm H s l ∧ prgQ K H Q s l 8
def sp__law_query (K : PySem.W.Frag) : Sp := fun vs H Q _ => ∃ (s l r : Addr) (ys : List V) (ps : List (List PyData)), vs = [.ref s, .ref r] ∧ Stm H s l ∧ r ≠ s ∧ H r = some (.lst ys) ∧ DpAll K H ys (ps.map PyData.tuple) ∧ ClsL ps ∧ 0 < ps.length ∧ ps.length ≤ 8 ∧ ∀ v ds H', OkR ds → isGr ds = true → But s H H' → Stm H' s l → Dp K H' v (.tuple ds) → Q v H'
/-! ### the known programs -/
structure EnvK (K : PySem.W.Frag) (H : Hp) (x y z e q c b : V) : Prop where
  x : Dp K H x (.tuple [vN 0])
  y : Dp K H y (.tuple [vN 1])
  z : Dp K H z (.tuple [vN 2])
  e : Dp K H e (.tuple [nodeF "e" 2])
  q : Dp K H q (.tuple [nodeF "q" 2])
  c : Dp K H c (.tuple [clN])
  b : Dp K H b (.tuple [commaN])
theorem v012 {n : Int} (h : 0 ≤ n) : ∀ d ∈ [vN n], NdA d := (tms_v h).2
theorem one_nd {d : PyData} (h : NdA d) : ∀ e ∈ [d], NdA e := fun e he => by rw [List.mem_singleton.mp he]; exact h
theorem eN_nd : NdA (nodeF "e" 2) := ⟨1, .f "e" 2 (by decide +kernel) (by decide) (by decide)⟩
theorem EnvK.same {K : PySem.W.Frag} {H H' : Hp} {x y z e q c b : V} (E : EnvK K H x y z e q c b) (s : Same H H') : EnvK K H' x y z e q c b :=
  ⟨dp_same s _ _ E.x, dp_same s _ _ E.y, dp_same s _ _ E.z, dp_same s _ _ E.e, dp_same s _ _ E.q, dp_same s _ _ E.c, dp_same s _ _ E.b⟩
theorem EnvK.but {K : PySem.W.Frag} {H H' : Hp} {x y z e q c b : V} {s l : Addr} (E : EnvK K H x y z e q c b) (S : Stm H s l) (k : But s H H') : EnvK K H' x y z e q c b :=
  ⟨dp_but S k (v012 (by decide)) E.x, dp_but S k (v012 (by decide)) E.y, dp_but S k (v012 (by decide)) E.z, dp_but S k (one_nd eN_nd) E.e, dp_but S k (one_nd qN_nd) E.q, dp_but S k (one_nd cl_nd) E.c, dp_but S k (one_nd comma_nd) E.b⟩
theorem EnvK.put {K : PySem.W.Frag} {H : Hp} {x y z e q c b : V} {p : Addr} {o : HO} (E : EnvK K H x y z e q c b) (nt : notTup H p) : EnvK K (upd H p o) x y z e q c b :=
  ⟨dp_put nt _ _ (tup_noL (v012 (by decide))) E.x, dp_put nt _ _ (tup_noL (v012 (by decide))) E.y, dp_put nt _ _ (tup_noL (v012 (by decide))) E.z, dp_put nt _ _ (tup_noL (one_nd eN_nd)) E.e, dp_put nt _ _ (tup_noL (one_nd qN_nd)) E.q, dp_put nt _ _ (tup_noL (one_nd cl_nd)) E.c, dp_put nt _ _ (tup_noL (one_nd comma_nd)) E.b⟩
/-- a leaf -/
def Lf (d : PyData) : Prop := NdA d ∧ arN d = 0
theorem lf_v {n : Int} (h : 0 ≤ n) : Lf (vN n) := ⟨vN_ndI h, rfl⟩
theorem lf_abcd {y : Str} (h : y ∈ abcd) : Lf (nodeF y 0) := by
  have := List.all_eq_true.mp (show abcd.all (fun y => okName y) = true by decide +kernel) y h
  exact ⟨⟨1, .f y 0 this (by decide) (by decide)⟩, rfl⟩
theorem row2 {x : Str} {a b : PyData} (h : okP (x, 2) = true) (ha : Lf a) (hb : Lf b) : OkR [nodeF x 2, a, b] :=
  okr_of h (fun d hd => by
    simp only [List.mem_cons, List.not_mem_nil, or_false] at hd
    rcases hd with z | z <;> subst z
    · exact ha.1
    · exact hb.1) ⟨by decide, by rw [ha.2]; exact ⟨by decide, by rw [hb.2]; rfl⟩⟩ (by show 2 ≤ 8; decide)
theorem row1 {x : Str} {a : PyData} (h : okP (x, 1) = true) (ha : Lf a) : OkR [nodeF x 1, a] :=
  okr_of h (one_nd ha.1) ⟨by decide, by rw [ha.2]; rfl⟩ (by show 1 ≤ 8; decide)
theorem fact_cls {p : List PyData} (h : OkR p) (g : isGr p = true) : ClsP p p [[trueN]] :=
  ⟨h, g, fun r hr => by rw [List.mem_singleton.mp hr]; exact true_row, by decide +kernel, List.cons_ne_nil _ _, by decide, .inl ⟨rfl, rfl⟩⟩
theorem rule1 {h r : List PyData} (hh : OkR h) (g : isGr h = true) (hr : OkR r) (gr : isGr r = true) : ClsP (clN :: (h ++ r)) h [r] :=
  ⟨hh, g, fun x hx => by rw [List.mem_singleton.mp hx]; exact hr, good_all fun x hx => by rw [List.mem_singleton.mp hx]; exact gr, List.cons_ne_nil _ _, by show 1 ≤ 12; decide, .inr rfl⟩
theorem rule2 {h r t : List PyData} (hh : OkR h) (g : isGr h = true) (hr : OkR r) (gr : isGr r = true) (ht : OkR t) (gt : isGr t = true) : ClsP (clN :: (h ++ (commaN :: (r ++ t)))) h [r, t] :=
  ⟨hh, g, fun x hx => by
    simp only [List.mem_cons, List.not_mem_nil, or_false] at hx
    rcases hx with z | z <;> subst z
    · exact hr
    · exact ht, good_all fun x hx => by
    simp only [List.mem_cons, List.not_mem_nil, or_false] at hx
    rcases hx with z | z <;> subst z
    · exact gr
    · exact gt, List.cons_ne_nil _ _, by show 2 ≤ 12; decide, .inr rfl⟩
theorem ClsP.nd2 {h r : List PyData} {rows : List (List PyData)} (C : ClsP (clN :: (h ++ r)) h rows) : ∀ d ∈ commaN :: (h ++ r), NdA d := fun d hd => by
  rcases List.mem_cons.mp hd with rfl | hd
  · exact comma_nd
  · exact C.nd d (.tail _ hd)
theorem okP2 : okP ("e", 2) = true ∧ okP ("q", 2) = true ∧ okP ("p", 1) = true := by decide +kernel
theorem isG2 : isG (nodeF "e" 2) = true ∧ isG (nodeF "q" 2) = true ∧ isG (nodeF "p" 1) = true := by decide +kernel
/-- what is evaluated from an older heap, and leaves it -/
def Ev0 (K : PySem.W.Frag) (H0 : Hp) (σ : L2.St) (te : TE) (ds : List PyData) : Prop := ∀ (H : Hp) (Q : VK), Same H0 H → (∀ v H', Same H H' → Dp K H' v (.tuple ds) → Q v H') → te σ H Q
theorem ev_var {K : PySem.W.Frag} {H0 : Hp} {σ : L2.St} {i : Nat} {v : V} {ds : List PyData} (e : σ[i]? = some (some v)) (h : Dp K H0 v (.tuple ds)) : Ev0 K H0 σ (tVar i) ds := fun H Q s q => ⟨v, e, q v H (Same.refl H) (dp_same s _ _ h)⟩
theorem ev_lit {K : PySem.W.Frag} {H0 : Hp} {σ : L2.St} {t : TE} {ds : List PyData} (h : Lit K σ t (.tuple ds)) : Ev0 K H0 σ t ds := fun H Q _ q => h H Q fun v H' s i => q v H' s (Im.dp _ _ i)
theorem ev_cat {K : PySem.W.Frag} {H0 : Hp} {σ : L2.St} {t u : TE} {ds es : List PyData} (h1 : Ev0 K H0 σ t ds) (h2 : Ev0 K H0 σ u es) (l : ds.length + es.length ≤ 1000) : Ev0 K H0 σ (tOp (rCatA K) t u) (ds ++ es) := fun H Q s q =>
  h1 H _ s fun v H1 s1 d1 => h2 H1 _ (s.trans s1) fun w H2 s2 d2 => cat_dpA (dp_same s2 _ _ d1) d2 l fun z H3 s3 d3 => q z H3 (s1.trans (s2.trans s3)) d3
theorem ev_do {K : PySem.W.Frag} {H0 H : Hp} {σ : L2.St} {te : TE} {ds : List PyData} {Q : VK} (h : Ev0 K H0 σ te ds) (s : Same H0 H) (q : ∀ v H', Same H H' → Dp K H' v (.tuple ds) → Q v H') : te σ H Q := h H Q s q
theorem fresh_but {s R : Addr} {H H' : Hp} (b : But s H H') (hs : ∃ o, H' s = some o) (n : H' R = Option.none) : H R = Option.none ∧ R ≠ s := by
  have ns : R ≠ s := fun z => by
    obtain ⟨o, ho⟩ := hs
    rw [z, ho] at n
    cases n
  refine ⟨?_, ns⟩
  cases hh : H R with
  | none => rfl
  | some o => rw [b R o ns hh] at n; cases n
theorem Stm.some_s {H : Hp} {s l : Addr} (S : Stm H s l) : ∃ o, H s = some o := by
  obtain ⟨o, h⟩ := S.at_s
  exact ⟨_, h⟩
theorem Stm.some_l {H : Hp} {s l : Addr} (S : Stm H s l) : ∃ o, H l = some o := by
  obtain ⟨o, h⟩ := S.at_l
  exact ⟨_, h⟩
theorem dp1_but {K : PySem.W.Frag} {H H' : Hp} {s l : Addr} {v : V} {ds : List PyData} (S : Stm H s l) (b : But s H H') (n : OkR ds) (h : Dp K H v (.tuple ds)) : Dp K H' v (.tuple ds) := dp_but S b n.1 h
theorem atom2_ev {K : PySem.W.Frag} {s l : Addr} {x : Str} {w : V} {i : Nat} (nx : NdA (nodeF x 2)) {σ : L2.St} {H8 : Hp} {Q8 : VK} (hp : σ[i]? = some (some w)) (hs : σ[0]? = some (some (.ref s))) (dw : Dp K H8 w (.tuple [nodeF x 2])) (S8 : Stm H8 s l)
    (q8 : ∀ v y1 y2 H9, y1 ∈ abcd → y2 ∈ abcd → But s H8 H9 → Stm H9 s l → Dp K H9 v (.tuple [nodeF x 2, nodeF y1 0, nodeF y2 0]) → Q8 v H9) : tOp (rCatA K) (tOp (rCatA K) (tVar i) (tCall (sp__law_atom K) [] E0 (tCons (tVar 0) tNil))) (tCall (sp__law_atom K) [] E0 (tCons (tVar 0) tNil)) σ H8 Q8 := by
  refine op_of (op_of ?_)
  refine ⟨w, hp, .ref s, hs, ?_⟩
  refine ⟨s, l, rfl, S8, fun w1 y1 H10 hy1 b10 S10 d10 => ?_⟩
  refine cat_dpA (dp_but S8 b10 (one_nd nx) dw) d10 (Nat.le_of_ble_eq_true rfl) fun w2 H11 s11 d11 => ?_
  refine ⟨.ref s, hs, ?_⟩
  have S11 := S10.keep s11
  refine ⟨s, l, rfl, S11, fun w3 y2 H12 hy2 b12 S12 d12 => ?_⟩
  refine cat_dpA (dp_but S11 b12 (fun d hd => by
    rcases List.mem_cons.mp hd with rfl | hd
    · exact nx
    · rw [List.mem_singleton.mp hd]; exact (lf_abcd hy1).1) d11) d12 (Nat.le_of_ble_eq_true rfl) fun w4 H13 s13 d13 => ?_
  exact q8 w4 y1 y2 H13 hy1 hy2 (((b10.trans (But.of s11)).trans b12).trans (But.of s13)) (S12.keep s13) d13
theorem cls_ar : ∀ {es hd : List PyData} {m : Nat}, es.map arN = hd.map arN → Cls m hd → Cls m es
  | [], [], _, _, h => h
  | [], _ :: _, _, e, _ => by simp at e
  | _ :: _, [], _, e, _ => by simp at e
  | a :: es, b :: hd, m, e, h => by
    simp only [List.map_cons, List.cons.injEq] at e
    refine ⟨h.1, ?_⟩
    rw [e.1]
    exact cls_ar e.2 h.2
theorem ifw {c : TT} {t u : TS} {D : Ends} {σ : L2.St} {H : Hp} (PT PF : Hp → Prop) (hc : ∀ QT : Bool → Hp → Prop, (∀ H1, PT H1 → QT true H1) → (∀ H1, PF H1 → QT false H1) → c σ H QT) (ht : ∀ H1, PT H1 → t D σ H1) (hu : ∀ H1, PF H1 → u D σ H1) : tIfS c t u D σ H :=
  hc _ (fun H1 p => iteT (ht H1 p)) (fun H1 p => iteF (hu H1 p))
theorem dp1B {K : PySem.W.Frag} {H H' : Hp} {s l : Addr} {v : V} {d : PyData} (S : Stm H s l) (b : But s H H') (n : NdA d) (h : Dp K H v d) : Dp K H' v d := by
  obtain ⟨x, y, m, ns, g, _⟩ := S.ex
  have := dp_mapAll (fun _ _ q => sqT_but (.inl ⟨_, g⟩) b q) _ _ (show noLA [d] = true by simp [noLA, nd_noL n]) (DpAll.cons h .nil)
  cases this with
  | cons a _ => exact a
theorem dp_sameAll0 {K : PySem.W.Frag} {H H' : Hp} {s l : Addr} {vs : List V} {ds : List PyData} (S : Stm H s l) (b : But s H H') (n : ∀ d ∈ ds, NdA d) (h : DpAll K H vs ds) : DpAll K H' vs ds := by
  obtain ⟨x, y, m, ns, g, _⟩ := S.ex
  exact dp_mapAll (fun _ _ q => sqT_but (.inl ⟨_, g⟩) b q) _ _ (nds_noL n) h
/-! ### a table that renames variables keeps clauses and goals -/
def RT (F : Tab) : Prop := ∀ q ∈ F, ∃ n : Int, 0 ≤ n ∧ q.2 = [vN n]
def rnD (F : Tab) (d : PyData) : PyData := (appN F d).headD d
theorem RT.tab {F : Tab} (h : RT F) : TabT F := fun q hq => by
  obtain ⟨n, n0, e⟩ := h q hq
  rw [e]
  exact tms_v n0
theorem rn_cases {F : Tab} (h : RT F) (d : PyData) : appN F d = [rnD F d] ∧ (rnD F d = d ∨ (isVarN d = true ∧ ∃ n, 0 ≤ n ∧ rnD F d = vN n)) := by
  unfold rnD
  by_cases v : isVarN d = true
  · unfold appN
    rw [if_pos v]
    cases e : valT F (numN d) with
    | none => exact ⟨rfl, .inl rfl⟩
    | some w =>
      obtain ⟨q, hq, rfl⟩ := valT_mem e
      obtain ⟨n, n0, e2⟩ := h q hq
      show q.2 = [q.2.headD d] ∧ _
      rw [e2]
      exact ⟨rfl, .inr ⟨v, n, n0, rfl⟩⟩
  · rw [appN_non v]
    exact ⟨rfl, .inl rfl⟩
theorem rn_app {F : Tab} (h : RT F) : ∀ ds : List PyData, appM F ds = ds.map (rnD F)
  | [] => rfl
  | d :: r => by rw [appM_cons, (rn_cases h d).1, rn_app h r]; rfl
theorem rn_nd {F : Tab} (h : RT F) {d : PyData} (n : NdA d) : NdA (rnD F d) := by
  rcases (rn_cases h d).2 with e | ⟨_, m, m0, e⟩
  · rw [e]
    exact n
  · rw [e]
    exact vN_ndI m0
theorem var_ar {d : PyData} (n : NdA d) (v : isVarN d = true) : arN d = 0 := by
  obtain ⟨m, rfl⟩ := var_form n v
  rfl
theorem rn_ar {F : Tab} (h : RT F) {d : PyData} (n : NdA d) : arN (rnD F d) = arN d := by
  rcases (rn_cases h d).2 with e | ⟨v, m, m0, e⟩
  · rw [e]
  · rw [e, var_ar n v]
    rfl
theorem rn_sym {F : Tab} (h : RT F) {d : PyData} (v : isVarN d = false) : rnD F d = d := by
  rcases (rn_cases h d).2 with e | ⟨w, _⟩
  · exact e
  · rw [v] at w
    cases w
theorem rn_tms {F : Tab} (h : RT F) {m : Nat} {ds : List PyData} (t : Tms m ds) : Tms m (ds.map (rnD F)) := by
  rw [← rn_app h]
  exact appM_tms h.tab t
theorem var_ne {d e : PyData} (n : NdA d) (n2 : NdA e) (v : isVarN d = true) (w : isVarN e = false) : PyData.eqv d e = false := by
  cases h : PyData.eqv d e with
  | false => rfl
  | true =>
    rw [(eq_nd n n2).mp h, w] at v
    cases v
theorem rn_ok {F : Tab} (h : RT F) {ds : List PyData} (ok : OkR ds) : OkR (ds.map (rnD F)) := by
  have t := rn_tms h ok.tms
  refine ⟨t.2, t.1, by rw [List.length_map]; exact ok.2.2.1, fun d hd => ?_⟩
  obtain ⟨d0, t0, rfl, n0, c0, l0⟩ := ok.cons
  have e : rnD F d0 = d := Option.some.inj hd
  subst e
  rcases (rn_cases h d0).2 with e | ⟨v, m, m0, e⟩
  · rw [e]
    exact ⟨c0, l0⟩
  · rw [e]
    exact ⟨var_ne (vN_ndI m0) comma_nd rfl (by decide +kernel), var_ne (vN_ndI m0) cl_nd rfl (by decide +kernel)⟩
theorem isG_sym {d : PyData} (n : NdA d) (g : isG d = true) : isVarN d = false := by
  cases v : isVarN d with
  | false => rfl
  | true =>
    obtain ⟨m, rfl⟩ := var_form n v
    exact absurd (show false = true from g) (by decide)
theorem rn_gr {F : Tab} (h : RT F) {ds : List PyData} (nd : ∀ d ∈ ds, NdA d) (g : isGr ds = true) : isGr (ds.map (rnD F)) = true := by
  cases ds with
  | nil => cases g
  | cons d t =>
    show isG (rnD F d) = true
    rw [rn_sym h (isG_sym (nd d (.head _)) g)]
    exact g
theorem tr_eq {r : List PyData} (nd : ∀ d ∈ r, NdA d) (e : isTr r = true) : r = [trueN] := by
  unfold isTr at e
  cases r with
  | nil => simp [PyData.eqv, PyData.eqvAll] at e
  | cons d t =>
    cases t with
    | nil =>
      have e1 : PyData.eqv d trueN = true := by
        simp only [PyData.eqv, PyData.eqvAll, Bool.and_eq_true] at e
        exact e.1
      rw [(eq_nd (nd d (.head _)) true_nd).mp e1]
    | cons a b => simp [PyData.eqv, PyData.eqvAll] at e
theorem rn_true {F : Tab} (h : RT F) : [trueN].map (rnD F) = [trueN] := by
  rw [List.map_singleton, rn_sym h (by decide +kernel)]
theorem good_iff {rows : List (List PyData)} : goodM rows = true ↔ ∀ r ∈ rows, isTr r = false → isGr r = true := by
  unfold goodM goalsM
  rw [List.all_eq_true]
  refine ⟨fun h r hr t => h r (List.mem_filter.mpr ⟨hr, by rw [t]; rfl⟩), fun h r hr => ?_⟩
  obtain ⟨h1, h2⟩ := List.mem_filter.mp hr
  exact h r h1 (by simpa using h2)
theorem rn_good {F : Tab} (h : RT F) {rows : List (List PyData)} (ok : OkRs rows) (g : goodM rows = true) : goodM (rows.map (List.map (rnD F))) = true := by
  rw [good_iff] at g ⊢
  intro r hr t
  obtain ⟨u, hu, rfl⟩ := List.mem_map.mp hr
  refine rn_gr h (ok u hu).1 (g u hu ?_)
  cases e : isTr u with
  | false => rfl
  | true =>
    rw [tr_eq (ok u hu).1 e, rn_true h] at t
    exact absurd t (by decide +kernel)
theorem rn_join {F : Tab} (h : RT F) : ∀ rows : List (List PyData), joinM (rows.map (List.map (rnD F))) = (joinM rows).map (rnD F)
  | [] => rfl
  | [r] => rfl
  | r :: s :: rest => by
    have ih := rn_join h (s :: rest)
    show commaN :: (r.map (rnD F) ++ joinM ((s :: rest).map (List.map (rnD F)))) = (commaN :: (r ++ joinM (s :: rest))).map (rnD F)
    rw [ih, List.map_cons, List.map_append, rn_sym h (show isVarN commaN = false by decide +kernel)]
theorem ClsP.ren {F : Tab} (h : RT F) {ds hd : List PyData} {rows : List (List PyData)} (C : ClsP ds hd rows) : ClsP (ds.map (rnD F)) (hd.map (rnD F)) (rows.map (List.map (rnD F))) := by
  refine ⟨rn_ok h C.h, rn_gr h C.h.1 C.g, fun r hr => ?_, rn_good h C.r C.rg, fun z => C.ne (List.map_eq_nil_iff.mp z), by rw [List.length_map]; exact C.len, ?_⟩
  · obtain ⟨u, hu, rfl⟩ := List.mem_map.mp hr
    exact rn_ok h (C.r u hu)
  · rcases C.sh with ⟨rfl, e⟩ | rfl
    · exact .inl ⟨rfl, by rw [e, List.map_singleton, rn_true h]⟩
    · refine .inr ?_
      rw [rn_join h, List.map_cons, List.map_append, rn_sym h (show isVarN clN = false by decide +kernel)]
theorem BigG.ren {F : Tab} (h : RT F) {ds : List PyData} (B : BigG ds) : BigG (ds.map (rnD F)) := ⟨rn_tms h B.t, rn_gr h B.t.2 B.g, by rw [List.length_map]; exact B.len⟩
theorem BigG.goal {ds : List PyData} (B : BigG ds) : GoalD ds := by
  cases ds with
  | nil => exact absurd rfl B.t.ne
  | cons d t => exact ⟨d, t, rfl, B.t.2 d (.head _), B.g⟩
theorem BigG.sym {ds : List PyData} (B : BigG ds) : ∀ d, ds.head? = some d → isVarN d = false := fun d hd => by
  cases ds with
  | nil => cases hd
  | cons a t => cases hd; exact isG_sym (B.t.2 _ (.head _)) B.g
/-! ### what the program and the law are told of a clause and goals -/
theorem splitM_eq (d : PyData) (r : List PyData) : splitM (d :: r) = if PyData.eqv d clN = true then (r.take (tk 1 r), r.drop (tk 1 r)) else (d :: r, [trueN]) := rfl
theorem split_fact {ds hd : List PyData} {rows : List (List PyData)} (C : ClsP ds hd rows) : ∃ d r, ds = d :: r ∧ (PyData.eqv d clN = true → Cls 2 r) ∧ splitM (d :: r) = (hd, joinM rows) := by
  rcases C.sh with ⟨rfl, e⟩ | rfl
  · obtain ⟨d, r, rfl, nd, c, l⟩ := C.h.cons
    refine ⟨d, r, rfl, (fun z => by rw [l] at z; cases z), ?_⟩
    rw [splitM_eq, l, if_neg (by decide), e]
    rfl
  · refine ⟨clN, _, rfl, (fun _ => ((C.h.tms).app (join_tms C.r C.ne)).1), ?_⟩
    rw [splitM_eq, nd_refl cl_nd, if_pos rfl, tk_row C.h.2.1, List.take_left, List.drop_left]
/-- the state of the law: the query, the goals, the clause -/
structure LSt (K : PySem.W.Frag) (H : Hp) (s l g : Addr) (vq vc : V) (q : List PyData) (gs : List (List PyData)) (ds hd : List PyData) (rows : List (List PyData)) : Prop where
  st : Stm H s l
  gl : ∃ gys, H g = some (.lst gys) ∧ DpAll K H gys (gs.map PyData.tuple)
  ns : g ≠ s
  gl2 : l ≠ g
  dq : Dp K H vq (.tuple q)
  bq : BigG q
  bg : ∀ t ∈ gs, BigG t
  lg : gs.length ≤ 3
  dc : Dp K H vc (.tuple ds)
  C : ClsP ds hd rows
theorem big_nd {gs : List (List PyData)} (h : ∀ t ∈ gs, BigG t) : NdT gs := fun t ht => (h t ht).t.2
theorem LSt.but {K : PySem.W.Frag} {H H' : Hp} {s l g : Addr} {vq vc : V} {q : List PyData} {gs : List (List PyData)} {ds hd : List PyData} {rows : List (List PyData)} (L : LSt K H s l g vq vc q gs ds hd rows) (b : But s H H') (S : Stm H' s l) : LSt K H' s l g vq vc q gs ds hd rows := by
  obtain ⟨gys, e, d⟩ := L.gl
  exact ⟨S, ⟨gys, b _ _ L.ns e, dp_butAll L.st b (big_nd L.bg) d⟩, L.ns, L.gl2, dp_but L.st b L.bq.t.2 L.dq, L.bq, L.bg, L.lg, dp_but L.st b L.C.nd L.dc, L.C⟩
theorem dp_setN {K : PySem.W.Frag} {H : Hp} {v : V} {d : PyData} (h : Dp K H v d) : ∀ {vs : List V} {ds : List PyData} (i : Nat), DpAll K H vs ds → DpAll K H (vs.set i v) (ds.set i d)
  | _, _, _, .nil => .nil
  | _, _, 0, .cons _ r => .cons h r
  | _, _, i + 1, .cons a r => .cons a (dp_setN h i r)
theorem LSt.set {K : PySem.W.Frag} {H : Hp} {s l g : Addr} {vq vc v : V} {q : List PyData} {gs : List (List PyData)} {ds hd : List PyData} {rows : List (List PyData)} {gys : List V} {dl : List PyData} {p : Nat} (L : LSt K H s l g vq vc q gs ds hd rows) (e : H g = some (.lst gys)) (B : BigG dl) (dv : Dp K H v (.tuple dl)) :
    LSt K (upd H g (.lst (gys.set p v))) s l g vq vc q (gs.set p dl) ds hd rows := by
  obtain ⟨gys', e', d⟩ := L.gl
  rw [e] at e'
  cases e'
  have nt : notTup H g := .inl ⟨_, e⟩
  have bg : ∀ t ∈ gs.set p dl, BigG t := fun t ht => by
    rcases List.mem_or_eq_of_mem_set ht with h | h
    · exact L.bg t h
    · rw [h]
      exact B
  refine ⟨L.st.put L.ns.symm L.gl2, ⟨_, upd_same, dp_putAll nt _ _ (big_nd bg).noL ?_⟩, L.ns, L.gl2, dp_put nt _ _ (tup_noL L.bq.t.2) L.dq, L.bq, bg, by rw [List.length_set]; exact L.lg, dp_put nt _ _ (tup_noL L.C.nd) L.dc, L.C⟩
  rw [List.map_set]
  exact dp_setN dv p d
theorem pair_ok : OkR [nodeF "q" 2, nodeF "." 2, vN 0, vN 0, vN 1] := okr_of okP2.2.1 (fun d hd => by
  simp only [List.mem_cons, List.not_mem_nil, or_false] at hd
  rcases hd with z | z | z | z <;> subst z
  · exact ⟨1, .f "." 2 (by decide +kernel) (by decide) (by decide)⟩
  · exact vN_ndI (by decide)
  · exact vN_ndI (by decide)
  · exact vN_ndI (by decide)) (show Cls 2 [nodeF "." 2, vN 0, vN 0, vN 1] from ⟨by decide, by decide, by decide, by decide, rfl⟩) (by show 4 ≤ 8; decide)
theorem LSt.putD {K : PySem.W.Frag} {H : Hp} {s l g D : Addr} {vq vc : V} {q : List PyData} {gs : List (List PyData)} {ds hd : List PyData} {rows : List (List PyData)} {o : HO} (L : LSt K H s l g vq vc q gs ds hd rows) (nt : notTup H D) (h1 : s ≠ D) (h2 : l ≠ D) (h3 : g ≠ D) : LSt K (upd H D o) s l g vq vc q gs ds hd rows := by
  obtain ⟨gys, e, d⟩ := L.gl
  exact ⟨L.st.put h1 h2, ⟨gys, by rw [upd_ne h3]; exact e, dp_putAll nt _ _ (big_nd L.bg).noL d⟩, L.ns, L.gl2, dp_put nt _ _ (tup_noL L.bq.t.2) L.dq, L.bq, L.bg, L.lg, dp_put nt _ _ (tup_noL L.C.nd) L.dc, L.C⟩
theorem RT.snoc {F : Tab} (h : RT F) {k n : Int} (n0 : 0 ≤ n) : RT (F ++ [(k, [vN n])]) := fun q hq => by
  rcases List.mem_append.mp hq with hq | hq
  · exact h q hq
  · rw [List.mem_singleton.mp hq]
    exact ⟨n, n0, rfl⟩
/-! ### the end of the law: both sides' outcomes -/
inductive Fin3
  | non
  | big
  | row (ts : List (List PyData))
inductive FinR (q : List PyData) (gs : List (List PyData)) (p : Nat) (os : List (List PyData)) : Res → Fin3 → Prop
  | non : FinR q gs p os .non .non
  | big : FinR q gs p os .big .big
  | wide {T : Tab} : wide (nextT T q gs p os) → FinR q gs p os (.tab T) .big
  | row {T : Tab} : ¬ wide (nextT T q gs p os) → FinR q gs p os (.tab T) (.row (renT 0 (nextT T q gs p os)))
theorem fin_resQ {K : PySem.W.Frag} {H : Hp} {Q : VK} {E : XK} {q : List PyData} {gs : List (List PyData)} {p : Nat} {os : List (List PyData)} {s : Res} {f : Fin3} (h : FinR q gs p os s f)
    (h0 : f = .non → ∀ H', Same H H' → Q .non H') (h1 : f = .big → ∀ H', Same H H' → E (.ref (clsA K "TooLarge")) Option.none H')
    (h2 : ∀ ts, f = .row ts → ∀ c v r ys H', Same H H' → H' c = some (.tup [v, .ref r]) → Dp K H' v (.tuple (ts.headD [])) → H' r = some (.lst ys) → DpAll K H' ys (ts.tail.map PyData.tuple) → Q (.ref c) H') : resQ K H Q E q gs p os s := by
  cases h with
  | non => exact h0 rfl
  | big => exact h1 rfl
  | wide w => exact ⟨fun _ => h1 rfl, fun z => absurd w z⟩
  | row w => exact ⟨fun z => absurd z w, fun _ => h2 _ rfl⟩
/-- what the law's due is -/
def DueV (K : PySem.W.Frag) (H : Hp) (v : V) : Fin3 → Prop
  | .non => v = .non
  | .big => v = .str "large"
  | .row ts => NdT ts ∧ ts ≠ [] ∧ ts.length ≤ 300 ∧ ∃ r ys, v = .ref r ∧ H r = some (.lst ys) ∧ DpAll K H ys (ts.map PyData.tuple)
theorem DueV.same {K : PySem.W.Frag} {H H' : Hp} {v : V} {f : Fin3} (h : DueV K H v f) (s : Same H H') : DueV K H' v f := by
  cases f with
  | non => exact h
  | big => exact h
  | row ts =>
    obtain ⟨a, b, c, r, ys, e, e2, d⟩ := h
    exact ⟨a, b, c, r, ys, e, s _ _ e2, dp_sameAll s _ _ d⟩
/-! ### the rows in the law's order and in the program's -/
theorem cut4 {α : Type} {a : α} {A B C : List α} {p n : Nat} (hA : A.length = p) (hn : 1 + A.length + B.length = n) :
    ((a :: (A ++ B ++ C)).drop 1).take p = A ∧ (a :: (A ++ B ++ C)).drop n = C ∧ ((a :: (A ++ B ++ C)).drop (p + 1)).take (n - (p + 1)) = B := by
  subst hA
  refine ⟨?_, ?_, ?_⟩
  · rw [List.drop_succ_cons, List.drop_zero, List.append_assoc, List.take_left]
  · have e : a :: (A ++ B ++ C) = (a :: (A ++ B)) ++ C := rfl
    rw [e, List.drop_left' (by rw [List.length_cons, List.length_append]; omega)]
  · rw [List.drop_succ_cons, List.append_assoc, List.drop_left, List.take_left' (by omega)]
theorem FT_eq {T : Tab} {q : List PyData} {gs : List (List PyData)} {p : Nat} {hd g : List PyData} {os : List (List PyData)} (e : nxt (([q] ++ gs.take p ++ gs.drop (p + 1)) ++ [g]).flatten = nxt (q :: gs).flatten) :
    FT T ([q] ++ gs.take p ++ gs.drop (p + 1)) g hd os = appM T q :: ((gs.take p).map (appM T) ++ (gs.drop (p + 1)).map (appM T) ++ (rowM q gs hd os).tail.map (appM T)) := by
  unfold FT rowM
  rw [e]
  simp [List.map_append]
theorem NT_eq {T : Tab} {q : List PyData} {gs : List (List PyData)} {p : Nat} {os : List (List PyData)} :
    nextT T q gs p os = appM T q :: ((gs.take p).map (appM T) ++ os.map (appM T) ++ (gs.drop (p + 1)).map (appM T)) := by
  unfold nextT
  simp [List.map_append]
theorem wide_iff {ts us : List (List PyData)} (h : ∀ t, t ∈ ts ↔ t ∈ us) : wide ts ↔ wide us := ⟨fun ⟨t, a, b⟩ => ⟨t, (h t).mp a, b⟩, fun ⟨t, a, b⟩ => ⟨t, (h t).mpr a, b⟩⟩
theorem mem3 {α : Type} {a x : α} {A B C : List α} : x ∈ a :: (A ++ B ++ C) ↔ x ∈ a :: (A ++ C ++ B) := by
  simp only [List.mem_cons, List.mem_append]
  constructor <;> (intro h; rcases h with h | (h | h) | h <;> simp [h])
theorem take_drop_mem {gs : List (List PyData)} {p : Nat} {g : List PyData} (hg : gs[p]? = some g) (t : List PyData) : t ∈ gs ↔ t ∈ gs.take p ∨ t = g ∨ t ∈ gs.drop (p + 1) := by
  obtain ⟨hi, e⟩ := List.getElem?_eq_some_iff.mp hg
  have e2 : gs = gs.take p ++ g :: gs.drop (p + 1) := by rw [← e, ← List.drop_eq_getElem_cons hi, List.take_append_drop]
  conv => lhs; rw [e2]
  simp only [List.mem_append, List.mem_cons]
theorem nx_both {q : List PyData} {gs : List (List PyData)} {p : Nat} {g : List PyData} (hg : gs[p]? = some g) (nd : NdT (q :: gs)) : nxt (([q] ++ gs.take p ++ gs.drop (p + 1)) ++ [g]).flatten = nxt (q :: gs).flatten := by
  refine (nxt_same nd.flat fun d => ?_).symm
  have mm : ∀ t, t ∈ (q :: gs) ↔ t ∈ (([q] ++ gs.take p ++ gs.drop (p + 1)) ++ [g]) := fun t => by
    rw [List.mem_cons, take_drop_mem hg t]
    simp only [List.mem_append, List.mem_singleton]
    constructor
    · rintro (h | h | h | h) <;> simp [h]
    · rintro (((h | h) | h) | h) <;> simp [h]
  constructor
  · intro h
    obtain ⟨t, ht, hd⟩ := List.mem_flatten.mp h
    exact List.mem_flatten.mpr ⟨t, (mm t).mp ht, hd⟩
  · intro h
    obtain ⟨t, ht, hd⟩ := List.mem_flatten.mp h
    exact List.mem_flatten.mpr ⟨t, (mm t).mpr ht, hd⟩
/-- the rows of the law, taken in the program's order and numbered again -/
theorem due_perm {T : Tab} {q : List PyData} {gs : List (List PyData)} {p : Nat} {os : List (List PyData)} {L : List (List PyData)} (e : L = appM T q :: ((gs.take p).map (appM T) ++ (gs.drop (p + 1)).map (appM T) ++ os.map (appM T))) :
    renT 0 ((nextT T q gs p os).map fun t => t.map (mapD (gN 0 L.flatten))) = renT 0 (nextT T q gs p os) := by
  refine renT_perm fun u hu => ?_
  rw [NT_eq] at hu
  rw [e]
  exact mem3.mp hu
theorem nextT_len {T : Tab} {q : List PyData} {gs : List (List PyData)} {p : Nat} {os : List (List PyData)} (hp : p < gs.length) : (nextT T q gs p os).length = gs.length + os.length := by
  unfold nextT
  rw [List.length_map, List.length_cons, List.length_append, List.length_append, List.length_take, List.length_drop]
  omega
theorem map_ar {g : Int → Int} {d : PyData} (n : NdA d) : arN (mapD g d) = arN d := by
  by_cases v : isVarN d = true
  · rw [var_ar n v]
    unfold mapD
    rw [if_pos v]
    rfl
  · unfold mapD
    rw [if_neg v]
theorem tms_map {g : Int → Int} (hg : ∀ n, 0 ≤ g n) {ds : List PyData} {m : Nat} (h : Tms m ds) : Tms m (ds.map (mapD g)) := ⟨cls_map ds _ m (by rw [List.map_map]; exact List.map_congr_left fun d hd => map_ar (h.2 d hd)) h.1, fun d hd => by
  obtain ⟨e, he, rfl⟩ := List.mem_map.mp hd
  exact mapD_nd (h.2 e he) hg⟩
/-- what both sides are told of the goal and the renamed head -/
theorem both {q : List PyData} {gs : List (List PyData)} {p : Nat} {g ds hd : List PyData} {rows : List (List PyData)} (bq : BigG q) (bg : ∀ t ∈ gs, BigG t) (lg : gs.length ≤ 3) (hg : gs[p]? = some g) (C : ClsP ds hd rows) :
    ∃ h k s, LawI ([q] ++ gs.take p ++ gs.drop (p + 1)) g hd (goalsM rows) h k s ∧ ResI q gs p hd (goalsM rows) g h k s := by
  have ndq : NdT (q :: gs) := fun t ht => by
    rcases List.mem_cons.mp ht with rfl | ht
    · exact bq.t.2
    · exact (bg t ht).t.2
  have ndr : NdT (hd :: goalsM rows) := fun t ht => by
    rcases List.mem_cons.mp ht with rfl | ht
    · exact C.h.1
    · exact (C.r t (goals_mem ht)).1
  have gm : g ∈ gs := List.mem_of_getElem? hg
  have Bg := bg g gm
  have lr : (goalsM rows).length ≤ 12 := Nat.le_trans (List.length_filter_le _ _) C.len
  have nx0 := nxt_pos ndq.flat
  have th : Tms 1 (hd.map (mapD (gN (nxt (q :: gs).flatten) (hd :: goalsM rows).flatten))) := tms_map (fun n => gN_pos nx0 _ n) C.h.tms
  have tms_in : ∀ t ∈ ([q] ++ gs.take p ++ gs.drop (p + 1)) ++ [g], t ∈ q :: gs := fun t ht => by
    simp only [List.mem_append, List.mem_singleton] at ht
    rcases ht with ((h | h) | h) | h
    · rw [h]; exact .head _
    · exact .tail _ (List.mem_of_mem_take h)
    · exact .tail _ (List.mem_of_mem_drop h)
    · rw [h]; exact .tail _ gm
  have szr : ∀ t ∈ hd :: goalsM rows, t.length ≤ 200 := fun t ht => by
    rcases List.mem_cons.mp ht with rfl | ht
    · exact Nat.le_trans C.h.2.2.1 (by decide)
    · exact Nat.le_trans (C.r t (goals_mem ht)).2.2.1 (by decide)
  have szq : ∀ t ∈ q :: gs, t.length ≤ 200 := fun t ht => by
    rcases List.mem_cons.mp ht with rfl | ht
    · exact Nat.le_trans bq.len (by decide)
    · exact Nat.le_trans (bg t ht).len (by decide)
  obtain ⟨k, s, eg, k1⟩ := eg_any (max 200 (max g.length (hd.map (mapD (gN (nxt (q :: gs).flatten) (hd :: goalsM rows).flatten))).length)) Bg.t th
  have k2 : k ≤ 2000 := by
    have a := Bg.len
    have b := C.h.2.2.1
    rw [List.length_map] at k1
    omega
  refine ⟨_, k, s, ⟨fun t ht => ndq t (tms_in t ht), ndr, fun t ht => ?_, ?_, Nat.le_trans lr (by decide), Bg.t, th, ?_, eg, k2⟩, ⟨hg, ndq, ndr, fun t ht => ?_, Nat.le_trans lg (by decide), Nat.le_trans lr (by decide), Bg.t, th, rfl, eg, k2, Bg.sym, fun d e => ?_⟩⟩
  · rcases List.mem_append.mp ht with ht | ht
    · exact szq t (tms_in t ht)
    · exact szr t ht
  · rw [List.length_append, List.length_append, List.length_take, List.length_drop, List.length_singleton]
    omega
  · rw [nx_both hg ndq]
    rfl
  · rcases List.mem_append.mp ht with ht | ht
    · exact szq t ht
    · exact szr t ht
  · cases hd with
    | nil => cases e
    | cons a t => cases e; exact isG_sym (C.h.1 _ (.head _)) C.g
theorem nextT_nd {T : Tab} {q : List PyData} {gs : List (List PyData)} {p : Nat} {hd : List PyData} {os : List (List PyData)} {g h : List PyData} {k : Nat} {s : Res} (I : ResI q gs p hd os g h k s) (t : TabN T) : NdT (nextT T q gs p (rowM q gs hd os).tail) := fun u hu => by
  obtain ⟨v, hv, rfl⟩ := List.mem_map.mp hu
  exact appM_nd t (I.ndAll v hv)
theorem via3 {t1 t2 u : TS} {D : Ends} {σ : L2.St} {H : Hp} (P : L2.St → Hp → Prop) (hu : ∀ σ H, P σ H → u D σ H) (ht : (∀ σ H, P σ H → u D σ H) → tSeq t1 (tSeq t2 u) D σ H) : tSeq t1 (tSeq t2 u) D σ H := ht hu
theorem via4 {t1 t2 t3 u : TS} {D : Ends} {σ : L2.St} {H : Hp} (P : L2.St → Hp → Prop) (hu : ∀ σ H, P σ H → u D σ H) (ht : (∀ σ H, P σ H → u D σ H) → tSeq t1 (tSeq t2 (tSeq t3 u)) D σ H) : tSeq t1 (tSeq t2 (tSeq t3 u)) D σ H := ht hu
theorem sh_large : SeqAt.shaped (.str (Str.ofString "large")) = true := by decide +kernel
theorem eqv_large : PyData.eqv (.str (Str.ofString "large")) (.str (Str.ofString "large")) = true := by decide +kernel
theorem sh_row {ts : List (List PyData)} (h : NdT ts) : SeqAt.shaped (.list (ts.map PyData.tuple)) = true := rows_shaped h
theorem eqv_row {ts : List (List PyData)} (h : NdT ts) : PyData.eqv (.list (ts.map PyData.tuple)) (.list (ts.map PyData.tuple)) = true := by simp only [PyData.eqv]; exact (rows_facts h).2.2.1
theorem list_str (ds : List PyData) (x : Str) : PyData.eqv (.list ds) (.str x) = false := by simp [PyData.eqv]
theorem due_rows {K : PySem.W.Frag} {H : Hp} {zs : List V} {z0 : V} {T : Tab} {q : List PyData} {gs : List (List PyData)} {p : Nat} {os : List (List PyData)} {L : List (List PyData)} (hp : p < gs.length) (e : L = appM T q :: ((gs.take p).map (appM T) ++ (gs.drop (p + 1)).map (appM T) ++ os.map (appM T)))
    (d : DpAll K H zs ((renT 0 L).map PyData.tuple)) (hz : zs[0]? = some z0) :
    DpAll K H ([z0] ++ (zs.drop 1).take p ++ zs.drop gs.length ++ (zs.drop (p + 1)).take (gs.length - (p + 1))) (((nextT T q gs p os).map fun t => t.map (mapD (gN 0 L.flatten))).map PyData.tuple) := by
  have e1 : renT 0 L = L.map (fun t => t.map (mapD (gN 0 L.flatten))) := rfl
  generalize (fun t : List PyData => t.map (mapD (gN 0 L.flatten))) = mm at e1 ⊢
  rw [e1, e, List.map_cons, List.map_append, List.map_append] at d
  obtain ⟨c1, c2, c3⟩ := cut4 (a := mm (appM T q)) (A := ((gs.take p).map (appM T)).map mm) (B := ((gs.drop (p + 1)).map (appM T)).map mm) (C := (os.map (appM T)).map mm) (p := p) (n := gs.length)
    (by rw [List.length_map, List.length_map, List.length_take]; omega) (by rw [List.length_map, List.length_map, List.length_map, List.length_map, List.length_take, List.length_drop]; omega)
  have dA := DpAll.taket p (DpAll.dropt 1 d)
  rw [← List.map_drop, ← List.map_take, c1] at dA
  have dC := DpAll.dropt gs.length d
  rw [← List.map_drop, c2] at dC
  have dB := DpAll.taket (gs.length - (p + 1)) (DpAll.dropt (p + 1) d)
  rw [← List.map_drop, ← List.map_take, c3] at dB
  obtain ⟨d0, h0, dz⟩ := DpAll.getV d hz
  rw [List.map_cons] at h0
  have h0 : PyData.tuple (mm (appM T q)) = d0 := Option.some.inj h0
  subst h0
  have := DpAll.app (DpAll.app (DpAll.app (.cons dz .nil) dA) dC) dB
  rw [NT_eq, List.map_cons, List.map_append, List.map_append, List.map_cons, List.map_append, List.map_append]
  simpa using this
def sp_law (K : PySem.W.Frag) : Sp := fun vs H Q _ => ∃ (a : Addr) (ns : List Int), vs = [.ref a] ∧ SqL K H a (ns.map V.int) ∧ ns.length ≤ 63 ∧ ∀ H', Q (.bl true) H'

local macro_rules | `(tactic| walk_at "lits") => `(tactic| repeat' (first | exact lit_int | exact lit_str | exact lit_bl | exact lit_non | exact litA_nil | refine litA_cons ?_ ?_ | refine lit_tup ?_ (by decide) | refine lit_lst ?_ (by decide) | refine lit_neg ?_ | refine lit_sub ?_ ?_ | refine lit_pow ?_ ?_ ⟨by decide, by decide, by decide⟩ | refine lit_mulS ?_ ?_ ⟨by decide, by decide, by decide⟩))
local macro_rules | `(tactic| walk_at "wp") => `(tactic| simp only [wipe, List.map_cons, List.map_nil, List.set_cons_succ, List.set_cons_zero])
local macro_rules | `(tactic| walk_at "gn") => `(tactic| with_reducible first | refine g_n0 ?_ | refine g_n1 ?_ | refine g_n2 ?_ | refine g_n3 ?_ | refine g_n4 ?_ | refine g_n5 ?_ | refine g_n6 ?_ | refine g_n7 ?_ | refine g_n8 ?_ | refine g_n9 ?_ | refine g_n10 ?_ | refine g_n11 ?_ | refine g_n12 ?_ | refine g_n13 ?_ | refine g_n14 ?_ | refine g_n15 ?_ | refine g_n16 ?_ | refine g_n17 ?_ | refine g_n18 ?_ | refine g_n19 ?_ | refine g_n20 ?_ | refine g_n21 ?_ | refine g_n22 ?_ | refine g_n23 ?_ | refine g_n24 ?_ | refine g_n25 ?_)
local macro_rules | `(tactic| walk_at "go") => `(tactic| repeat with_reducible first | refine g_var (by with_unfolding_all exact rfl) ?_ | refine g_c ?_ | refine g_cons ?_ | refine g_nil ?_ | refine g_seq ?_ | refine g_asg ?_ | refine g_op ?_ | refine g_i0 ?_ | refine g_call ?_ | refine g_cb ?_ | refine g_test ?_ | refine g_b ?_ | refine g_bl ?_ | refine g_in ?_ | refine g_ifS ?_ | refine g_next ?_ | refine nxp ?_ | refine g_ret ?_ | refine g_rt ?_ | refine g_bk ?_ | refine g_ct ?_ | refine g_drop ?_ | refine g_eqi ?_ | refine g_nei ?_ | refine g_eqs ?_ | refine g_nes ?_ | refine g_not ?_ | refine g_and ?_ | refine g_or ?_ | refine g_andV ?_ | refine g_orV ?_ | refine g_notV ?_ | refine g_if ?_ | refine g_brk ?_ | refine g_cont ?_ | refine g_retN ?_ | refine g_par ?_ | refine g_two ?_ | refine g_aug (by with_unfolding_all exact rfl) ?_ | refine g_callN ?_ | refine g_kw ?_ | refine g_tup ?_ | refine g_lst ?_ | refine g_sl ?_ | refine g_np ?_ | refine g_part ?_ | refine g_bm ?_ | refine g_bm0 ?_ | refine g_un ?_ | refine g_iu ?_ | refine g_sub ?_ | refine g_yes ?_ | refine iteT ?_ | refine iteF ?_ | refine iteNf ?_ | refine iteNt ?_ | refine iteSs ?_ | refine iteSn ?_ | refine g_for ?_ | refine g_iL ?_ | refine g_iT ?_ | refine g_iR1 ?_ | refine g_iR2 ?_ | refine g_iZ ?_ | refine g_gcons ?_ | refine g_gnil ?_ | refine g_lc ?_ | refine g_fld ?_ | refine g_sfld ?_ | refine g_afld ?_ | refine g_meth ?_ | refine g_make ?_ | refine g_revT ?_ | refine g_revL ?_ | refine g_din ?_ | refine g_dnin ?_ | refine g_dget ?_ | refine g_dget2 ?_ | refine g_dpop2 ?_ | refine g_dput ?_ | refine g_rev ?_ | refine g_dnew ?_ | refine g_callS ?_ | walk_at "gn")
local macro_rules | `(tactic| walk_at "gs") => `(tactic| repeat with_reducible first | refine g_var (by with_unfolding_all exact rfl) ?_ | refine g_c ?_ | refine g_cons ?_ | refine g_nil ?_ | refine g_seq ?_ | refine g_asg ?_ | refine g_op ?_ | refine g_i0 ?_ | refine g_call ?_ | refine g_cb ?_ | refine g_test ?_ | refine g_b ?_ | refine g_bl ?_ | refine g_in ?_ | refine g_next ?_ | refine nxp ?_ | refine g_ret ?_ | refine g_rt ?_ | refine g_bk ?_ | refine g_ct ?_ | refine g_drop ?_ | refine g_eqi ?_ | refine g_nei ?_ | refine g_eqs ?_ | refine g_nes ?_ | refine g_not ?_ | refine g_and ?_ | refine g_or ?_ | refine g_andV ?_ | refine g_orV ?_ | refine g_notV ?_ | refine g_if ?_ | refine g_brk ?_ | refine g_cont ?_ | refine g_retN ?_ | refine g_par ?_ | refine g_two ?_ | refine g_aug (by with_unfolding_all exact rfl) ?_ | refine g_callN ?_ | refine g_kw ?_ | refine g_tup ?_ | refine g_lst ?_ | refine g_sl ?_ | refine g_np ?_ | refine g_part ?_ | refine g_bm ?_ | refine g_bm0 ?_ | refine g_un ?_ | refine g_iu ?_ | refine g_sub ?_ | refine g_yes ?_ | refine iteT ?_ | refine iteF ?_ | refine iteNf ?_ | refine iteNt ?_ | refine iteSs ?_ | refine iteSn ?_ | refine g_for ?_ | refine g_iL ?_ | refine g_iT ?_ | refine g_iR1 ?_ | refine g_iR2 ?_ | refine g_iZ ?_ | refine g_gcons ?_ | refine g_gnil ?_ | refine g_lc ?_ | refine g_fld ?_ | refine g_sfld ?_ | refine g_afld ?_ | refine g_meth ?_ | refine g_make ?_ | refine g_revT ?_ | refine g_revL ?_ | refine g_din ?_ | refine g_dnin ?_ | refine g_dget ?_ | refine g_dget2 ?_ | refine g_dpop2 ?_ | refine g_dput ?_ | refine g_rev ?_ | refine g_dnew ?_ | refine g_callS ?_ | walk_at "gn")
section
variable {P : Program} {w : World} {K : PySem.W.Frag} {mg : Str → Option Value} {base : Heap}
theorem ok_is_variable {f : Addr} {fd : FuncData} (F : Fun K "is_variable" "is_variable" s_is_variable f fd) (E : Bi K mg)  : FnOk P w K mg base CX0 1 f fd ["node"] (sp_is_variable K) := by
  refine F.ok sc_is_variable (fun vs H Q E h => ?_) (fun cdv A outer s H vs Q E' hr h => ?_)
  · obtain ⟨x, d, rfl, _⟩ := h
    rfl
  · obtain ⟨x, d, rfl, hd, ⟨wd, nd⟩, q⟩ := h
    refine ⟨_, (pss_one (ps_ret (pe_and (pe_callB call_isi (by rfl) E.b_isinstance (by decide +kernel) (pa_cons (pv 0) (pa_cons (pe_ty "tuple" (by rfl) E.b_tuple (by decide +kernel)) pa_nil))) (pe_one (pe_cmpR op_eq (pe_ix ix_tup (pv 0) pe_int (fun _ _ => rfl)) pe_str (nomark _)))))), ?_⟩
    refine ⟨x, rfl, _, _, _, _, _, rfl, .ty _, tyx_of hd, kit_ty (kitT _), _, rfl, ?_⟩
    cases nd with
    | v n h1 h2 =>
      cases hd with
      | tup hs ha =>
        obtain ⟨v, hv, hdv⟩ := DpAll.get (i := 0) ha rfl
        cases hdv
        refine iteT ⟨_, rfl, _, _, _, _, rfl, rfl, hs, atI_nat (j := 0) hv, rfl, ?_⟩
        rw [decide_eq_true rfl]
        exact q
    | i n h1 h2 => exact iteF q
    | f y n h1 h2 h3 =>
      cases hd with
      | tup hs ha =>
        obtain ⟨v, hv, hdv⟩ := DpAll.get (i := 0) ha rfl
        cases hdv
        refine iteT ⟨_, rfl, _, _, _, _, rfl, rfl, hs, atI_nat (j := 0) hv, rfl, ?_⟩
        rw [show decide (V.str (Str.ofString "f") = V.str (Str.ofString "v")) = false by decide +kernel]
        exact q

theorem ok_is_symbol {f : Addr} {fd : FuncData} (F : Fun K "is_symbol" "is_symbol" s_is_symbol f fd) (E : Bi K mg)  : FnOk P w K mg base CX0 1 f fd ["node"] (sp_is_symbol K) := by
  refine F.ok sc_is_symbol (fun vs H Q E h => ?_) (fun cdv A outer s H vs Q E' hr h => ?_)
  · obtain ⟨x, d, rfl, _⟩ := h
    rfl
  · obtain ⟨x, d, rfl, hd, ⟨wd, nd⟩, q⟩ := h
    refine ⟨_, (pss_one (ps_ret (pe_and (pe_callB call_isi (by rfl) E.b_isinstance (by decide +kernel) (pa_cons (pv 0) (pa_cons (pe_ty "tuple" (by rfl) E.b_tuple (by decide +kernel)) pa_nil))) (pe_one (pe_cmpR op_eq (pe_ix ix_tup (pv 0) pe_int (fun _ _ => rfl)) pe_str (nomark _)))))), ?_⟩
    refine ⟨x, rfl, _, _, _, _, _, rfl, .ty _, tyx_of hd, kit_ty (kitT _), _, rfl, ?_⟩
    cases nd with
    | v n h1 h2 =>
      cases hd with
      | tup hs ha =>
        obtain ⟨v, hv, hdv⟩ := DpAll.get (i := 0) ha rfl
        cases hdv
        refine iteT ⟨_, rfl, _, _, _, _, rfl, rfl, hs, atI_nat (j := 0) hv, rfl, ?_⟩
        rw [show decide (V.str (Str.ofString "v") = V.str (Str.ofString "f")) = false by decide +kernel]
        exact q
    | i n h1 h2 => exact iteF q
    | f y n h1 h2 h3 =>
      cases hd with
      | tup hs ha =>
        obtain ⟨v, hv, hdv⟩ := DpAll.get (i := 0) ha rfl
        cases hdv
        refine iteT ⟨_, rfl, _, _, _, _, rfl, rfl, hs, atI_nat (j := 0) hv, rfl, ?_⟩
        rw [decide_eq_true rfl]
        exact q

theorem ok_is_control {f : Addr} {fd : FuncData} (F : Fun K "is_control" "is_control" s_is_control f fd) (E : Bi K mg)  : FnOk P w K mg base CX0 1 f fd ["name", "arity"] (sp_is_control K) := by
  obtain ⟨u_CONTROL, v_CONTROL, e_CONTROL, r_CONTROL, d_CONTROL⟩ := E.c_CONTROL
  refine F.ok sc_is_control (fun vs H Q E h => ?_) (fun cdv A outer s H vs Q E' hr h => ?_)
  · obtain ⟨x, n, rfl, _⟩ := h
    rfl
  · obtain ⟨x, n, rfl, hx, q⟩ := h
    refine ⟨_, (pss_one (ps_ret (pe_cmpR (op_inT (units65 hr)) (pe_tup (pa_cons (pv 0) (pa_cons (pv 1) pa_nil))) (pe_glob (by rfl) e_CONTROL r_CONTROL) (by rfl)))), ?_⟩
    refine ⟨_, rfl, _, rfl, (by show 2 ≤ sizeLine; decide), fun p np => ?_⟩
    have sp := same_upd (o := .tup [.str x, .int n]) np
    refine ⟨pd (x, n), CTL.map pd, .tup (SqT.of upd_same) (.cons (.str _) (.cons (.int _) .nil)), dp_same (none_same _) _ _ d_CONTROL, pd_shaped hx, (pds_shaped ctl_ok).1, ?_⟩
    rw [any_pd]
    exact q _ sp

theorem ok_is_built_in {f : Addr} {fd : FuncData} (F : Fun K "is_built_in" "is_built_in" s_is_built_in f fd) (E : Bi K mg)  : FnOk P w K mg base CX0 1 f fd ["name", "arity"] (sp_is_built_in K) := by
  obtain ⟨u_BUILT_IN, v_BUILT_IN, e_BUILT_IN, r_BUILT_IN, d_BUILT_IN⟩ := E.c_BUILT_IN
  refine F.ok sc_is_built_in (fun vs H Q E h => ?_) (fun cdv A outer s H vs Q E' hr h => ?_)
  · obtain ⟨x, n, rfl, _⟩ := h
    rfl
  · obtain ⟨x, n, rfl, hx, q⟩ := h
    refine ⟨_, (pss_one (ps_ret (pe_cmpR (op_inT (units65 hr)) (pe_tup (pa_cons (pv 0) (pa_cons (pv 1) pa_nil))) (pe_glob (by rfl) e_BUILT_IN r_BUILT_IN) (by rfl)))), ?_⟩
    refine ⟨_, rfl, _, rfl, (by show 2 ≤ sizeLine; decide), fun p np => ?_⟩
    have sp := same_upd (o := .tup [.str x, .int n]) np
    refine ⟨pd (x, n), BIN.map pd, .tup (SqT.of upd_same) (.cons (.str _) (.cons (.int _) .nil)), dp_same (none_same _) _ _ d_BUILT_IN, pd_shaped hx, (pds_shaped bin_ok).1, ?_⟩
    rw [any_pd]
    exact q _ sp

theorem ok_check_size {f : Addr} {fd : FuncData} (F : Fun K "check_size" "check_size" s_check_size f fd) (E : Bi K mg)  : FnOk P w K mg base (L2.CX P w) 1 f fd ["size", "most"] (sp_check_size K) := by
  refine F.okX sc_check_size (fun vs H Q E h => ?_) (fun cdv A outer s H vs Q E' hr h => ?_)
  · obtain ⟨n, m, rfl, _⟩ := h
    rfl
  · obtain ⟨n, m, rfl, rfl, q1, q2⟩ := h
    refine ⟨_, (pss_one (ps_if (pt_cmpR op_gt (pv 0) (pv 1) (nomark _)) (pss_one (ps_raise rfl (takes_of rfl rfl rfl rfl) (pmk_own1 PySem.F.excBase_ValueError E.x_TooLarge.xC E.x_TooLarge.gC E.x_TooLarge.kC (raises_own E.x_TooLarge.bC E.x_TooLarge.tC) rfl (pe_joined (PJ.cons pe_str (PJ.cons (pe_fmt (pv 1)) (PJ.cons pe_str PJ.nil))))))) pss_nil)), ?_⟩
    refine st_of (σ := [some _, some _]) rfl ?_
    walk_at "go"
    refine ite2 (fun e => ?_) (fun e => ?_)
    · have := of_decide_eq_true e
      refine ⟨_, rfl, by decide +kernel, _, rfl, .inr ⟨200, rfl, by decide +kernel, _, rfl, by decide +kernel, _, rfl, by decide +kernel, ?_⟩⟩
      exact q2 this _ (Same.refl H)
    · have : ¬ (200 : Int) < n := fun z => e (decide_eq_true z)
      walk_at "go"
      exact q1 (by omega) _ (Same.refl H)

theorem ok__law_stream {f : Addr} {fd : FuncData} (F : Fun K "_law_stream" "_law_stream" s__law_stream f fd) (E : Bi K mg)  : FnOk P w K mg base CX0 1 f fd ["script"] (sp__law_stream K) := by
  refine F.ok sc__law_stream (fun vs H Q E h => ?_) (fun cdv A outer s H vs Q E' hr h => ?_)
  · obtain ⟨a, ns, rfl, _⟩ := h
    rfl
  · obtain ⟨a, ns, rfl, hS, hl, q⟩ := h
    refine ⟨_, (pss_cons (ps_set (i := 1) sc__law_stream.nd rfl (Or.inl rfl) pe_int)
      (pss_cons (ps_for PassesOwn.never rfl (pi_list (pv 0)) (pg_name (i := 2) sc__law_stream.nd rfl (Or.inl rfl)) (pss_one (ps_set (i := 1) sc__law_stream.nd rfl (Or.inl rfl) (pe_op op_mod (pe_callTy call_int1 (by rfl) E.b_int (by decide +kernel) (pa_cons (pe_op op_add (pe_op op_add (pe_op op_mul (pv 1) pe_int) (pe_op op_mod (pe_callTy call_int1 (by rfl) E.b_int (by decide +kernel) (pa_cons (pv 2) pa_nil)) pe_int)) pe_int) pa_nil)) pe_int))))
      (pss_one (ps_ret (pe_lst (pa_cons (pe_callTy call_list_of (by rfl) E.b_list (by decide +kernel) (pa_cons (pv 0) pa_nil)) (pa_cons pe_int (pa_cons pe_int (pa_cons (pv 1) pa_nil))))))))), ?_⟩
    refine ⟨_, rfl, a, rfl, ⟨_, hS⟩, for_list (K := K) (a := a) (xs := ns.map V.int) (fun i σ H1 => ∃ (m : Int) (v : Option V), σ = [some (.ref a), some (.int m), v] ∧ H1 = H ∧ 0 ≤ m ∧ m < 2147483647)
      ⟨17, none, rfl, rfl, by decide, by decide⟩ (fun i σ H1 _ ⟨_, _, _, e, _⟩ => by rw [e]; exact hS) ?_ ?_⟩
    · rintro i y σ H1 hi ⟨m, v, rfl, rfl, h0, h1⟩
      obtain ⟨z, rfl⟩ : ∃ z, y = V.int z := by
        rw [List.getElem?_map] at hi
        cases e : ns[i]? with
        | none =>
          rw [e] at hi
          cases hi
        | some z =>
          rw [e] at hi
          exact ⟨z, (Option.some.inj hi).symm⟩
      refine ⟨_, rfl, _, _, rfl, rfl, .inr ⟨by decide, by decide⟩, _, rfl, .inl ⟨_, rfl, _, _, rfl, rfl, (by decide : (0 : Int) < 65521), _, _, rfl, rfl, _, _, rfl, rfl, .inl ⟨_, rfl, _, _, rfl, rfl, (by decide : (0 : Int) < 2147483647), ?_⟩⟩⟩
      exact ⟨_, _, rfl, rfl, Int.emod_nonneg _ (by decide), Int.emod_lt_of_pos _ (by decide)⟩
    · rintro σ H1 ⟨m, v, rfl, rfl, h0, h1⟩
      refine ⟨_, rfl, a, _, rfl, .inl hS, fun l hl2 => ⟨_, rfl, (by show 4 ≤ sizeLine; decide), fun p hp => ?_⟩⟩
      have npl : l ≠ p := fun z => by
        rw [← z, upd_same] at hp
        cases hp
      refine q p l _ ((same_upd hl2).free hp) hl2 ((same_upd hl2).trans (same_upd hp)) ⟨0, 0, m, ns, upd_same, ?_, hl, Int.le_refl 0, Int.le_refl 0, h0, h1⟩
      rw [upd_ne npl, upd_same]

theorem ok__law_draw {f : Addr} {fd : FuncData} (F : Fun K "_law_draw" "_law_draw" s__law_draw f fd) (E : Bi K mg)  : FnOk P w K mg base CX0 1 f fd ["stream", "many"] (sp__law_draw K) := by
  refine F.ok sc__law_draw (fun vs H Q E h => ?_) (fun cdv A outer s H vs Q E' hr h => ?_)
  · obtain ⟨s, l, n, rfl, _⟩ := h
    rfl
  · obtain ⟨p, l, n, rfl, hS, hn, hn2, q⟩ := h
    obtain ⟨a, b, m, ns, h1, h2, hlen, ha, hb, hm, hm2⟩ := hS.ex
    have nlp : l ≠ p := fun z => by
      rw [z, h1] at h2
      have h3 := HO.lst.inj (Option.some.inj h2)
      cases ns with
      | nil => cases h3
      | cons x r => cases (List.cons.inj h3).1
    refine ⟨_, (pss_cons (ps_if (pw_and (pt_cmpR op_eq (pe_ix ix_list (pv 0) pe_int (fun _ _ => rfl)) pe_int (nomark _)) (pw_and1 (pt_cmpR op_lt (pe_ix ix_list (pv 0) pe_int (fun _ _ => rfl)) (pe_callB call_len_seq (by rfl) E.b_len PySem.boot_len (pa_cons (pe_ix ix_list (pv 0) pe_int (fun _ _ => rfl)) pa_nil)) (nomark _)))).pt (pss_cons (ps_asg (pe_callB call_abs (by rfl) E.b_abs (by decide +kernel) (pa_cons (pe_callTy call_int1 (by rfl) E.b_int (by decide +kernel) (pa_cons (pe_ix ix_list (pe_ix ix_list (pv 0) pe_int (fun _ _ => rfl)) (pe_ix ix_list (pv 0) pe_int (fun _ _ => rfl)) (fun _ _ => rfl)) pa_nil)) pa_nil)) (pg_sub (pv 0) pe_int set_list))
      (pss_one (ps_asg (pe_op op_add (pe_ix ix_list (pv 0) pe_int (fun _ _ => rfl)) pe_int) (pg_sub (pv 0) pe_int set_list)))) pss_nil)
      (pss_cons (ps_if (pt_cmpR op_eq (pe_ix ix_list (pv 0) pe_int (fun _ _ => rfl)) pe_int (nomark _)) (pss_cons (ps_asg (pe_op op_mod (pe_callTy call_int1 (by rfl) E.b_int (by decide +kernel) (pa_cons (pe_op op_add (pe_op op_mul (pe_ix ix_list (pv 0) pe_int (fun _ _ => rfl)) pe_int) pe_int) pa_nil)) pe_int) (pg_sub (pv 0) pe_int set_list))
      (pss_one (ps_ret (pe_op op_mod (pe_callTy call_int1 (by rfl) E.b_int (by decide +kernel) (pa_cons (pe_op op_fdivW (pe_ix ix_list (pv 0) pe_int (fun _ _ => rfl)) pe_int) pa_nil)) (pv 1))))) pss_nil)
      (pss_cons (ps_set (i := 2) sc__law_draw.nd rfl (Or.inl rfl) (pe_op op_mod (pe_callTy call_int1 (by rfl) E.b_int (by decide +kernel) (pa_cons (pe_ix ix_list (pv 0) pe_int (fun _ _ => rfl)) pa_nil)) (pv 1)))
      (pss_cons (ps_asg (pe_op op_fdivW (pe_ix ix_list (pv 0) pe_int (fun _ _ => rfl)) (pv 1)) (pg_sub (pv 0) pe_int set_list))
      (pss_one (ps_ret (pv 2))))))), ?_⟩
    refine ⟨_, rfl, _, _, _, _, rfl, rfl, SqL.of h1, atI_nat (j := 1) rfl, rfl, _, rfl, ite2 (fun e => ?_) (fun e => ?_)⟩
    · refine ⟨_, rfl, _, _, _, _, rfl, rfl, SqL.of h1, atI_nat (j := 2) rfl, _, rfl, _, _, _, _, rfl, rfl, SqL.of h1, atI_nat (j := 0) rfl, _, _, rfl, .inl (SqL.of h2), _, _, rfl, rfl, _, rfl, ite2 (fun e1 => ?_) (fun e1 => ?_)⟩
      · have e2 : b < (ns.map V.int).length := of_decide_eq_true e1
        rw [List.length_map] at e2
        have hz : (ns.map V.int)[b.toNat]? = some (V.int (ns[b.toNat]'(by omega))) := by
          rw [List.getElem?_map, List.getElem?_eq_getElem (by omega)]
          rfl
        refine ⟨_, rfl, _, _, _, _, rfl, rfl, SqL.of h1, atI_nat (j := 0) rfl, _, rfl, _, _, _, _, rfl, rfl, SqL.of h1, atI_nat (j := 2) rfl, _, _, _, _, rfl, rfl, SqL.of h2, at_of (j := b.toNat) (by omega) hz, .inl ⟨_, rfl, _, rfl, _, rfl, _, _, _, _, rfl, rfl, h1, rfl, ?_⟩⟩
        refine ⟨_, rfl, _, _, _, _, rfl, rfl, SqL.of upd_same, atI_nat (j := 2) rfl, _, _, rfl, rfl, _, rfl, _, _, _, _, rfl, rfl, upd_same, rfl, ?_⟩
        generalize hH : upd _ p _ = H1
        have hX : ∃ a' b' : Int, H1 p = some (.lst [.ref l, .int a', .int b', .int m]) ∧ 0 ≤ a' ∧ 0 ≤ b' := ⟨_, _, by rw [← hH]; exact upd_same, by split <;> omega, by omega⟩
        have hB : But p H H1 := by rw [← hH]; exact But.put.trans But.put
        have hL : H1 l = some (.lst (ns.map V.int)) := hB l _ nlp h2
        clear hH
        obtain ⟨a', b', hX, ha', hb'⟩ := hX
        refine ⟨_, rfl, _, _, _, _, rfl, rfl, SqL.of hX, atI_nat (j := 1) rfl, rfl, _, rfl, ite2 (fun e3 => ?_) (fun e3 => ?_)⟩
        · refine ⟨_, rfl, _, _, _, _, rfl, rfl, SqL.of hX, atI_nat (j := 3) rfl, _, _, rfl, rfl, .inr ⟨by decide, by decide⟩, _, _, rfl, rfl, .inl ⟨_, rfl, _, _, rfl, rfl, (by decide : (0 : Int) < 2147483647), _, rfl, _, _, _, _, rfl, rfl, hX, rfl, ?_⟩⟩
          refine ⟨_, rfl, _, _, _, _, rfl, rfl, SqL.of upd_same, atI_nat (j := 3) rfl, _, _, rfl, rfl, wide_div (b := 64) (by decide) (by decide) (by decide) (by decide), .inl ⟨_, rfl, _, rfl, _, _, rfl, rfl, hn, ?_⟩⟩
          exact q _ _ (Int.emod_nonneg _ (by omega)) (Int.emod_lt_of_pos _ hn) (hB.trans But.put) ⟨a', b', _, ns, upd_same, by rw [upd_ne nlp]; exact hL, hlen, ha', hb', Int.emod_nonneg _ (by decide), Int.emod_lt_of_pos _ (by decide)⟩
        · refine ⟨_, rfl, _, _, _, _, rfl, rfl, SqL.of hX, atI_nat (j := 1) rfl, .inl ⟨_, rfl, _, rfl, _, _, rfl, rfl, hn, ?_⟩⟩
          refine ⟨_, rfl, _, _, _, _, rfl, rfl, SqL.of hX, atI_nat (j := 1) rfl, _, rfl, _, _, rfl, rfl, wide_div hn hn2 (by decide) (by decide), _, rfl, _, _, _, _, rfl, rfl, hX, rfl, ?_⟩
          refine ⟨_, rfl, ?_⟩
          exact q _ _ (Int.emod_nonneg _ (by omega)) (Int.emod_lt_of_pos _ hn) (hB.trans But.put) ⟨_, b', m, ns, upd_same, by rw [upd_ne nlp]; exact hL, hlen, Int.ediv_nonneg ha' (by omega), hb', hm, hm2⟩
      · have hX : ∃ a' b' : Int, H p = some (.lst [.ref l, .int a', .int b', .int m]) ∧ 0 ≤ a' ∧ 0 ≤ b' := ⟨_, _, h1, ha, hb⟩
        have hB : But p H H := But.refl p H
        have hL := h2
        obtain ⟨a', b', hX, ha', hb'⟩ := hX
        refine ⟨_, rfl, _, _, _, _, rfl, rfl, SqL.of hX, atI_nat (j := 1) rfl, rfl, _, rfl, ite2 (fun e3 => ?_) (fun e3 => ?_)⟩
        · refine ⟨_, rfl, _, _, _, _, rfl, rfl, SqL.of hX, atI_nat (j := 3) rfl, _, _, rfl, rfl, .inr ⟨by decide, by decide⟩, _, _, rfl, rfl, .inl ⟨_, rfl, _, _, rfl, rfl, (by decide : (0 : Int) < 2147483647), _, rfl, _, _, _, _, rfl, rfl, hX, rfl, ?_⟩⟩
          refine ⟨_, rfl, _, _, _, _, rfl, rfl, SqL.of upd_same, atI_nat (j := 3) rfl, _, _, rfl, rfl, wide_div (b := 64) (by decide) (by decide) (by decide) (by decide), .inl ⟨_, rfl, _, rfl, _, _, rfl, rfl, hn, ?_⟩⟩
          exact q _ _ (Int.emod_nonneg _ (by omega)) (Int.emod_lt_of_pos _ hn) (hB.trans But.put) ⟨a', b', _, ns, upd_same, by rw [upd_ne nlp]; exact hL, hlen, ha', hb', Int.emod_nonneg _ (by decide), Int.emod_lt_of_pos _ (by decide)⟩
        · refine ⟨_, rfl, _, _, _, _, rfl, rfl, SqL.of hX, atI_nat (j := 1) rfl, .inl ⟨_, rfl, _, rfl, _, _, rfl, rfl, hn, ?_⟩⟩
          refine ⟨_, rfl, _, _, _, _, rfl, rfl, SqL.of hX, atI_nat (j := 1) rfl, _, rfl, _, _, rfl, rfl, wide_div hn hn2 (by decide) (by decide), _, rfl, _, _, _, _, rfl, rfl, hX, rfl, ?_⟩
          refine ⟨_, rfl, ?_⟩
          exact q _ _ (Int.emod_nonneg _ (by omega)) (Int.emod_lt_of_pos _ hn) (hB.trans But.put) ⟨_, b', m, ns, upd_same, by rw [upd_ne nlp]; exact hL, hlen, Int.ediv_nonneg ha' (by omega), hb', hm, hm2⟩
    · have hX : ∃ a' b' : Int, H p = some (.lst [.ref l, .int a', .int b', .int m]) ∧ 0 ≤ a' ∧ 0 ≤ b' := ⟨_, _, h1, ha, hb⟩
      have hB : But p H H := But.refl p H
      have hL := h2
      obtain ⟨a', b', hX, ha', hb'⟩ := hX
      refine ⟨_, rfl, _, _, _, _, rfl, rfl, SqL.of hX, atI_nat (j := 1) rfl, rfl, _, rfl, ite2 (fun e3 => ?_) (fun e3 => ?_)⟩
      · refine ⟨_, rfl, _, _, _, _, rfl, rfl, SqL.of hX, atI_nat (j := 3) rfl, _, _, rfl, rfl, .inr ⟨by decide, by decide⟩, _, _, rfl, rfl, .inl ⟨_, rfl, _, _, rfl, rfl, (by decide : (0 : Int) < 2147483647), _, rfl, _, _, _, _, rfl, rfl, hX, rfl, ?_⟩⟩
        refine ⟨_, rfl, _, _, _, _, rfl, rfl, SqL.of upd_same, atI_nat (j := 3) rfl, _, _, rfl, rfl, wide_div (b := 64) (by decide) (by decide) (by decide) (by decide), .inl ⟨_, rfl, _, rfl, _, _, rfl, rfl, hn, ?_⟩⟩
        exact q _ _ (Int.emod_nonneg _ (by omega)) (Int.emod_lt_of_pos _ hn) (hB.trans But.put) ⟨a', b', _, ns, upd_same, by rw [upd_ne nlp]; exact hL, hlen, ha', hb', Int.emod_nonneg _ (by decide), Int.emod_lt_of_pos _ (by decide)⟩
      · refine ⟨_, rfl, _, _, _, _, rfl, rfl, SqL.of hX, atI_nat (j := 1) rfl, .inl ⟨_, rfl, _, rfl, _, _, rfl, rfl, hn, ?_⟩⟩
        refine ⟨_, rfl, _, _, _, _, rfl, rfl, SqL.of hX, atI_nat (j := 1) rfl, _, rfl, _, _, rfl, rfl, wide_div hn hn2 (by decide) (by decide), _, rfl, _, _, _, _, rfl, rfl, hX, rfl, ?_⟩
        refine ⟨_, rfl, ?_⟩
        exact q _ _ (Int.emod_nonneg _ (by omega)) (Int.emod_lt_of_pos _ hn) (hB.trans But.put) ⟨_, b', m, ns, upd_same, by rw [upd_ne nlp]; exact hL, hlen, Int.ediv_nonneg ha' (by omega), hb', hm, hm2⟩

theorem ok__law_is_variable {f : Addr} {fd : FuncData} (F : Fun K "_law_is_variable" "_law_is_variable" s__law_is_variable f fd) (E : Bi K mg)  : FnOk P w K mg base CX0 1 f fd ["node"] (sp__law_is_variable K) := by
  refine F.ok sc__law_is_variable (fun vs H Q E h => ?_) (fun cdv A outer s H vs Q E' hr h => ?_)
  · obtain ⟨x, d, rfl, _⟩ := h
    rfl
  · obtain ⟨x, d, rfl, hd, ⟨wd, nd⟩, q⟩ := h
    refine ⟨_, (pss_one (ps_ret (pe_and (pe_callB call_isi (by rfl) E.b_isinstance (by decide +kernel) (pa_cons (pv 0) (pa_cons (pe_ty "tuple" (by rfl) E.b_tuple (by decide +kernel)) pa_nil))) (pe_one (pe_cmpR op_eq (pe_ix ix_tup (pv 0) pe_int (fun _ _ => rfl)) pe_str (nomark _)))))), ?_⟩
    refine ⟨x, rfl, _, _, _, _, _, rfl, .ty _, tyx_of hd, kit_ty (kitT _), _, rfl, ?_⟩
    cases nd with
    | v n h1 h2 =>
      cases hd with
      | tup hs ha =>
        obtain ⟨v, hv, hdv⟩ := DpAll.get (i := 0) ha rfl
        cases hdv
        refine iteT ⟨_, rfl, _, _, _, _, rfl, rfl, hs, atI_nat (j := 0) hv, rfl, ?_⟩
        rw [decide_eq_true rfl]
        exact q
    | i n h1 h2 => exact iteF q
    | f y n h1 h2 h3 =>
      cases hd with
      | tup hs ha =>
        obtain ⟨v, hv, hdv⟩ := DpAll.get (i := 0) ha rfl
        cases hdv
        refine iteT ⟨_, rfl, _, _, _, _, rfl, rfl, hs, atI_nat (j := 0) hv, rfl, ?_⟩
        rw [show decide (V.str (Str.ofString "f") = V.str (Str.ofString "v")) = false by decide +kernel]
        exact q

theorem ok__law_end {f : Addr} {fd : FuncData} (F : Fun K "_law_end" "_law_end" s__law_end f fd) (E : Bi K mg)  : FnOk P w K mg base CX0 1 f fd ["term", "start"] (sp__law_end K) := by
  refine F.ok sc__law_end (fun vs H Q E h => ?_) (fun cdv A outer s H vs Q E' hr h => ?_)
  · obtain ⟨x, ds, i, k, rfl, _⟩ := h
    rfl
  · obtain ⟨x, ds, i, k, rfl, hd, hn, hc, q⟩ := h
    refine ⟨_, (pss_cons (ps_set (i := 2) sc__law_end.nd rfl (Or.inl rfl) pe_int)
      (pss_cons (ps_set (i := 3) sc__law_end.nd rfl (Or.inl rfl) (pv 1))
      (pss_cons (ps_while PassesOwn.never (pt_cmpR op_gt (pv 2) pe_int (nomark _)) (pss_cons (ps_if (pw_and (pt_val (pe_callB call_isi (by rfl) E.b_isinstance (by decide +kernel) (pa_cons (pe_ix ix_tup (pv 0) (pv 3) (fun _ _ => rfl)) (pa_cons (pe_ty "tuple" (by rfl) E.b_tuple (by decide +kernel)) pa_nil)))) (pw_and1 (pt_cmpR op_eq (pe_ix ix_tup (pe_ix ix_tup (pv 0) (pv 3) (fun _ _ => rfl)) pe_int (fun _ _ => rfl)) pe_str (nomark _)))).pt (pss_one (ps_set (i := 2) sc__law_end.nd rfl (Or.inl rfl) (pe_op op_add (pv 2) (pe_ix ix_tup (pe_ix ix_tup (pv 0) (pv 3) (fun _ _ => rfl)) pe_int (fun _ _ => rfl))))) pss_nil)
      (pss_cons (ps_set (i := 2) sc__law_end.nd rfl (Or.inl rfl) (pe_op op_sub (pv 2) pe_int))
      (pss_one (ps_set (i := 3) sc__law_end.nd rfl (Or.inl rfl) (pe_op op_add (pv 3) pe_int))))))
      (pss_one (ps_ret (pv 3)))))), ?_⟩
    obtain ⟨a, xs, rfl, hs, ha⟩ := dp_tup hd
    have hxl := DpAll.len ha
    refine st_of (σ := [some _, some _, none, none]) rfl ?_
    walk_at "go"
    refine while_m (fun n σ H' => ∃ (m j kk : Nat), σ = [some (.ref a), some (.int (i : Int)), some (.int (m : Int)), some (.int (j : Int))] ∧ H' = H ∧ Cls kk (ds.drop j) ∧ m ≤ kk ∧ j + tk m (ds.drop j) = i + tk 1 (ds.drop i) ∧ n = ds.length - j)
      ⟨_, 1, i, k + 1, rfl, rfl, hc, by omega, rfl, rfl⟩ ?_
    rintro n σ H1 ⟨m, j, kk, rfl, rfl, h1, h2, h3, rfl⟩
    walk_at "go"
    refine ite2 (fun e => ?_) (fun e => ?_)
    · have hm : 0 < m := by
        have := of_decide_eq_true e
        omega
      cases hl : ds.drop j with
      | nil =>
        rw [hl] at h1
        have : kk = 0 := h1
        omega
      | cons d r =>
        rw [hl] at h1 h3
        have hj : j < ds.length := by
          rcases Nat.lt_or_ge j ds.length with h | h
          · exact h
          · rw [List.drop_of_length_le h] at hl; cases hl
        have hdj : ds[j]? = some d := by
          rw [← List.head?_drop, hl]
          rfl
        have hrd : ds.drop (j + 1) = r := by
          rw [← List.drop_drop, hl]
          rfl
        obtain ⟨v, hv, hdv⟩ := DpAll.get ha hdj
        have hnd := hn d (List.mem_of_getElem? hdj)
        refine while_n ?_
        walk_at "gs"
        have fin : ∀ z : Int, z = ((m + arN d : Nat) : Int) - 1 → ∃ m', m' < ds.length - j ∧ ∃ (m2 j2 k2 : Nat), [some (V.ref a), some (V.int (i : Int)), some (V.int z), some (V.int ((j : Int) + 1))] = [some (.ref a), some (.int (i : Int)), some (.int (m2 : Int)), some (.int (j2 : Int))] ∧ H1 = H1 ∧ Cls k2 (ds.drop j2) ∧ m2 ≤ k2 ∧ j2 + tk m2 (ds.drop j2) = i + tk 1 (ds.drop i) ∧ m' = ds.length - j2 := fun z hz => by
          refine ⟨ds.length - (j + 1), by omega, m + arN d - 1, j + 1, kk - 1 + arN d, ?_, rfl, by rw [hrd]; exact h1.2, by omega, ?_, rfl⟩
          · rw [hz, show ((m + arN d - 1 : Nat) : Int) = ((m + arN d : Nat) : Int) - 1 by omega]
            rfl
          · rw [tk_cons hm] at h3
            rw [hrd, show m + arN d - 1 = m - 1 + arN d by omega]
            omega
        refine ifc (isSymN d) (fun QT hQ => ?_) (fun hA => ?_) (fun hB => ?_)
        · walk_at "go"
          refine ixT (j := j) hs hv ?_
          walk_at "go"
          refine isi_tup hdv ?_
          walk_at "go"
          obtain ⟨wd, nn⟩ := id hnd
          cases nn with
          | i n h1 h2 =>
            walk_at "go"
            exact iteF hQ
          | f y n h1 h2 h3 =>
            obtain ⟨b, xs', rfl, sq, ax'⟩ := dp_tup hdv
            obtain ⟨w0, hw0, dw0⟩ := DpAll.get (i := 0) ax' rfl
            cases dw0
            walk_at "go"
            refine iteT ?_
            walk_at "go"
            refine ixT (j := j) hs hv ?_
            walk_at "go"
            refine ixT (j := 0) sq hw0 ?_
            walk_at "go"
            exact hQ
          | v n h1 h2 =>
            obtain ⟨b, xs', rfl, sq, ax'⟩ := dp_tup hdv
            obtain ⟨w0, hw0, dw0⟩ := DpAll.get (i := 0) ax' rfl
            cases dw0
            walk_at "go"
            refine iteT ?_
            walk_at "go"
            refine ixT (j := j) hs hv ?_
            walk_at "go"
            refine ixT (j := 0) sq hw0 ?_
            walk_at "go"
            exact hQ
        · obtain ⟨y, n, rfl, n0⟩ := sym_num hnd hA
          obtain ⟨b, xs', rfl, sq, ax'⟩ := dp_tup hdv
          obtain ⟨w2, hw2, dw2⟩ := DpAll.get (i := 2) ax' rfl
          cases dw2
          walk_at "go"
          refine ixT (j := j) hs hv ?_
          walk_at "go"
          refine ixT (j := 2) sq hw2 ?_
          walk_at "go"
          exact fin _ (by show (m : Int) + n - 1 = ((m + n.toNat : Nat) : Int) - 1; omega)
        · walk_at "go"
          exact fin ((m : Int) - 1) (by rw [sym_zero hnd hB, Nat.add_zero])
    · have hm : m = 0 := by
        cases m with
        | zero => rfl
        | succ m => exact absurd (decide_eq_true (by omega)) e
      subst hm
      rw [tk_zero] at h3
      rw [← h3] at q
      walk_at "go"
      exact q

theorem ok__law_joined {f : Addr} {fd : FuncData} (F : Fun K "_law_joined" "_law_joined" s__law_joined f fd) (E : Bi K mg)  : FnOk P w K mg base CX0 1 f fd ["goals"] (sp__law_joined K) := by
  refine F.ok sc__law_joined (fun vs H Q E h => ?_) (fun cdv A outer s H vs Q E' hr h => ?_)
  · obtain ⟨a, ys, rows, rfl, _⟩ := h
    rfl
  · obtain ⟨a, ys, rows, rfl, ea, dy, ok, ne, hl, q⟩ := h
    refine ⟨_, (pss_cons (ps_set (i := 1) sc__law_joined.nd rfl (Or.inl rfl) (pe_ix ix_list (pv 0) (pe_op op_sub (pe_callB call_len_seq (by rfl) E.b_len PySem.boot_len (pa_cons (pv 0) pa_nil)) pe_int) (fun _ _ => rfl)))
      (pss_cons (ps_for PassesOwn.never rfl (pi_range1 (by rfl) E.b_range (pa_cons (pe_op op_sub (pe_callB call_len_seq (by rfl) E.b_len PySem.boot_len (pa_cons (pv 0) pa_nil)) pe_int) pa_nil)) (pg_name (i := 2) sc__law_joined.nd rfl (Or.inl rfl)) (pss_one (ps_set (i := 1) sc__law_joined.nd rfl (Or.inl rfl) (pe_op op_catA (pe_op op_catA (pe_tup (pa_cons (pe_tup (pa_cons pe_str (pa_cons pe_str (pa_cons pe_int pa_nil)))) pa_nil)) (pe_ix ix_list (pv 0) (pe_op op_sub (pe_op op_sub (pe_callB call_len_seq (by rfl) E.b_len PySem.boot_len (pa_cons (pv 0) pa_nil)) pe_int) (pv 2)) (fun _ _ => rfl))) (pv 1)))))
      (pss_one (ps_ret (pv 1))))), ?_⟩
    refine st_of (σ := [some _, none, none]) rfl ?_
    walk_at "go"
    have ly := DpAll.len dy
    rw [List.length_map] at ly
    have lp := List.length_pos_iff.mpr ne
    refine ⟨a, ys, rfl, .inl (SqL.of ea), ?_⟩
    walk_at "go"
    obtain ⟨n, hn⟩ : ∃ n, rows.length = n + 1 := ⟨rows.length - 1, by omega⟩
    have hlast : rows[n]? = some rows[n] := List.getElem?_eq_getElem (by omega)
    obtain ⟨v0, hv0, dv0⟩ := DpAll.get (i := n) dy (by rw [List.getElem?_map, hlast]; rfl)
    show rIxL K (.ref a) (.int ((ys.length : Int) - 1)) H _
    rw [show (ys.length : Int) - 1 = ((n : Nat) : Int) by omega]
    refine ixL (j := n) (SqL.of ea) hv0 ?_
    walk_at "go"
    refine ⟨a, ys, rfl, .inl (SqL.of ea), ?_⟩
    walk_at "go"
    have en : ((ys.length : Int) - 1).toNat = n := by omega
    have dn : rows.drop n = [rows[n]] := by rw [List.drop_eq_getElem_cons (by omega), List.drop_of_length_le (by omega)]
    refine ⟨_, rfl, by omega, by omega, for_range (lo := 0) (n := ((ys.length : Int) - 1).toNat) (fun i σ H' => ∃ (v : V) (vk : Option V), σ = [some (.ref a), some v, vk] ∧ Same H H' ∧ Dp K H' v (.tuple (joinM (rows.drop (n - i)))))
      ⟨v0, none, rfl, Same.refl H, by rw [Nat.sub_zero, dn]; exact dv0⟩ ?_ ?_⟩
    · rintro i σ H1 hi ⟨v, vk, rfl, s1, d1⟩
      rw [en] at hi
      rw [Int.zero_add]
      have hk : rows[n - 1 - i]? = some rows[n - 1 - i] := List.getElem?_eq_getElem (by omega)
      have ed : rows.drop (n - (i + 1)) = rows[n - 1 - i] :: rows.drop (n - i) := by
        rw [show n - (i + 1) = n - 1 - i by omega, List.drop_eq_getElem_cons (by omega), show n - 1 - i + 1 = n - i by omega]
      have neD : rows.drop (n - i) ≠ [] := List.length_pos_iff.mp (by rw [List.length_drop]; omega)
      have okD : OkRs (rows.drop (n - i)) := fun r hr => ok r (List.mem_of_mem_drop hr)
      have okk := ok _ (List.mem_of_getElem? hk)
      have lD := join_len okD
      rw [List.length_drop] at lD
      have lk := okk.2.2.1
      obtain ⟨vk', hvk, dvk⟩ := DpAll.get (i := n - 1 - i) dy (by rw [List.getElem?_map, hk]; rfl)
      walk_at "go"
      refine newN (n := 3) rfl (by decide) fun P1 nP1 => ?_
      have sP1 := same_upd (o := .tup [V.str (Str.ofString "f"), V.str (Str.ofString ","), V.int 2]) nP1
      walk_at "go"
      refine newN (n := 1) rfl (by decide) fun P2 nP2 => ?_
      have sP2 := same_upd (o := .tup [V.ref P1]) nP2
      have sPP := sP1.trans sP2
      walk_at "go"
      have dP : Dp K (upd (upd H1 P1 (.tup [V.str (Str.ofString "f"), V.str (Str.ofString ","), V.int 2])) P2 (.tup [V.ref P1])) (.ref P2) (.tuple [commaN]) := .tup (SqT.of upd_same) (.cons (.tup (SqT.of (sP2 _ _ upd_same)) (.cons (.str _) (.cons (.str _) (.cons (.int _) .nil)))) .nil)
      refine ⟨a, ys, rfl, .inl (SqL.of (sPP _ _ (s1 _ _ ea))), ?_⟩
      walk_at "go"
      show rIxL K (.ref a) (.int ((ys.length : Int) - 2 - (i : Int))) _ _
      rw [show (ys.length : Int) - 2 - (i : Int) = ((n - 1 - i : Nat) : Int) by omega]
      refine ixL (j := n - 1 - i) (SqL.of (sPP _ _ (s1 _ _ ea))) hvk ?_
      refine cat_dpA dP (dp_same (s1.trans sPP) _ _ dvk) (by rw [List.length_singleton]; omega) fun v3 H3 s3 d3 => ?_
      walk_at "go"
      refine cat_dpA d3 (dp_same (sPP.trans s3) _ _ d1) (by rw [List.length_append, List.length_singleton]; omega) fun v4 H4 s4 d4 => ?_
      walk_at "go"
      refine ⟨_, _, rfl, s1.trans (sPP.trans (s3.trans s4)), ?_⟩
      rw [ed, join_cons neD]
      rw [List.append_assoc] at d4
      exact d4
    · rintro σ H1 ⟨v, vk, rfl, s1, d1⟩
      rw [en, Nat.sub_self, List.drop_zero] at d1
      walk_at "go"
      exact q v H1 s1 d1

theorem ok_arity_of {f : Addr} {fd : FuncData} (F : Fun K "arity_of" "arity_of" s_arity_of f fd) (E : Bi K mg) (D_is_symbol : Has P w K mg base 1 "is_symbol" ["node"] (sp_is_symbol K)) : FnOk P w K mg base CX0 2 f fd ["node"] (sp_arity_of K) := by
  obtain ⟨f_is_symbol, fd_is_symbol, G_is_symbol, g_is_symbol, kp_is_symbol, b_is_symbol⟩ := D_is_symbol
  refine F.ok sc_arity_of (fun vs H Q E h => ?_) (fun cdv A outer s H vs Q E' hr h => ?_)
  · obtain ⟨x, d, rfl, _⟩ := h
    rfl
  · obtain ⟨x, d, rfl, hd, hn, q⟩ := h
    refine ⟨_, (pss_one (ps_ret (pe_ifExp (pt_val (pe_call G_is_symbol (hr.mono (by decide)) (by rfl) g_is_symbol kp_is_symbol b_is_symbol .nil pass0 (pa_cons (pv 0) pa_nil))) (pe_ix ix_tup (pv 0) pe_int (fun _ _ => rfl)) pe_int))), ?_⟩
    refine st_of (σ := [some _]) rfl ?_
    walk_at "go"
    refine ⟨x, d, rfl, hd, hn, ?_⟩
    obtain ⟨wd, nd⟩ := id hn
    cases nd with
    | v n h1 h2 =>
      walk_at "go"
      exact q
    | i n h1 h2 =>
      walk_at "go"
      exact q
    | f y n h1 h2 h3 =>
      cases hd with
      | tup hs ha =>
      obtain ⟨v, hv, hdv⟩ := DpAll.get (i := 2) ha rfl
      cases hdv
      rw [show isSymN (.tuple [.str "f", .str y, .int n]) = true from rfl]
      walk_at "go"
      refine ixT (j := 2) hs hv ?_
      have e : ((arN (.tuple [.str "f", .str y, .int n]) : Nat) : Int) = n := Int.toNat_of_nonneg h2
      rw [e] at q
      exact q

theorem ok_renumber {f : Addr} {fd : FuncData} (F : FunD K "renumber" "renumber" (defArgs s_renumber) (defBody s_renumber) (defScope s_renumber) [V.int 0] [] f fd) (E : Bi K mg) (D_is_variable : Has P w K mg base 1 "is_variable" ["node"] (sp_is_variable K)) : FnOk P w K mg base CX0 2 f fd ["term", "first"] (sp_renumber K) := by
  obtain ⟨f_is_variable, fd_is_variable, G_is_variable, g_is_variable, kp_is_variable, b_is_variable⟩ := D_is_variable
  refine F.ok sc_renumber (fun vs H Q E h => ?_) (fun cdv A outer s H vs Q E' hr h => ?_)
  · obtain ⟨x, ds, f, rfl, _⟩ := h
    rfl
  · obtain ⟨x, ds, f, rfl, hx, hn, hl, q⟩ := h
    refine ⟨_, (PSs.nox (pss_cons (ps_set (i := 2) sc_renumber.nd rfl (Or.inl rfl) pe_dnewK)
      (pss_cons (ps_set (i := 3) sc_renumber.nd rfl (Or.inl rfl) (pe_lst pa_nil))
      (pss_cons (ps_for PassesOwn.never rfl (pi_list (pv 0)) (pg_name (i := 4) sc_renumber.nd rfl (Or.inl rfl)) (pss_one (ps_if (pt_val (pe_call G_is_variable (hr.mono (by decide)) (by rfl) g_is_variable kp_is_variable b_is_variable .nil pass0 (pa_cons (pv 4) pa_nil))) (pss_cons (ps_if (pt_cmp (pc_dnotin (hu_of hr) (pe_ix ix_tup (pv 4) pe_int (fun _ _ => rfl)) (pv 2))) (pss_one (ps_dput (hu_of hr) (pv 2) (pe_ix ix_tup (pv 4) pe_int (fun _ _ => rfl)) (pe_tup (pa_cons pe_str (pa_cons (pe_op op_add (pv 1) (pe_callB call_lenD (by rfl) E.b_len PySem.boot_len (pa_cons (pv 2) pa_nil))) pa_nil))) (by rfl))) pss_nil)
      (pss_one (ps_expr (pe_bm PySem.F.plainAttrs_list PySem.F.slot_list_append PySem.F.type_list_append mt_append (pv 3) (pa_cons (pe_dget (hu_of hr) (pv 2) (pe_ix ix_tup (pv 4) pe_int (fun _ _ => rfl)) (fun _ _ => rfl)) pa_nil))))) (pss_one (ps_expr (pe_bm PySem.F.plainAttrs_list PySem.F.slot_list_append PySem.F.type_list_append mt_append (pv 3) (pa_cons (pv 4) pa_nil)))))))
      (pss_one (ps_ret (pe_callTy call_tuple_of (by rfl) E.b_tuple (by decide +kernel) (pa_cons (pv 3) pa_nil)))))))), ?_⟩
    refine seq_asg ?_
    refine fun d nd => ?_
    refine gname (seq_asg ?_)
    have s00 : Same H (upd H d (.dK [])) := same_upd nd
    refine ⟨Nat.zero_le _, fun r nr => ?_⟩
    refine gname (seq_any ?_)
    have nrH : H r = Option.none := s00.free nr
    have dr : d ≠ r := fun z => by rw [z, upd_same] at nr; cases nr
    have s0 : Same H (upd (upd H d (.dK [])) r (.lst [])) := s00.trans (same_upd nr)
    have put : ∀ {H1 : Hp} {o : HO}, Same H H1 → Same H (upd H1 r o) := fun {H1 o} s1 b u e => by rw [upd_ne (ne_of_none e nrH)]; exact s1 b u e
    have putd : ∀ {H1 : Hp} {o : HO}, Same H H1 → Same H (upd H1 d o) := fun {H1 o} s1 b u e => by rw [upd_ne (ne_of_none e nd)]; exact s1 b u e
    cases id hx with
    | @lst a xs _ hs ha =>
    have hxl := DpAll.len ha
    have gnd : ∀ (n : Int), noL (.tuple [.str "v", .int n]) = true := fun n => by simp [noL, noLA]
    have noA : ∀ i, noLA ((ds.take i).map (mapD fun n => f + ((nums ds).idxOf n : Nat))) = true := by
      intro i
      have : ∀ l : List PyData, (∀ d ∈ l, NdA d) → noLA (l.map (mapD fun n => f + ((nums ds).idxOf n : Nat))) = true := by
        intro l
        induction l with
        | nil => intro _; simp [noLA]
        | cons d r ih =>
          intro h
          rw [List.map_cons, noLA, ih fun x hx => h x (List.mem_cons_of_mem _ hx), Bool.and_true]
          unfold mapD
          split
          · exact gnd _
          · exact nd_noL (h d List.mem_cons_self)
      exact this _ fun x hx => hn x (List.mem_of_mem_take hx)
    refine ⟨_, rfl, a, rfl, ⟨_, same_sqL s0 hs⟩, for_list (K := K) (a := a) (xs := xs) (fun i σ H' => ∃ (vn : Option V) (kvs : List (Key × V)) (ys : List V), σ = [some (.ref a), some (.int f), some (.ref d), some (.ref r), vn] ∧ Same H H' ∧ H' d = some (.dK kvs) ∧ H' r = some (.lst ys) ∧ Given K H' f (nums (ds.take i)) kvs ∧ DpAll K H' ys ((ds.take i).map (mapD fun n => f + ((nums ds).idxOf n : Nat))) ∧ ys.length = i)
      ⟨none, [], [], rfl, s0, by rw [upd_ne dr, upd_same], upd_same, ⟨rfl, (fun n hn => nomatch hn), fun n _ => rfl⟩, .nil, rfl⟩ (fun i σ H' _ ⟨_, _, _, _, e, _⟩ => same_sqL e hs) ?_ ?_⟩
    · rintro i y σ H1 hi ⟨vn, kvs, ys, rfl, s1, h1, h2, h3, h4, h5⟩
      obtain ⟨e, hd, dy0⟩ := DpAll.getV ha hi
      have ndd := hn e (List.mem_of_getElem? hd)
      have dy := dp_same s1 _ _ dy0
      have hil := (List.getElem?_eq_some_iff.mp hd).1
      have hnl := nums_len (ds.take i)
      rw [List.length_take] at hnl
      have hkl := h3.len
      refine gname ?_
      refine ⟨_, rfl, y, e, rfl, dy, ndd, _, rfl, ite2 (fun v => ?_) (fun v => ?_)⟩
      · obtain ⟨n, rfl⟩ := var_form ndd v
        have hmem := nums_mem hd v
        have hidx := idx_pre hmem
        rw [nums_take hd] at hmem hidx
        cases id dy0 with
        | @tup c zs _ hz0 az =>
        have hz := same_sqT s1 hz0
        obtain ⟨v2, hv2, dv2⟩ := DpAll.get (i := 1) az rfl
        cases dv2
        refine seq_via (fun σ H' => ∃ (kvs : List (Key × V)), σ = [some (.ref a), some (.int f), some (.ref d), some (.ref r), some (.ref c)] ∧ Same H H' ∧ H' d = some (.dK kvs) ∧ H' r = some (.lst ys) ∧ Given K H' f (numS (nums (ds.take i)) (.tuple [.str "v", .int n])) kvs ∧ DpAll K H' ys ((ds.take i).map (mapD fun n => f + ((nums ds).idxOf n : Nat)))) ?_ (fun go => ?_)
        · rintro σ H2 ⟨kvs, rfl, s2, g1, g2, g3, g4⟩
          obtain ⟨w, w1, w2⟩ := g3.old n hmem
          have hz2 := same_sqT s2 hz0
          have gg : DGet H2 d (.int n) (some w) := by
            have := DGet.k (k := Sum.inl n) g1
            rw [w1] at this
            exact this
          have nt : notTup H2 r := .inl ⟨_, g2⟩
          refine ⟨_, rfl, .inl ⟨rfl, _, SqL.of g2⟩, _, rfl, _, rfl, _, _, _, _, rfl, rfl, hz2, atI_nat (j := 1) hv2, d, _, rfl, gg, _, _, _, rfl, rfl, g2, Nat.lt_of_le_of_lt (show _ ≤ 1000000 by omega) (by decide), ?_⟩
          refine ⟨_, kvs, _, rfl, put s2, by rw [upd_ne dr]; exact g1, upd_same, ?_, ?_, by rw [List.length_append, h5]; rfl⟩
          · rw [nums_take hd]
            exact g3.mono fun v n hv => dp_put nt _ _ (gnd n) hv
          · rw [List.take_add_one, hd, List.map_append]
            refine DpAll.app (dp_putAll nt _ _ (noA i) g4) (.cons ?_ .nil)
            show Dp K _ w (.tuple [.str "v", .int (f + ((nums ds).idxOf n : Nat))])
            have hidx2 : (nums ds).idxOf n = (numS (nums (ds.take i)) (.tuple [.str "v", .int n])).idxOf n := hidx
            rw [hidx2]
            exact dp_put nt _ _ (gnd _) w2
        · refine ⟨_, rfl, _, _, _, _, rfl, rfl, hz, atI_nat (j := 1) hv2, _, rfl, d, _, rfl, DGet.k (k := Sum.inl n) h1, _, rfl, ?_⟩
          by_cases hm : n ∈ nums (ds.take i)
          · obtain ⟨w, w1, w2⟩ := h3.old n hm
            rw [w1]
            refine iteF (go _ _ ⟨kvs, rfl, s1, h1, h2, ?_, h4⟩)
            rw [numS_old (d := .tuple [.str "v", .int n]) hm]
            exact h3
          · rw [h3.new n hm]
            refine iteT ?_
            refine ⟨_, rfl, _, rfl, _, _, rfl, h1, _, _, rfl, rfl, (by show 2 ≤ sizeLine; decide), fun p np => ?_⟩
            have dp : d ≠ p := ne_of_none h1 np
            have rp : r ≠ p := ne_of_none h2 np
            have cz := same_sqT (same_upd (o := .tup [.str "v", .int (f + (kvs.length : Int))]) np) hz
            have e1 : (upd H1 p (.tup [.str "v", .int (f + (kvs.length : Int))])) d = some (.dK kvs) := by rw [upd_ne dp]; exact h1
            have nt : notTup (upd H1 p (.tup [.str "v", .int (f + (kvs.length : Int))])) d := .inr (.inl ⟨_, e1⟩)
            refine ⟨_, rfl, _, rfl, _, _, _, _, rfl, rfl, cz, atI_nat (j := 1) hv2, d, _, rfl, DPut.k (k := Sum.inl n) e1 (Nat.lt_of_le_of_lt (show _ ≤ 1000000 by omega) (by decide)), ?_⟩
            refine go _ _ ⟨_, rfl, putd (s1.trans (same_upd np)), upd_same, by rw [upd_ne dr.symm, upd_ne rp]; exact h2, ?_, ?_⟩
            · rw [numS_new (d := .tuple [.str "v", .int n]) rfl hm]
              refine Given.put (h3.mono fun v n hv => dp_put nt _ _ (gnd n) (dp_same (same_upd np) _ _ hv)) hm (dp_put nt _ _ (gnd _) ?_)
              rw [← hkl]
              exact .tup (SqT.of upd_same) (.cons (.str _) (.cons (.int _) .nil))
            · exact dp_putAll nt _ _ (noA i) (dp_sameAll (same_upd np) _ _ h4)
      · refine ⟨_, rfl, .inl ⟨rfl, _, SqL.of h2⟩, _, rfl, _, _, _, rfl, rfl, h2, Nat.lt_of_le_of_lt (show _ ≤ 1000000 by omega) (by decide), ?_⟩
        have nt : notTup H1 r := .inl ⟨_, h2⟩
        refine ⟨_, kvs, _, rfl, put s1, by rw [upd_ne dr]; exact h1, upd_same, ?_, ?_, by rw [List.length_append, h5]; rfl⟩
        · rw [nums_take hd, numS_non v]
          exact h3.mono fun v n hv => dp_put nt _ _ (gnd n) hv
        · rw [List.take_add_one, hd, List.map_append]
          refine DpAll.app (dp_putAll nt _ _ (noA i) h4) (.cons ?_ .nil)
          show Dp K _ y (mapD _ e)
          unfold mapD
          rw [if_neg v]
          exact dp_put nt _ _ (nd_noL ndd) dy
    · rintro σ H1 ⟨vn, kvs, ys, rfl, s1, h1, h2, h3, h4, h5⟩
      rw [hxl, List.take_length] at h4
      refine nxp ?_
      refine ⟨_, rfl, _, _, rfl, .inl ⟨SqL.of h2, fun u nu => ?_⟩⟩
      exact q _ _ (s1.trans (same_upd nu)) (.tup (SqT.of upd_same) (dp_sameAll (same_upd nu) _ _ h4))

theorem ok_next_number {f : Addr} {fd : FuncData} (F : Fun K "next_number" "next_number" s_next_number f fd) (E : Bi K mg) (D_is_variable : Has P w K mg base 1 "is_variable" ["node"] (sp_is_variable K)) : FnOk P w K mg base CX0 2 f fd ["terms"] (sp_next_number K) := by
  obtain ⟨f_is_variable, fd_is_variable, G_is_variable, g_is_variable, kp_is_variable, b_is_variable⟩ := D_is_variable
  refine F.ok sc_next_number (fun vs H Q E h => ?_) (fun cdv A outer s H vs Q E' hr h => ?_)
  · obtain ⟨a, ts, rfl, _⟩ := h
    rfl
  · obtain ⟨a, ts, rfl, ⟨xs, hs, ha⟩, nd, sz, hl, q⟩ := h
    refine ⟨_, (pss_one (ps_ret (pe_callBK (cr_maxD0 rfl (units150 hr)) (by rfl) E.b_max (by decide +kernel) (pa_cons (pe_lc2 (own := [("term", 1), ("node", 2)]) (vs1 := [2]) (g := gName 1) (g1 := gName 2) (tt := tYes) rfl sc_next_number.nd (pi_list (pv 0)) (blkOk_by (N := N_next_number) (sc := defScope s_next_number) (by decide +kernel)) (by decide) (fun _ _ _ _ _ => pg_name (i := 1) sc_next_number.nd rfl (Or.inl rfl)) (fun _ _ _ _ _ => pts_nil) (fun _ _ _ _ _ => (show PI _ _ _ (iTup K _) from pi_tup (pv 1))) (fun _ _ _ _ _ => pg_name (i := 2) sc_next_number.nd rfl (Or.inl rfl)) (fun _ _ _ _ _ => pts_one (pt_val (pe_call G_is_variable (hr.mono (by decide)) (by rfl) g_is_variable kp_is_variable b_is_variable .nil pass0 (pa_cons (pv 2) pa_nil)))) (fun _ _ _ _ _ => (pe_op op_add (pe_ix (show IxR _ (rIxT K) from ix_tup) (pv 2) pe_int (fun _ _ => rfl)) pe_int))) pa_nil) (pk_cons pe_int pk_nil)))), ?_⟩
    refine st_of (σ := [some _, none, none]) rfl ?_
    walk_at "go"
    have lx := DpAll.len ha
    rw [List.length_map] at lx
    have flen : ∀ i, ((ts.take i).flatten).length ≤ 100000 := fun i => Nat.le_trans (szT_le ts i) sz
    refine g_lc2 ?_
    walk_at "go"
    refine ⟨a, rfl, ⟨_, hs⟩, fun D nD => ?_⟩
    refine walk_gen (n := xs.length) walk_list (fun i H' => Same H H' ∧ H' D = some (.lst ((nxL (ts.take i).flatten).map V.int))) ⟨same_upd nD, upd_same⟩ (fun i H' _ h => same_sqL h.1 hs) ?_ ?_
    · rintro i z H1 H2 hi ⟨s1, e1⟩ ⟨rfl, hz⟩
      rw [lx] at hi
      have ht := List.getElem?_eq_getElem hi
      obtain ⟨dd, hd, dz0⟩ := DpAll.getV ha hz
      rw [List.getElem?_map, ht] at hd
      cases hd
      generalize ts[i] = t at ht dz0
      obtain ⟨pz, ws, rfl, sz2, az⟩ := dp_tup dz0
      have lw := DpAll.len az
      walk_at "wp"
      walk_at "go"
      refine ⟨rfl, ?_⟩
      walk_at "go"
      refine ⟨pz, rfl, ⟨_, same_sqT s1 sz2⟩, ?_⟩
      refine walk_gen (n := ws.length) walk_tup (fun j H' => Same H H' ∧ H' D = some (.lst ((nxL ((ts.take i).flatten ++ t.take j)).map V.int))) ⟨s1, by rw [List.take_zero, List.append_nil]; exact e1⟩ (fun j H' _ h => same_sqT h.1 sz2) ?_ ?_
      · rintro j z H3 H4 hj ⟨s3, e3⟩ ⟨rfl, hz2⟩
        obtain ⟨d, hd2, dz2⟩ := DpAll.getV az hz2
        have ndd := nd t (List.mem_of_getElem? ht) d (List.mem_of_getElem? hd2)
        have f1 := flen (i + 1)
        rw [flat_take ht, List.length_append] at f1
        have l1 := nxL_len ((ts.take i).flatten ++ t.take j)
        rw [List.length_append, List.length_take] at l1
        walk_at "wp"
        walk_at "go"
        refine ⟨rfl, ?_⟩
        walk_at "go"
        refine ⟨z, d, rfl, dp_same s3 _ _ dz2, ndd, ?_⟩
        walk_at "go"
        rw [List.take_add_one, hd2, ← List.append_assoc, nxL_app _ (some d).toList]
        refine ite2 (fun v => ?_) (fun v => ?_)
        · obtain ⟨n, n0, rfl⟩ := var_num ndd v
          obtain ⟨b, ws2, rfl, sq, aq⟩ := dp_tup (dp_same s3 _ _ dz2)
          obtain ⟨w1, hw1, dw1⟩ := DpAll.get (i := 1) aq rfl
          cases dw1
          walk_at "go"
          refine ixT (j := 1) sq hw1 ?_
          walk_at "go"
          refine ⟨_, e3, Nat.lt_of_le_of_lt (show _ ≤ 1000000 by rw [List.length_map]; omega) (by decide), same_new nD s3, ?_⟩
          rw [upd_same, List.map_append]
          rfl
        · refine ⟨s3, ?_⟩
          rw [show nxL (some d).toList = [] by unfold nxL; simp [v], List.append_nil]
          exact e3
      · rintro H3 ⟨s3, e3⟩
        rw [lw, List.take_length, ← flat_take ht] at e3
        exact ⟨s3, e3⟩
    · rintro H1 ⟨s1, e1⟩
      rw [lx, List.take_length] at e1
      walk_at "go"
      refine ⟨D, _, _, rfl, rfl, SqL.of e1, fun e => ?_, fun m h1 h2 => ?_⟩
      · rw [← nxL_none nd.flat e]
        exact q _ s1
      · rw [nxL_max nd.flat h1 h2]
        exact q _ s1

theorem ok_Side_add_variables {f : Addr} {fd : FuncData} (F : Fun K "add_variables" "Side.add_variables" s_Side_add_variables f fd) (E : Bi K mg) (D_is_variable : Has P w K mg base 1 "is_variable" ["node"] (sp_is_variable K)) : FnOk P w K mg base CX0 2 f fd ["self", "term", "times"] (sp_Side_add_variables K) := by
  obtain ⟨f_is_variable, fd_is_variable, G_is_variable, g_is_variable, kp_is_variable, b_is_variable⟩ := D_is_variable
  refine F.ok sc_Side_add_variables (fun vs H Q E h => ?_) (fun cdv A outer s H vs Q E' hr h => ?_)
  · obtain ⟨p, r, c, n, x, ds, t, f, m, rfl, _⟩ := h
    rfl
  · obtain ⟨p, r, c, n, x, ds, t, f, m, rfl, hs, hc, dx, nd, t0, hm, ht, q⟩ := h
    refine ⟨_, (pss_one (ps_for PassesOwn.never rfl (pi_tup (pv 1)) (pg_name (i := 3) sc_Side_add_variables.nd rfl (Or.inl rfl)) (pss_one (ps_if (pt_val (pe_call G_is_variable (hr.mono (by decide)) (by rfl) g_is_variable kp_is_variable b_is_variable .nil pass0 (pa_cons (pv 3) pa_nil))) (pss_one (ps_dput (hu_of hr) (pe_fld (pv 0) rfl) (pe_ix ix_tup (pv 3) pe_int (fun _ _ => rfl)) (pe_op op_add (pe_dget2 (hu_of hr) (pe_fld (pv 0) rfl) (pe_ix ix_tup (pv 3) pe_int (fun _ _ => rfl)) pe_int ⟨by rfl, by rfl, by rfl, by rfl⟩) (pv 2)) (by rfl))) pss_nil)))), ?_⟩
    refine st_of (σ := [some _, some _, some _, none]) rfl ?_
    walk_at "go"
    obtain ⟨dx0, hp⟩ := hs.ob
    obtain ⟨kvs, hc0, hct, hcl⟩ := hc.at_
    have pc : p ≠ c := ne_of hp hc0 (by intro z; cases z)
    have nt : notTup H c := .inr (.inl ⟨_, hc0⟩)
    cases id dx with
    | @tup a xs _ sx ax =>
    have lx := DpAll.len ax
    refine ⟨a, rfl, ⟨_, sx⟩, for_tup (K := K) (a := a) (xs := xs) (fun i σ H' => ∃ (v3 : Option V), σ = [some (.ref p), some (.ref a), some (.int t), v3] ∧ CntA H' c (fun n => f n + t.toNat * cntN n (ds.take i)) (m + i) ∧ But c H H')
      ⟨none, rfl, ⟨kvs, hc0, by simpa [cntN] using hct, hcl⟩, But.refl c H⟩ (fun i σ H' _ ⟨_, _, _, b⟩ => sqT_but nt b sx) ?_ ?_⟩
    · rintro i z σ H1 hz ⟨v3, rfl, c1, b1⟩
      obtain ⟨d, hd, dz0⟩ := DpAll.getV ax hz
      have ndd := nd d (List.mem_of_getElem? hd)
      have dz : Dp K H1 z d := dp_map (fun b xs q => sqT_but nt b1 q) _ _ (nd_noL ndd) dz0
      have hi := (List.getElem?_eq_some_iff.mp hz).1
      have tk1 : ∀ n, cntN n (ds.take (i + 1)) = cntN n (ds.take i) + (if isVarN d = true ∧ numN d = n then 1 else 0) := fun n => by
        rw [List.take_add_one, hd, cnt_app]
        simp [cntN]
      obtain ⟨k1, g1, g2, g3⟩ := c1.at_
      have p1 := b1 p _ pc hp
      walk_at "go"
      refine ⟨z, d, rfl, dz, ndd, ?_⟩
      walk_at "go"
      refine ite2 (fun iv => ?_) (fun iv => ?_)
      · obtain ⟨n, n0, rfl⟩ := var_num ndd iv
        have dt : ∃ a' xs', z = .ref a' ∧ SqT K H1 a' xs' ∧ xs'[1]? = some (.int n) := by
          cases id dz with
          | tup hs' ha' =>
            obtain ⟨w, hw, hdw⟩ := DpAll.get (i := 1) ha' rfl
            cases hdw
            exact ⟨_, _, rfl, hs', hw⟩
        obtain ⟨a', xs', rfl, sq, hx1⟩ := dt
        walk_at "go"
        refine ⟨p, _, _, _, _, rfl, p1, E.cl_Side, E.nA_Side_counts, fs_Side_counts, ?_⟩
        refine ⟨c, rfl, .inl ⟨k1, .inl g1⟩, ?_⟩
        walk_at "go"
        refine ixT (j := 1) sq hx1 ?_
        walk_at "go"
        refine ⟨_, DGet.k (k := Sum.inl n) g1, ?_⟩
        have e1 : (valV k1 (Sum.inl n)).getD (V.int 0) = .int ((f n + t.toNat * cntN n (ds.take i) : Nat) : Int) := by
          rcases g2 n with e | ⟨e, e0⟩
          · rw [e]; rfl
          · rw [e]
            have e0' : f n + t.toNat * cntN n (ds.take i) = 0 := e0
            rw [e0']; rfl
        rw [e1]
        walk_at "go"
        refine ⟨p, _, _, _, _, rfl, p1, E.cl_Side, E.nA_Side_counts, fs_Side_counts, ?_⟩
        walk_at "go"
        refine ixT (j := 1) sq hx1 ?_
        refine ⟨c, _, rfl, DPut.k (k := Sum.inl n) g1 (Nat.lt_of_le_of_lt (show k1.length ≤ 10000000 by omega) (by decide)), ?_⟩
        walk_at "go"
        refine ⟨_, rfl, ⟨_, upd_same, fun y => ?_, ?_⟩, b1.trans But.put⟩
        · dsimp only
          rw [valV_put, tk1 y]
          by_cases ey : y = n
          · subst ey
            rw [if_pos rfl, if_pos ⟨rfl, rfl⟩]
            refine .inl ?_
            rw [Nat.mul_add, Nat.mul_one]
            congr 2
            omega
          · rw [if_neg (fun w => ey (Sum.inl.inj w)), if_neg (fun w => ey (by rw [← w.2]; rfl)), Nat.add_zero]
            exact g2 y
        · have : (putK k1 (Sum.inl n : Key) (V.int (((f n + t.toNat * cntN n (ds.take i) : Nat) : Int) + t))).length ≤ k1.length + 1 := by
            unfold putK
            split
            · rw [List.length_map]; omega
            · rw [List.length_append]; exact Nat.le_refl _
          omega
      · walk_at "go"
        refine ⟨_, rfl, ⟨k1, g1, fun y => ?_, by omega⟩, b1⟩
        dsimp only
        rw [tk1 y, if_neg (fun w => iv w.1), Nat.add_zero]
        exact g2 y
    · rintro σ H1 ⟨v3, rfl, c1, b1⟩
      walk_at "go"
      rw [List.take_of_length_le (by omega), lx] at c1
      exact q H1 c1 b1

theorem ok_Side_take {f : Addr} {fd : FuncData} (F : Fun K "take" "Side.take" s_Side_take f fd) (E : Bi K mg) (D_is_variable : Has P w K mg base 1 "is_variable" ["node"] (sp_is_variable K)) : FnOk P w K mg base CX0 2 f fd ["self", "found"] (sp_Side_take K) := by
  obtain ⟨f_is_variable, fd_is_variable, G_is_variable, g_is_variable, kp_is_variable, b_is_variable⟩ := D_is_variable
  refine F.ok sc_Side_take (fun vs H Q E h => ?_) (fun cdv A outer s H vs Q E' hr h => ?_)
  · obtain ⟨p, r, c, d, n, ds, F, T, rfl, _⟩ := h
    rfl
  · obtain ⟨p, r, c, d, tot, ds, F, T, rfl, hs, hk, hf, tri, tT, hne, hlen, q⟩ := h
    refine ⟨_, (pss_cons (ps_set (i := 2) sc_Side_take.nd rfl (Or.inl rfl) (pe_bm0 PySem.F.plainAttrs_list PySem.F.slot_list_pop PySem.F.type_list_pop mt_pop (pe_fld (pv 0) rfl)))
      (pss_cons (ps_while PassesOwn.never (pw_and (pt_val (pe_call G_is_variable (hr.mono (by decide)) (by rfl) g_is_variable kp_is_variable b_is_variable .nil pass0 (pa_cons (pv 2) pa_nil))) (pw_and1 (pt_cmp (pc_din (hu_of hr) (pe_ix ix_tup (pv 2) pe_int (fun _ _ => rfl)) (pv 1))))).pt (pss_cons (ps_expr (pe_bm PySem.F.plainAttrs_list PySem.F.slot_list_extend PySem.F.type_list_extend mt_extT (pe_fld (pv 0) rfl) (pa_cons (pe_revT (pe_dget (hu_of hr) (pv 1) (pe_ix ix_tup (pv 2) pe_int (fun _ _ => rfl)) (fun _ _ => rfl))) pa_nil)))
      (pss_one (ps_set (i := 2) sc_Side_take.nd rfl (Or.inl rfl) (pe_bm0 PySem.F.plainAttrs_list PySem.F.slot_list_pop PySem.F.type_list_pop mt_pop (pe_fld (pv 0) rfl))))))
      (pss_one (ps_ret (pv 2))))), ?_⟩
    refine st_of (σ := [some _, some _, none]) rfl ?_
    walk_at "go"
    obtain ⟨dx, hp⟩ := hs.ob
    obtain ⟨xs, hr0, hd⟩ := hk.at_
    obtain ⟨kvs, hf0, tk⟩ := hf.at_
    have prn : p ≠ r := ne_of hp hr0 (by intro z; cases z)
    have drn : d ≠ r := ne_of hf0 hr0 (by intro z; cases z)
    cases ds with
    | nil => exact absurd rfl hne
    | cons e es =>
    rw [List.reverse_cons] at hd
    obtain ⟨ys, v, rfl, hys, hv⟩ := dpAll_last hd
    have nde := hk.nd e (.head _)
    have nds : ∀ x ∈ es, NdA x := fun x hx => hk.nd x (.tail _ hx)
    refine ⟨p, _, _, _, _, rfl, hp, E.cl_Side, E.nA_Side_rest, fs_Side_rest, ?_⟩
    refine tyl (SqL.of hr0) ?_
    refine ⟨r, _, v, rfl, rfl, hr0, last_at, ?_⟩
    rw [List.dropLast_concat]
    walk_at "go"
    have lim : ∀ (l : List PyData), appM T l = appM T (e :: es) → l.length ≤ 100000 := fun l hl => Nat.le_trans (appM_len tT l) (by rw [hl]; exact hlen)
    have popped : ∀ (H1 : Hp) (zs : List V) (e1 : PyData) (es1 : List PyData), H1 r = some (.lst zs) → DpAll K H1 zs (e1 :: es1).reverse → (∀ x ∈ e1 :: es1, NdA x) → ∃ ys1 v1, zs = ys1 ++ [v1] ∧ StkA K (upd H1 r (.lst ys1)) r es1 ∧ Dp K (upd H1 r (.lst ys1)) v1 e1 := fun H1 zs e1 es1 h1 h2 h3 => by
      rw [List.reverse_cons] at h2
      obtain ⟨ys1, v1, rfl, k1, k2⟩ := dpAll_last h2
      have nt : notTup H1 r := .inl ⟨_, h1⟩
      exact ⟨ys1, v1, rfl, ⟨⟨ys1, upd_same, dp_putAll nt _ _ (nds_noL fun x hx => h3 x (.tail _ (List.mem_reverse.mp hx))) k1⟩, fun x hx => h3 x (.tail _ hx)⟩, dp_put nt _ _ (nd_noL (h3 e1 (.head _))) k2⟩
    have nt : notTup H r := .inl ⟨_, hr0⟩
    refine while_m (fun m σ H' => ∃ (v : V) (e1 : PyData) (es1 : List PyData), σ = [some (.ref p), some (.ref d), some v] ∧ StkA K H' r es1 ∧ Dp K H' v e1 ∧ NdA e1 ∧ appM T (e1 :: es1) = appM T (e :: es) ∧ But r H H' ∧ m = if isVarN e1 = true then rkT F (numN e1) else 0)
      ⟨_, v, e, es, rfl, ⟨⟨ys, upd_same, dp_putAll nt _ _ (nds_noL fun x hx => nds x (List.mem_reverse.mp hx)) hys⟩, nds⟩, dp_put nt _ _ (nd_noL nde) hv, nde, rfl, But.put, rfl⟩ ?_
    rintro m σ H1 ⟨v1, e1, es1, rfl, k1, d1, n1, ap1, b1, rfl⟩
    walk_at "go"
    have p1 := b1 p _ prn hp
    have f1 := b1 d _ drn hf0
    have tk1 : TabK K H1 kvs F := TabK.mono (fun v' ds' hn' hd' => dp_map (fun b xs q => sqT_but nt b1 q) _ _ (tup_noL hn') hd') tri.tm.nd tk
    refine ⟨v1, e1, rfl, d1, n1, ?_⟩
    walk_at "go"
    have fin : notKey F e1 → Q v1 H1 := fun nk => by
      refine q v1 e1 es1 H1 n1 nk ?_ k1 d1 b1
      rw [← ap1]
      exact tri.stay n1 nk es1
    refine ite2 (fun iv => ?_) (fun iv => ?_)
    · obtain ⟨n, n0, rfl⟩ := var_num n1 iv
      have dt : ∃ a' xs', v1 = .ref a' ∧ SqT K H1 a' xs' ∧ xs'[1]? = some (.int n) := by
        cases id d1 with
        | tup hs' ha' =>
          obtain ⟨w, hw, hdw⟩ := DpAll.get (i := 1) ha' rfl
          cases hdw
          exact ⟨_, _, rfl, hs', hw⟩
      obtain ⟨a', xs', rfl, sq, hx1⟩ := dt
      walk_at "go"
      refine ixT (j := 1) sq hx1 ?_
      walk_at "go"
      refine ⟨d, _, rfl, DGet.k (k := Sum.inl n) f1, ?_⟩
      walk_at "go"
      rcases TabK.val n tk1 with ⟨w1, w2⟩ | ⟨u, w, w1, w2', dw⟩
      · rw [w1]
        walk_at "go"
        exact fin fun _ => w2
      · rw [w1]
        walk_at "go"
        refine while_n ?_
        have tw := valT_tm tri.tm w2'
        have op := tri.open w2' es1
        obtain ⟨ys1, k2, k3⟩ := k1.at_
        walk_at "go"
        refine ⟨p, _, _, _, _, rfl, p1, E.cl_Side, E.nA_Side_rest, fs_Side_rest, ?_⟩
        refine tyl (SqL.of k2) ?_
        walk_at "go"
        refine ixT (j := 1) sq hx1 ?_
        refine ⟨d, u, rfl, by have := DGet.k (k := Sum.inl n) f1; rw [w1] at this; exact this, ?_⟩
        cases dw with
        | @tup ua us _ su au =>
        refine ⟨ua, us, rfl, su, fun z nz => ?_⟩
        walk_at "go"
        have rz : r ≠ z := ne_of_none k2 nz
        have lw := DpAll.len au
        have ly := DpAll.len k3
        have l1 := lim (w ++ es1) (by rw [← op]; exact ap1)
        rw [List.length_append] at l1
        rw [List.length_reverse] at ly
        refine ⟨r, z, ys1, us.reverse, rfl, rfl, by rw [upd_ne rz]; exact k2, SqT.of upd_same, Nat.le_trans (show _ ≤ 100000 by rw [List.length_reverse]; omega) (by decide), ?_⟩
        walk_at "go"
        have p2 : (upd (upd H1 z (.tup us.reverse)) r (.lst (ys1 ++ us.reverse))) p = some (.ins (clsA K "Side") dx (fs_Side (.ref r) (.int tot) (.ref c))) := by
          rw [upd_ne prn]
          exact same_upd nz _ _ p1
        refine ⟨p, _, _, _, _, rfl, p2, E.cl_Side, E.nA_Side_rest, fs_Side_rest, ?_⟩
        refine tyl (SqL.of upd_same) ?_
        cases w with
        | nil => exact absurd rfl tw.ne
        | cons e2 w2 =>
        have nt1 : notTup (upd H1 z (.tup us.reverse)) r := .inl ⟨ys1, by rw [upd_ne rz]; exact k2⟩
        have sz := same_upd (o := .tup us.reverse) nz
        have all2 : ∀ x ∈ e2 :: (w2 ++ es1), NdA x := fun x hx => (List.mem_append.mp (show x ∈ (e2 :: w2) ++ es1 from hx)).elim (tw.2 x) (k1.nd x)
        obtain ⟨ys2, v2, ez, g1, g2⟩ := popped (upd (upd H1 z (.tup us.reverse)) r (.lst (ys1 ++ us.reverse))) (ys1 ++ us.reverse) e2 (w2 ++ es1) upd_same (by
          rw [show (e2 :: (w2 ++ es1)).reverse = es1.reverse ++ (e2 :: w2).reverse by simp]
          refine DpAll.app (dp_putAll nt1 _ _ (nds_noL fun x hx => k1.nd x (List.mem_reverse.mp hx)) (dp_sameAll sz _ _ k3)) (dp_putAll nt1 _ _ (nds_noL fun x hx => tw.2 x (List.mem_reverse.mp hx)) (dp_sameAll sz _ _ (dpAll_rev au)))) all2
        refine ⟨r, _, v2, rfl, rfl, upd_same, by rw [ez]; exact last_at, ?_⟩
        rw [ez, List.dropLast_concat]
        walk_at "go"
        have less : (if isVarN e2 = true then rkT F (numN e2) else 0) < (if isVarN (.tuple [.str "v", .int n]) = true then rkT F (numN (.tuple [.str "v", .int n])) else 0) := by
          rw [if_pos (show isVarN (.tuple [.str "v", .int n]) = true from rfl), show numN (.tuple [.str "v", .int n]) = n from rfl]
          by_cases v2 : isVarN e2 = true
          · rw [if_pos v2]
            refine rk_less tri.tri w2' ?_
            rw [← var_vN (tw.2 e2 (.head _)) v2]
            exact .head _
          · rw [if_neg v2]
            exact rk_pos w2'
        refine ⟨_, less, v2, e2, w2 ++ es1, rfl, ?_, ?_, tw.2 e2 (.head _), ?_, ?_, rfl⟩
        · rw [ez] at g1
          rw [upd_upd] at g1 ⊢
          exact g1
        · rw [ez] at g2
          rw [upd_upd] at g2 ⊢
          exact g2
        · rw [← ap1, show (PyData.tuple [.str "v", .int n]) = vN n from rfl, op]
          rfl
        · intro b o hb hbo
          rw [upd_ne hb, upd_ne hb]
          exact same_upd nz _ _ (b1 b o hb hbo)
    · refine iteF ?_
      walk_at "go"
      exact fin fun z => absurd z iv

theorem ok_apply {f : Addr} {fd : FuncData} (F : Fun K "apply" "apply" s_apply f fd) (E : Bi K mg) (D_is_variable : Has P w K mg base 1 "is_variable" ["node"] (sp_is_variable K)) : FnOk P w K mg base CX0 2 f fd ["substitution", "term"] (sp_apply K) := by
  obtain ⟨f_is_variable, fd_is_variable, G_is_variable, g_is_variable, kp_is_variable, b_is_variable⟩ := D_is_variable
  refine F.ok sc_apply (fun vs H Q E h => ?_) (fun cdv A outer s H vs Q E' hr h => ?_)
  · obtain ⟨p, F, x, ds, rfl, _⟩ := h
    rfl
  · obtain ⟨p, F, x, ds, rfl, hf, ht, dx, nd, hl, q⟩ := h
    refine ⟨_, (pss_cons (ps_set (i := 2) sc_apply.nd rfl (Or.inl rfl) (pe_lst pa_nil))
      (pss_cons (ps_for PassesOwn.never rfl (pi_tup (pv 1)) (pg_name (i := 3) sc_apply.nd rfl (Or.inl rfl)) (pss_one (ps_if (pw_and (pt_val (pe_call G_is_variable (hr.mono (by decide)) (by rfl) g_is_variable kp_is_variable b_is_variable .nil pass0 (pa_cons (pv 3) pa_nil))) (pw_and1 (pt_cmp (pc_din (hu_of hr) (pe_ix ix_tup (pv 3) pe_int (fun _ _ => rfl)) (pv 0))))).pt (pss_one (ps_expr (pe_bm PySem.F.plainAttrs_list PySem.F.slot_list_extend PySem.F.type_list_extend mt_extT (pv 2) (pa_cons (pe_dget (hu_of hr) (pv 0) (pe_ix ix_tup (pv 3) pe_int (fun _ _ => rfl)) (fun _ _ => rfl)) pa_nil)))) (pss_one (ps_expr (pe_bm PySem.F.plainAttrs_list PySem.F.slot_list_append PySem.F.type_list_append mt_append (pv 2) (pa_cons (pv 3) pa_nil)))))))
      (pss_one (ps_ret (pe_callTy call_tuple_of (by rfl) E.b_tuple (by decide +kernel) (pa_cons (pv 2) pa_nil)))))), ?_⟩
    refine st_of (σ := [some _, some _, none, none]) rfl ?_
    walk_at "go"
    obtain ⟨kvs, hp0, tk0⟩ := hf.at_
    cases id dx with
    | @tup a xs _ sx ax =>
    have lx := DpAll.len ax
    refine newN rfl (by decide) fun r nr => ?_
    have pr : p ≠ r := ne_of_none hp0 nr
    walk_at "go"
    have pre : ∀ i, (appM F (ds.take i)).length ≤ 2000000 := fun i => by
      have e : appM F ds = appM F (ds.take i) ++ appM F (ds.drop i) := by rw [← appM_app, List.take_append_drop]
      rw [e, List.length_append] at hl
      omega
    refine ⟨a, rfl, ⟨_, same_sqT (same_upd nr) sx⟩, for_tup (K := K) (a := a) (xs := xs) (fun i σ H' => ∃ (v3 : Option V) (ys : List V), σ = [some (.ref p), some (.ref a), some (.ref r), v3] ∧ H' r = some (.lst ys) ∧ DpAll K H' ys (appM F (ds.take i)) ∧ Same H H')
      ⟨none, [], rfl, upd_same, .nil, same_upd nr⟩ (fun i σ H' _ ⟨_, _, _, _, _, s⟩ => same_sqT s sx) ?_ ?_⟩
    · rintro i z σ H1 hz ⟨v3, ys, rfl, hr1, dy, s1⟩
      obtain ⟨d, hd, dz0⟩ := DpAll.getV ax hz
      have ndd := nd d (List.mem_of_getElem? hd)
      have dz := dp_same s1 _ _ dz0
      have ly := DpAll.len dy
      have step := appM_take (t := F) hd
      have ndp : ∀ y ∈ appM F (ds.take i), NdA y := appM_nd ht.nd fun y hy => nd y (List.mem_of_mem_take hy)
      have put : ∀ (ws : List V) (es : List PyData), (∀ y ∈ es, NdA y) → DpAll K H1 ws es → DpAll K (upd H1 r (.lst (ys ++ ws))) (ys ++ ws) (appM F (ds.take i) ++ es) := fun ws es hes dw => by
        have ntr : notTup H1 r := .inl ⟨_, hr1⟩
        exact DpAll.app (dp_putAll ntr _ _ (nds_noL ndp) dy) (dp_putAll ntr _ _ (nds_noL hes) dw)
      have keep : ∀ o, Same H (upd H1 r o) := fun o b u e => by rw [upd_ne (ne_of_none e nr)]; exact s1 _ _ e
      walk_at "gs"
      refine ifv (fun H5 => H5 = H1 ∧ appN F d = [d]) ?_ fun hu => ?_
      rotate_left
      · walk_at "go"
        refine ⟨z, d, rfl, dz, ndd, ?_⟩
        walk_at "go"
        refine ite2 (fun iv => ?_) (fun iv => iteF (hu _ ⟨rfl, appN_non iv⟩))
        obtain ⟨n, n0, rfl⟩ := var_num ndd iv
        have dt : ∃ a' xs', z = .ref a' ∧ SqT K H1 a' xs' ∧ xs'[1]? = some (.int n) := by
          cases id dz with
          | tup hs' ha' =>
            obtain ⟨w, hw, hdw⟩ := DpAll.get (i := 1) ha' rfl
            cases hdw
            exact ⟨_, _, rfl, hs', hw⟩
        obtain ⟨a', xs', rfl, sq, hx1⟩ := dt
        walk_at "go"
        refine ixT (j := 1) sq hx1 ?_
        walk_at "go"
        refine ⟨p, _, rfl, DGet.k (k := Sum.inl n) (s1 _ _ hp0), ?_⟩
        walk_at "go"
        rcases TabK.val n (tab_same s1 ht.nd tk0) with ⟨w1, w2⟩ | ⟨u, w, w1, w2, dw⟩
        · rw [w1]
          exact iteF (hu _ ⟨rfl, appN_out w2⟩)
        · rw [w1]
          have tw := valT_tm ht w2
          walk_at "go"
          refine tyl (SqL.of hr1) ?_
          walk_at "go"
          refine ixT (j := 1) sq hx1 ?_
          refine ⟨p, u, rfl, by have := DGet.k (k := Sum.inl n) (s1 _ _ hp0); rw [w1] at this; exact this, ?_⟩
          cases dw with
          | @tup ua us _ su au =>
          walk_at "go"
          have lu := DpAll.len au
          have p1 := pre (i + 1)
          rw [step, appN_in w2, List.length_append] at p1
          refine ⟨r, ua, ys, us, rfl, rfl, hr1, su, Nat.le_trans (show _ ≤ 2000000 by omega) (by decide), ?_⟩
          walk_at "go"
          refine ⟨_, ys ++ us, rfl, upd_same, ?_, keep _⟩
          rw [step, appN_in w2]
          exact put us w tw.2 au
      · rintro H5 ⟨rfl, ea⟩
        walk_at "go"
        refine tyl (SqL.of hr1) ?_
        walk_at "go"
        have := pre i
        refine rap hr1 (by omega) ?_
        walk_at "go"
        refine ⟨_, ys ++ [z], rfl, upd_same, ?_, keep _⟩
        rw [step, ea]
        exact put [z] [d] (fun y hy => by rw [List.mem_singleton.mp hy]; exact ndd) (.cons dz .nil)
    · rintro σ H1 ⟨v3, ys, rfl, hr1, dy, s1⟩
      walk_at "go"
      rw [List.take_of_length_le (by omega)] at dy
      refine ⟨_, _, rfl, .inl ⟨SqL.of hr1, fun t nt => ?_⟩⟩
      have st := same_upd (o := .tup ys) nt
      exact q (.ref t) _ (s1.trans st) (.tup (SqT.of upd_same) (dp_sameAll st _ _ dy))

theorem ok_check_goal {f : Addr} {fd : FuncData} (F : Fun K "check_goal" "check_goal" s_check_goal f fd) (E : Bi K mg) (D_is_symbol : Has P w K mg base 1 "is_symbol" ["node"] (sp_is_symbol K)) (D_is_built_in : Has P w K mg base 1 "is_built_in" ["name", "arity"] (sp_is_built_in K)) (D_is_control : Has P w K mg base 1 "is_control" ["name", "arity"] (sp_is_control K)) : FnOk P w K mg base (L2.CX P w) 2 f fd ["term"] (sp_check_goal K) := by
  obtain ⟨f_is_symbol, fd_is_symbol, G_is_symbol, g_is_symbol, kp_is_symbol, b_is_symbol⟩ := D_is_symbol
  obtain ⟨f_is_built_in, fd_is_built_in, G_is_built_in, g_is_built_in, kp_is_built_in, b_is_built_in⟩ := D_is_built_in
  obtain ⟨f_is_control, fd_is_control, G_is_control, g_is_control, kp_is_control, b_is_control⟩ := D_is_control
  refine F.okX sc_check_goal (fun vs H Q E h => ?_) (fun cdv A outer s H vs Q E' hr h => ?_)
  · obtain ⟨x, d, r, rfl, _⟩ := h
    rfl
  · obtain ⟨x, d, r, rfl, hx, hn, q1, q2⟩ := h
    refine ⟨_, (pss_cons (ps_if (pt_not (pt_val (pe_call G_is_symbol (hr.mono (by decide)) (by rfl) g_is_symbol kp_is_symbol b_is_symbol .nil pass0 (pa_cons (pe_ix ix_tup (pv 0) pe_int (fun _ _ => rfl)) pa_nil)))) (pss_one (ps_raise rfl (takes_of rfl rfl rfl rfl) (pmk_own PySem.F.excBase_ValueError E.x_NotDefinite.xC E.x_NotDefinite.gC E.x_NotDefinite.kC (raises_own E.x_NotDefinite.bC E.x_NotDefinite.tC) rfl))) pss_nil)
      (pss_cons (ps_asg (pe_ix ix_tup (pv 0) pe_int (fun _ _ => rfl)) (pg_tup rfl (pgs_cons (pg_name (i := 1) sc_check_goal.nd rfl (Or.inl rfl)) (pgs_cons (pg_name (i := 2) sc_check_goal.nd rfl (Or.inl rfl)) (pgs_cons (pg_name (i := 3) sc_check_goal.nd rfl (Or.inl rfl)) pgs_nil)))))
      (pss_one (ps_if (pw_or (pt_val (pe_call G_is_control (hr.mono (by decide)) (by rfl) g_is_control kp_is_control b_is_control .nil pass0 (pa_cons (pv 2) (pa_cons (pv 3) pa_nil)))) (pw_or1 (pt_val (pe_call G_is_built_in (hr.mono (by decide)) (by rfl) g_is_built_in kp_is_built_in b_is_built_in .nil pass0 (pa_cons (pv 2) (pa_cons (pv 3) pa_nil)))))).pt (pss_one (ps_raise rfl (takes_of rfl rfl rfl rfl) (pmk_own1 PySem.F.excBase_ValueError E.x_NotDefinite.xC E.x_NotDefinite.gC E.x_NotDefinite.kC (raises_own E.x_NotDefinite.bC E.x_NotDefinite.tC) rfl (pe_joined (PJ.cons (pe_fmt (pv 2)) (PJ.cons pe_str (PJ.cons (pe_fmt (pv 3)) (PJ.cons pe_str PJ.nil)))))))) pss_nil)))), ?_⟩
    cases id hx with
    | @tup a xs _ hs ha =>
    obtain ⟨v0, hv0, dv0⟩ := DpAll.get (i := 0) ha rfl
    refine seq_ifN ?_
    refine ⟨_, rfl, _, _, _, _, rfl, rfl, hs, atI_nat (j := 0) hv0, v0, d, rfl, dv0, hn, _, rfl, ?_⟩
    obtain ⟨wd, nd⟩ := id hn
    cases nd with
    | v n z1 z2 => exact iteT (q2 rfl H (Same.refl H))
    | i n z1 z2 => exact iteT (q2 rfl H (Same.refl H))
    | f y n z0 z1 z2 =>
      refine iteF (seq_asg ?_)
      refine ⟨_, rfl, _, _, _, _, rfl, rfl, hs, atI_nat (j := 0) hv0, ?_⟩
      cases dv0 with
      | @tup c zs _ hz az =>
      cases az with
      | cons e1 az =>
      cases az with
      | cons e2 az =>
      cases az with
      | cons e3 az =>
      cases az
      cases e1
      cases e2
      cases e3
      refine ⟨c, _, rfl, hz, rfl, _, _, rfl, gname ⟨_, _, rfl, gname ⟨_, [], rfl, gname ⟨rfl, ?_⟩⟩⟩⟩
      have l1 := okN_len z0
      obtain ⟨l2, l3⟩ := digit_ok z1 z2
      have l4 : (Str.ofString "/").length = 1 := by decide +kernel
      have l5 : (Str.ofString " is no predicate of a definite program").length = 38 := by decide +kernel
      have l6 : Str.empty.length = 0 := rfl
      refine ⟨_, rfl, _, rfl, y, n, rfl, z0, fun H1 s1 => ⟨_, rfl, ?_⟩⟩
      have fin : ∀ H', Same H H' → isG (.tuple [.str "f", .str y, .int n]) = false → tJs [tFmt (tVar 2), tC (V.str (Str.ofString "/")), tFmt (tVar 3), tC (V.str (Str.ofString " is no predicate of a definite program"))] Str.empty [some (V.ref a), some (.str "f"), some (.str y), some (.int n)] H' fun out H1 => E' (Value.ref (clsA K (Str.ofString "NotDefinite"))) Option.none H1 := by
        intro H' s' hg
        refine ⟨_, rfl, .inl ⟨y, rfl, small_of (by omega), _, rfl, small_of (by rw [len_app]; omega), _, rfl, small_of (by rw [len_app, len_app]; omega), _, rfl, .inr ⟨n, rfl, l2, _, rfl, small_of (by rw [len_app, len_app, len_app]; omega), _, rfl, small_of (by rw [len_app, len_app, len_app, len_app]; omega), q2 hg _ s'⟩⟩⟩
      have ig : isG (.tuple [.str "f", .str y, .int n]) = !(decide ((y, n) ∈ CTL) || decide ((y, n) ∈ BIN)) := rfl
      cases c1 : decide ((y, n) ∈ CTL) with
      | true => exact iteT (iteT (fin _ s1 (by rw [ig, c1]; rfl)))
      | false =>
        refine iteF ?_
        refine ⟨_, rfl, _, rfl, y, n, rfl, z0, fun H2 s2 => ⟨_, rfl, ?_⟩⟩
        have s12 := s1.trans s2
        cases c2 : decide ((y, n) ∈ BIN) with
        | true => exact iteT (fin _ s12 (by rw [ig, c1, c2]; rfl))
        | false => exact iteF (q1 (by rw [ig, c1, c2]; rfl) _ s12)

theorem ok__law_parts {f : Addr} {fd : FuncData} (F : Fun K "_law_parts" "_law_parts" s__law_parts f fd) (E : Bi K mg) (D__law_end : Has P w K mg base 1 "_law_end" ["term", "start"] (sp__law_end K)) : FnOk P w K mg base CX0 2 f fd ["term"] (sp__law_parts K) := by
  obtain ⟨f__law_end, fd__law_end, G__law_end, g__law_end, kp__law_end, b__law_end⟩ := D__law_end
  refine F.ok sc__law_parts (fun vs H Q E h => ?_) (fun cdv A outer s H vs Q E' hr h => ?_)
  · obtain ⟨x, d0, rows, rfl, _⟩ := h
    rfl
  · obtain ⟨x, d0, rows, rfl, hd, n0, hrow, hl, hf, q⟩ := h
    refine ⟨_, (pss_cons (ps_set (i := 1) sc__law_parts.nd rfl (Or.inl rfl) (pe_lst pa_nil))
      (pss_cons (ps_set (i := 2) sc__law_parts.nd rfl (Or.inl rfl) pe_int)
      (pss_cons (ps_while PassesOwn.never (pt_cmpR op_lt (pv 2) (pe_callB call_len_seq (by rfl) E.b_len PySem.boot_len (pa_cons (pv 0) pa_nil)) (nomark _)) (pss_cons (ps_set (i := 3) sc__law_parts.nd rfl (Or.inl rfl) (pe_call G__law_end (hr.mono (by decide)) (by rfl) g__law_end kp__law_end b__law_end .nil pass0 (pa_cons (pv 0) (pa_cons (pv 2) pa_nil))))
      (pss_cons (ps_expr (pe_bm PySem.F.plainAttrs_list PySem.F.slot_list_append PySem.F.type_list_append mt_append (pv 1) (pa_cons (pe_slice sl_tupA (pv 0) (po_some (pv 2)) (po_some (pv 3))) pa_nil)))
      (pss_one (ps_set (i := 2) sc__law_parts.nd rfl (Or.inl rfl) (pv 3))))))
      (pss_one (ps_ret (pv 1)))))), ?_⟩
    cases id hd with
    | @tup a xs _ hs ha =>
    have hxl := DpAll.len ha
    rw [List.length_cons] at hxl
    refine seq_asg ?_
    refine ⟨Nat.zero_le _, fun r nr => ?_⟩
    have s0 := same_upd (o := .lst []) nr
    have e0 : (upd H r (.lst [])) r = some (.lst []) := upd_same
    generalize upd H r (.lst []) = H1 at s0 e0
    refine gname (seq_asg ?_)
    refine gname (seq_any ?_)
    have hnd : ∀ d ∈ d0 :: rows.flatten, NdA d := fun d hd => by
      rcases List.mem_cons.mp hd with z | z
      · rw [z]; exact n0
      · obtain ⟨row, h1, h2⟩ := List.mem_flatten.mp z
        exact (hrow row h1).2 d h2
    have hsplit : ∀ j, rows.flatten = (rows.take j).flatten ++ (rows.drop j).flatten := fun j => by rw [← List.flatten_append, List.take_append_drop]
    refine ⟨fun m σ H' => ∃ (j : Nat) (ys : List V) (v3 : Option V), σ = [some (.ref a), some (.ref r), some (.int ((1 + ((rows.take j).flatten).length : Nat) : Int)), v3] ∧ Same H H' ∧ H' r = some (.lst ys) ∧ DpAll K H' ys ((rows.take j).map PyData.tuple) ∧ j ≤ rows.length ∧ m = rows.length - j,
      ⟨_, 0, [], none, rfl, s0, e0, .nil, Nat.zero_le _, rfl⟩, ?_⟩
    rintro m σ H2 ⟨j, ys, v3, rfl, s2, e2, d2, hj, rfl⟩
    refine ⟨_, rfl, _, rfl, _, _, rfl, .inr (same_sqT s2 hs), _, _, rfl, rfl, _, rfl, ?_⟩
    rcases Nat.lt_or_ge j rows.length with hjl | hjl
    · obtain ⟨row, hrw⟩ : ∃ row, rows[j]? = some row := ⟨_, List.getElem?_eq_getElem hjl⟩
      have hrm := List.mem_of_getElem? hrw
      have hdj : rows.drop j = row :: rows.drop (j + 1) := by
        obtain ⟨h1, h2⟩ := List.getElem?_eq_some_iff.mp hrw
        rw [List.drop_eq_getElem_cons h1, h2]
      have hpos : 0 < row.length := by
        have := (hrow row hrm).1
        cases row with
        | nil => exact absurd (show (1 : Nat) = 0 from this) (by decide)
        | cons => rw [List.length_cons]; omega
      have hfl : rows.flatten.length = ((rows.take j).flatten).length + (row.length + ((rows.drop (j + 1)).flatten).length) := by
        have e := congrArg List.length (hsplit j)
        rw [hdj, List.flatten_cons, List.length_append, List.length_append] at e
        exact e
      have hcls := rows_cls (rows := rows) (rest := rows.drop (j + 1)) (row := row) fun y hy => hrow y (by
        rw [← hdj] at hy
        exact List.mem_of_mem_drop hy)
      rw [List.flatten_cons] at hcls
      have hT : (rows.take (j + 1)).flatten = (rows.take j).flatten ++ row := by rw [List.take_add_one, hrw, List.flatten_append]; show _ ++ (row ++ []) = _; rw [List.append_nil]
      generalize hTt : ((rows.take j).flatten).length = T at hfl
      have hdr : (d0 :: rows.flatten).drop (1 + T) = row ++ (rows.drop (j + 1)).flatten := by
        rw [show 1 + T = T + 1 by omega, List.drop_succ_cons, hsplit j, hdj, List.flatten_cons, ← hTt, List.drop_left']
        rfl
      rw [decide_eq_true (show ((1 + T : Nat) : Int) < (xs.length : Int) by omega)]
      refine ⟨_, fun σ' H' h => h, ?_⟩
      refine seq_asg ?_
      refine ⟨_, rfl, _, rfl, .ref a, _, 1 + T, (rows.drop (j + 1)).length, rfl, dp_same s2 _ _ hd, hnd, by rw [hdr]; exact hcls, ?_⟩
      rw [hdr, tk_row (hrow row hrm).1]
      refine gname ?_
      refine ⟨_, rfl, .inl ⟨rfl, _, SqL.of e2⟩, _, rfl, _, rfl, _, rfl, _, rfl, _, rfl, ?_⟩
      show rSlA K (.ref a) (some ((1 + T : Nat) : Int)) (some ((1 + T + row.length : Nat) : Int)) H2 _
      refine slA_nat (same_sqT s2 hs) (by omega) (by omega) fun b1 H3 s3 t3 _ => ?_
      have e3 := s3 _ _ e2
      have hyl := DpAll.len d2
      rw [List.length_map, List.length_take] at hyl
      have dv : Dp K H3 (.ref b1) (.tuple row) := by
        refine .tup t3 ?_
        have := DpAll.taket (1 + T + row.length - (1 + T)) (DpAll.dropt (1 + T) (dp_sameAll (s2.trans s3) _ _ ha))
        rw [hdr, List.take_left' (by omega)] at this
        exact this
      have n3 : notTup H3 r := .inl ⟨_, e3⟩
      refine ⟨_, _, _, rfl, rfl, e3, small1000 (by omega), ?_⟩
      refine ⟨_, rfl, gname ?_⟩
      have rowsN : ∀ l : List (List PyData), (∀ y ∈ l, ∀ d ∈ y, NdA d) → noLA (l.map PyData.tuple) = true := by
        intro l
        induction l with
        | nil => intro _; simp [noLA]
        | cons y l ih => intro h; rw [List.map_cons, noLA, tup_noL (h y List.mem_cons_self), ih fun z hz => h z (List.mem_cons_of_mem _ hz)]; rfl
      refine ⟨rows.length - (j + 1), by omega, j + 1, _, some (.int ((1 + T + row.length : Nat) : Int)), ?_, fun b o e => by rw [upd_ne (ne_of_none e nr)]; exact s3 _ _ (s2 _ _ e), upd_same, ?_, hjl, rfl⟩
      · rw [hT, List.length_append, hTt, ← Nat.add_assoc]
        rfl
      · rw [List.take_add_one, hrw, List.map_append]
        exact DpAll.app (dp_putAll n3 _ _ (rowsN _ fun y hy => (hrow y (List.mem_of_mem_take hy)).2) (dp_sameAll s3 _ _ d2)) (.cons (dp_put n3 _ _ (tup_noL (hrow row hrm).2) dv) .nil)
    · have hjj : j = rows.length := by omega
      subst hjj
      rw [List.take_length] at d2
      rw [decide_eq_false (by rw [List.take_length]; omega)]
      exact ⟨_, rfl, q r ys H2 s2 nr e2 d2⟩


theorem ok__law_put {f : Addr} {fd : FuncData} (F : Fun K "_law_put" "_law_put" s__law_put f fd) (E : Bi K mg) (D__law_is_variable : Has P w K mg base 1 "_law_is_variable" ["node"] (sp__law_is_variable K)) : FnOk P w K mg base CX0 2 f fd ["table", "term"] (sp__law_put K) := by
  obtain ⟨f__law_is_variable, fd__law_is_variable, G__law_is_variable, g__law_is_variable, kp__law_is_variable, b__law_is_variable⟩ := D__law_is_variable
  refine F.ok sc__law_put (fun vs H Q E h => ?_) (fun cdv A outer s H vs Q E' hr h => ?_)
  · obtain ⟨p, F, x, ds, rfl, _⟩ := h
    rfl
  · obtain ⟨p, F, x, ds, rfl, fF, nt, hx, hn, hl0, q⟩ := h
    refine ⟨_, (pss_cons (ps_set (i := 2) sc__law_put.nd rfl (Or.inl rfl) (pe_lst pa_nil))
      (pss_cons (ps_for PassesOwn.never rfl (pi_tup (pv 1)) (pg_name (i := 3) sc__law_put.nd rfl (Or.inl rfl)) (pss_one (ps_if (pw_and (pt_val (pe_call G__law_is_variable (hr.mono (by decide)) (by rfl) g__law_is_variable kp__law_is_variable b__law_is_variable .nil pass0 (pa_cons (pv 3) pa_nil))) (pw_and1 (pt_cmp (pc_din (hu_of hr) (pe_ix ix_tup (pv 3) pe_int (fun _ _ => rfl)) (pv 0))))).pt (pss_one (ps_expr (pe_bm PySem.F.plainAttrs_list PySem.F.slot_list_extend PySem.F.type_list_extend mt_extT (pv 2) (pa_cons (pe_dget (hu_of hr) (pv 0) (pe_ix ix_tup (pv 3) pe_int (fun _ _ => rfl)) (fun _ _ => rfl)) pa_nil)))) (pss_one (ps_expr (pe_bm PySem.F.plainAttrs_list PySem.F.slot_list_append PySem.F.type_list_append mt_append (pv 2) (pa_cons (pv 3) pa_nil)))))))
      (pss_one (ps_ret (pe_callTy call_tuple_of (by rfl) E.b_tuple (by decide +kernel) (pa_cons (pv 2) pa_nil)))))), ?_⟩
    obtain ⟨kvs, hp, ht⟩ := fF.at_
    have hl : ∀ i, (appM F (ds.take i)).length ≤ 2000000 := fun i => by
      have e : appM F ds = appM F (ds.take i) ++ appM F (ds.drop i) := by rw [← appM_app, List.take_append_drop]
      rw [e, List.length_append] at hl0
      omega
    cases id hx with
    | @tup a xs _ hs ha =>
    have hxl := DpAll.len ha
    refine seq_asg ?_
    refine ⟨Nat.zero_le _, fun r nr => ?_⟩
    refine gname (seq_any ?_)
    have s0 : Same H (upd H r (.lst [])) := same_upd nr
    have put : ∀ {H1 : Hp} {o : HO}, Same H H1 → Same H (upd H1 r o) := fun {H1 o} s1 b u e => by rw [upd_ne (ne_of_none e nr)]; exact s1 b u e
    refine ⟨_, rfl, a, rfl, ⟨_, same_sqT s0 hs⟩, for_tup (K := K) (a := a) (xs := xs) (fun i σ H' => ∃ (v3 : Option V) (ys : List V), σ = [some (.ref p), some (.ref a), some (.ref r), v3] ∧ Same H H' ∧ H' r = some (.lst ys) ∧ DpAll K H ys (appM F (ds.take i)))
      ⟨none, [], rfl, s0, upd_same, .nil⟩ (fun i σ H' _ ⟨_, _, _, e, _⟩ => same_sqT e hs) ?_ ?_⟩
    · rintro i z σ H1 hi ⟨v3, ys, rfl, s1, h1, h2⟩
      obtain ⟨d, hd, dz0⟩ := DpAll.getV ha hi
      have ndd := hn d (List.mem_of_getElem? hd)
      have dz := dp_same s1 _ _ dz0
      have hyl := DpAll.len h2
      have b0 := hl i
      have b1 := hl (i + 1)
      rw [appM_take hd, List.length_append] at b1
      have one : appN F d = [d] → ∃ (v3' : Option V) (ys' : List V), [some (V.ref p), some (.ref a), some (.ref r), some z] = [some (V.ref p), some (.ref a), some (.ref r), v3'] ∧ Same H (upd H1 r (.lst (ys ++ [z]))) ∧ (upd H1 r (.lst (ys ++ [z]))) r = some (.lst ys') ∧ DpAll K H ys' (appM F (ds.take (i + 1))) := fun e => by
        refine ⟨_, ys ++ [z], rfl, put s1, upd_same, ?_⟩
        rw [appM_take hd, e]
        exact DpAll.app h2 (.cons dz0 .nil)
      refine gname ?_
      refine ⟨_, rfl, z, d, rfl, dz, ndd, _, rfl, ite2 (fun v => ?_) (fun v => ?_)⟩
      · obtain ⟨n, rfl⟩ := var_form ndd v
        cases id dz with
        | @tup c zs _ hz az =>
        obtain ⟨v2, hv2, dv2⟩ := DpAll.get (i := 1) az rfl
        cases dv2
        refine ⟨_, rfl, _, _, _, _, rfl, rfl, hz, atI_nat (j := 1) hv2, _, rfl, p, _, rfl, DGet.k (k := Sum.inl n) (s1 _ _ hp), _, rfl, ?_⟩
        rcases TabK.val n ht with ⟨w1, w2⟩ | ⟨v', w, w1, w2, w3⟩
        · rw [w1]
          refine iteF ?_
          refine ⟨_, rfl, .inl ⟨rfl, _, SqL.of h1⟩, _, rfl, _, _, _, rfl, rfl, h1, Nat.lt_of_le_of_lt (show _ ≤ 2000000 by omega) (by decide), ?_⟩
          exact one (appN_out w2)
        · rw [w1]
          refine iteT ?_
          have g12 : DGet H1 p (.int n) (some v') := by
            have := DGet.k (k := Sum.inl n) (s1 _ _ hp)
            rw [w1] at this
            exact this
          rw [appN_in w2] at b1
          cases w3 with
          | @tup c2 ws _ hw aw =>
          have hwl := DpAll.len aw
          refine ⟨_, rfl, .inl ⟨rfl, _, SqL.of h1⟩, _, rfl, _, rfl, _, _, _, _, rfl, rfl, hz, atI_nat (j := 1) hv2, p, _, rfl, g12, _, _, _, _, rfl, rfl, h1, same_sqT s1 hw, Nat.le_trans (show _ ≤ 2000000 by omega) (by decide), ?_⟩
          refine ⟨_, _, rfl, put s1, upd_same, ?_⟩
          rw [appM_take hd, appN_in w2]
          exact DpAll.app h2 aw
      · refine iteF ?_
        refine ⟨_, rfl, .inl ⟨rfl, _, SqL.of h1⟩, _, rfl, _, _, _, rfl, rfl, h1, Nat.lt_of_le_of_lt (show _ ≤ 2000000 by omega) (by decide), ?_⟩
        exact one (appN_non v)
    · rintro σ H1 ⟨v3, ys, rfl, s1, h1, h2⟩
      rw [hxl, List.take_length] at h2
      refine nxp ?_
      refine ⟨_, rfl, _, _, rfl, .inl ⟨SqL.of h1, fun u nu => ?_⟩⟩
      exact q _ _ (s1.trans (same_upd nu)) (.tup (SqT.of upd_same) (dp_sameAll (s1.trans (same_upd nu)) _ _ h2))

theorem ok__law_fresh {f : Addr} {fd : FuncData} (F : Fun K "_law_fresh" "_law_fresh" s__law_fresh f fd) (E : Bi K mg) (D__law_is_variable : Has P w K mg base 1 "_law_is_variable" ["node"] (sp__law_is_variable K)) : FnOk P w K mg base CX0 2 f fd ["terms"] (sp__law_fresh K) := by
  obtain ⟨f__law_is_variable, fd__law_is_variable, G__law_is_variable, g__law_is_variable, kp__law_is_variable, b__law_is_variable⟩ := D__law_is_variable
  refine F.ok sc__law_fresh (fun vs H Q E h => ?_) (fun cdv A outer s H vs Q E' hr h => ?_)
  · obtain ⟨a, ts, rfl, _⟩ := h
    rfl
  · obtain ⟨a, ts, rfl, ⟨xs, hs, ha⟩, nd, sz, hl, q⟩ := h
    refine ⟨_, (pss_cons (ps_set (i := 1) sc__law_fresh.nd rfl (Or.inl rfl) pe_int)
      (pss_cons (ps_for PassesOwn.never rfl (pi_list (pv 0)) (pg_name (i := 2) sc__law_fresh.nd rfl (Or.inl rfl)) (pss_one (ps_for PassesOwn.never rfl (pi_tup (pv 2)) (pg_name (i := 3) sc__law_fresh.nd rfl (Or.inl rfl)) (pss_one (ps_if (pt_val (pe_call G__law_is_variable (hr.mono (by decide)) (by rfl) g__law_is_variable kp__law_is_variable b__law_is_variable .nil pass0 (pa_cons (pv 3) pa_nil))) (pss_one (ps_set (i := 1) sc__law_fresh.nd rfl (Or.inl rfl) (pe_callB (call_max2 rfl) (by rfl) E.b_max (by decide +kernel) (pa_cons (pv 1) (pa_cons (pe_op op_add (pe_ix ix_tup (pv 3) pe_int (fun _ _ => rfl)) pe_int) pa_nil))))) pss_nil)))))
      (pss_one (ps_ret (pv 1))))), ?_⟩
    refine st_of (σ := [some _, none, none, none]) rfl ?_
    walk_at "go"
    have lx := DpAll.len ha
    rw [List.length_map] at lx
    refine ⟨a, rfl, ⟨_, hs⟩, for_list (K := K) (a := a) (xs := xs) (fun i σ H' => ∃ (v2 v3 : Option V), σ = [some (.ref a), some (.int (nxt (ts.take i).flatten)), v2, v3] ∧ H' = H)
      ⟨none, none, rfl, rfl⟩ (fun i σ H' _ ⟨_, _, _, e⟩ => by rw [e]; exact hs) ?_ ?_⟩
    · rintro i z σ H2 hz ⟨v2, v3, rfl, rfl⟩
      obtain ⟨dd, hd, dz0⟩ := DpAll.getV ha hz
      rw [List.getElem?_map] at hd
      obtain ⟨t, ht, rfl⟩ := Option.map_eq_some_iff.mp hd
      obtain ⟨pz, ws, rfl, sz2, az⟩ := dp_tup dz0
      have lw := DpAll.len az
      walk_at "go"
      refine ⟨pz, rfl, ⟨_, sz2⟩, for_tup (K := K) (a := pz) (xs := ws) (fun j σ H' => ∃ (v3 : Option V), σ = [some (.ref a), some (.int (nxt ((ts.take i).flatten ++ t.take j))), some (.ref pz), v3] ∧ H' = H2)
        ⟨v3, by rw [List.take_zero, List.append_nil], rfl⟩ (fun i σ H' _ ⟨_, _, e⟩ => by rw [e]; exact sz2) ?_ ?_⟩
      · rintro j z σ H3 hz2 ⟨v3, rfl, rfl⟩
        obtain ⟨d, hd2, dz2⟩ := DpAll.getV az hz2
        have ndd := nd t (List.mem_of_getElem? ht) d (List.mem_of_getElem? hd2)
        have stp := nxt_snoc ((ts.take i).flatten ++ t.take j) d
        have tk1 : (ts.take i).flatten ++ t.take (j + 1) = ((ts.take i).flatten ++ t.take j) ++ [d] := by rw [List.take_add_one, hd2, List.append_assoc]; rfl
        walk_at "go"
        refine ⟨z, d, rfl, dz2, ndd, ?_⟩
        walk_at "go"
        refine ite2 (fun v => ?_) (fun v => ?_)
        · obtain ⟨n, n0, rfl⟩ := var_num ndd v
          obtain ⟨b, ws2, rfl, sq, aq⟩ := dp_tup dz2
          obtain ⟨w1, hw1, dw1⟩ := DpAll.get (i := 1) aq rfl
          cases dw1
          walk_at "go"
          refine ixT (j := 1) sq hw1 ?_
          walk_at "go"
          refine ⟨_, _, rfl, ?_⟩
          walk_at "go"
          refine ⟨some (.ref b), ?_, rfl⟩
          rw [tk1, stp]
          show [some (V.ref a), some (V.int (if n + 1 > nxt ((ts.take i).flatten ++ t.take j) then n + 1 else nxt ((ts.take i).flatten ++ t.take j))), some (V.ref pz), some (V.ref b)] = [some (V.ref a), some (V.int (max (nxt ((ts.take i).flatten ++ t.take j)) (n + 1))), some (V.ref pz), some (V.ref b)]
          congr 4
          split <;> omega
        · refine ⟨some z, ?_, rfl⟩
          rw [tk1, stp]
          unfold nxN
          rw [if_neg v]
      · rintro σ H3 ⟨v3, rfl, rfl⟩
        rw [lw, List.take_length, ← flat_take ht]
        walk_at "go"
        exact ⟨_, _, rfl, rfl⟩
    · rintro σ H2 ⟨v2, v3, rfl, rfl⟩
      rw [lx, List.take_length]
      walk_at "go"
      exact q _ (Same.refl _)

theorem ok__law_bound {f : Addr} {fd : FuncData} (F : Fun K "_law_bound" "_law_bound" s__law_bound f fd) (E : Bi K mg) (D__law_is_variable : Has P w K mg base 1 "_law_is_variable" ["node"] (sp__law_is_variable K)) (D__law_end : Has P w K mg base 1 "_law_end" ["term", "start"] (sp__law_end K)) : FnOk P w K mg base CX0 2 f fd ["left", "right", "at"] (sp__law_bound K) := by
  obtain ⟨f__law_is_variable, fd__law_is_variable, G__law_is_variable, g__law_is_variable, kp__law_is_variable, b__law_is_variable⟩ := D__law_is_variable
  obtain ⟨f__law_end, fd__law_end, G__law_end, g__law_end, kp__law_end, b__law_end⟩ := D__law_end
  refine F.ok sc__law_bound (fun vs H Q E h => ?_) (fun cdv A outer s H vs Q E' hr h => ?_)
  · obtain ⟨x, y, p, l, r, a, b, k, j, rfl, _⟩ := h
    rfl
  · obtain ⟨x, y, p, l, r, a, b, k, j, rfl, dx, dy, nl, nr, tl, tr, ne, q⟩ := h
    refine ⟨_, (pss_cons (ps_set (i := 3) sc__law_bound.nd rfl (Or.inl rfl) (pe_ix ix_tup (pv 0) (pv 2) (fun _ _ => rfl)))
      (pss_cons (ps_set (i := 4) sc__law_bound.nd rfl (Or.inl rfl) (pe_ix ix_tup (pv 1) (pv 2) (fun _ _ => rfl)))
      (pss_cons (ps_if (pw_and (pt_val (pe_call G__law_is_variable (hr.mono (by decide)) (by rfl) g__law_is_variable kp__law_is_variable b__law_is_variable .nil pass0 (pa_cons (pv 3) pa_nil))) (pw_and1 (pt_val (pe_call G__law_is_variable (hr.mono (by decide)) (by rfl) g__law_is_variable kp__law_is_variable b__law_is_variable .nil pass0 (pa_cons (pv 4) pa_nil))))).pt (pss_one (ps_ret (pe_tup (pa_cons (pe_callB (call_max2 rfl) (by rfl) E.b_max (by decide +kernel) (pa_cons (pe_ix ix_tup (pv 3) pe_int (fun _ _ => rfl)) (pa_cons (pe_ix ix_tup (pv 4) pe_int (fun _ _ => rfl)) pa_nil))) (pa_cons (pe_tup (pa_cons (pe_tup (pa_cons pe_str (pa_cons (pe_callB (call_min2 rfl) (by rfl) E.b_min (by decide +kernel) (pa_cons (pe_ix ix_tup (pv 3) pe_int (fun _ _ => rfl)) (pa_cons (pe_ix ix_tup (pv 4) pe_int (fun _ _ => rfl)) pa_nil))) pa_nil))) pa_nil)) pa_nil))))) pss_nil)
      (pss_cons (ps_if (pt_val (pe_call G__law_is_variable (hr.mono (by decide)) (by rfl) g__law_is_variable kp__law_is_variable b__law_is_variable .nil pass0 (pa_cons (pv 3) pa_nil))) (pss_one (ps_set (i := 5) sc__law_bound.nd rfl (Or.inl rfl) (pe_tup (pa_cons (pe_ix ix_tup (pv 3) pe_int (fun _ _ => rfl)) (pa_cons (pe_slice sl_tupA (pv 1) (po_some (pv 2)) (po_some (pe_call G__law_end (hr.mono (by decide)) (by rfl) g__law_end kp__law_end b__law_end .nil pass0 (pa_cons (pv 1) (pa_cons (pv 2) pa_nil))))) pa_nil))))) (pss_one (ps_if (pt_val (pe_call G__law_is_variable (hr.mono (by decide)) (by rfl) g__law_is_variable kp__law_is_variable b__law_is_variable .nil pass0 (pa_cons (pv 4) pa_nil))) (pss_one (ps_set (i := 5) sc__law_bound.nd rfl (Or.inl rfl) (pe_tup (pa_cons (pe_ix ix_tup (pv 4) pe_int (fun _ _ => rfl)) (pa_cons (pe_slice sl_tupA (pv 0) (po_some (pv 2)) (po_some (pe_call G__law_end (hr.mono (by decide)) (by rfl) g__law_end kp__law_end b__law_end .nil pass0 (pa_cons (pv 0) (pa_cons (pv 2) pa_nil))))) pa_nil))))) (pss_one (ps_ret pe_non)))))
      (pss_cons (ps_if (pt_cmpR (op_inT (units65 hr)) (pe_tup (pa_cons pe_str (pa_cons (pe_ix ix_tup (pv 5) pe_int (fun _ _ => rfl)) pa_nil))) (pe_ix ix_tup (pv 5) pe_int (fun _ _ => rfl)) (by rfl)) (pss_one (ps_ret pe_non)) pss_nil)
      (pss_one (ps_ret (pv 5)))))))), ?_⟩
    refine st_of (σ := [some _, some _, some _, none, none, none]) rfl ?_
    obtain ⟨ax, xs, rfl, sx, axs⟩ := dp_tup dx
    obtain ⟨ay, ys, rfl, sy, ays⟩ := dp_tup dy
    have lx := DpAll.len axs
    have ly := DpAll.len ays
    rw [List.length_append, List.length_cons] at lx ly
    have g1 : (p ++ a :: l)[p.length]? = some a := by rw [List.getElem?_append_right (Nat.le_refl _), Nat.sub_self]; rfl
    have g2 : (p ++ b :: r)[p.length]? = some b := by rw [List.getElem?_append_right (Nat.le_refl _), Nat.sub_self]; rfl
    have na := tl.2 a (.head _)
    have nb := tr.2 b (.head _)
    obtain ⟨w1, hw1, dw1⟩ := DpAll.get axs g1
    obtain ⟨w2, hw2, dw2⟩ := DpAll.get ays g2
    have dL : (p ++ a :: l).drop p.length = a :: l := List.drop_left ..
    have dR : (p ++ b :: r).drop p.length = b :: r := List.drop_left ..
    have tk1 := tk_le (a :: l) 1
    have tk2 := tk_le (b :: r) 1
    rw [List.length_cons] at tk1 tk2
    walk_at "go"
    refine ixT (j := p.length) sx hw1 ?_
    walk_at "go"
    refine ixT (j := p.length) sy hw2 ?_
    walk_at "gs"
    refine ifc (isVarN a && isVarN b) (fun QT hQ => ?_) (fun hA => ?_) (fun hB => ?_)
    · walk_at "go"
      refine ⟨w1, a, rfl, dw1, na, ?_⟩
      walk_at "go"
      by_cases va : isVarN a = true
      · rw [va] at hQ ⊢
        walk_at "go"
        refine ⟨w2, b, rfl, dw2, nb, ?_⟩
        walk_at "go"
        exact hQ
      · rw [Bool.eq_false_iff.mpr va] at hQ ⊢
        walk_at "go"
        exact hQ
    · obtain ⟨va, vb⟩ := Bool.and_eq_true_iff.mp hA
      obtain ⟨n, n0, rfl⟩ := var_num na va
      obtain ⟨m, m0, rfl⟩ := var_num nb vb
      obtain ⟨b1, ws1, rfl, sq1, aq1⟩ := dp_tup dw1
      obtain ⟨u1, hu1, du1⟩ := DpAll.get (i := 1) aq1 rfl
      cases du1
      obtain ⟨b2, ws2, rfl, sq2, aq2⟩ := dp_tup dw2
      obtain ⟨u2, hu2, du2⟩ := DpAll.get (i := 1) aq2 rfl
      cases du2
      walk_at "go"
      refine ixT (j := 1) sq1 hu1 ?_
      walk_at "go"
      refine ixT (j := 1) sq2 hu2 ?_
      walk_at "go"
      refine ⟨_, _, rfl, ?_⟩
      walk_at "go"
      refine ixT (j := 1) sq1 hu1 ?_
      walk_at "go"
      refine ixT (j := 1) sq2 hu2 ?_
      walk_at "go"
      refine ⟨_, _, rfl, ?_⟩
      walk_at "go"
      refine newN (n := 2) rfl (by decide) fun p1 np1 => ?_
      walk_at "go"
      refine newN (n := 1) rfl (by decide) fun p2 np2 => ?_
      walk_at "go"
      refine newN (n := 2) rfl (by decide) fun p3 np3 => ?_
      have mn : n ≠ m := fun z => ne (by rw [z])
      generalize hmx : (if m > n then m else n) = mx at np1 np2 np3 ⊢
      generalize hmi : (if m < n then m else n) = mi at np1 np2 np3 ⊢
      have hb : bindM (.tuple [.str "v", .int n] :: l) (.tuple [.str "v", .int m] :: r) = some (mx, [vN mi]) := by
        show some (if m < n then (n, varN m) else (m, varN n)) = _
        by_cases c : m < n
        · rw [if_pos c] at hmi ⊢
          rw [if_neg (by omega)] at hmx
          rw [← hmi, ← hmx]
          rfl
        · rw [if_neg c] at hmi ⊢
          rw [if_pos (by omega)] at hmx
          rw [← hmi, ← hmx]
          rfl
      have mne : mx ≠ mi := fun z => by
        rw [← hmx, ← hmi] at z
        split at z <;> split at z <;> omega
      rw [hb] at q
      have sp1 := same_upd (o := .tup [V.str (Str.ofString "v"), V.int mi]) np1
      have sp2 := same_upd (o := .tup [V.ref p1]) np2
      have sp3 := same_upd (o := .tup [V.int mx, V.ref p2]) np3
      refine q.2 (fun z => mne (vN_inj (List.mem_singleton.mp z))) p3 (.ref p2) _ (sp1.trans (sp2.trans sp3)) upd_same ?_
      exact .tup (SqT.of (sp3 _ _ upd_same)) (.cons (.tup (SqT.of (sp3 _ _ (sp2 _ _ upd_same))) (.cons (.str _) (.cons (.int _) .nil))) .nil)
    · walk_at "gs"
      refine nx_via (fun σ H' => ∃ (c : Addr) (w : V) (n : Int) (v : List PyData), bindM (a :: l) (b :: r) = some (n, v) ∧ Same H H' ∧ H' c = some (.tup [.int n, w]) ∧ Dp K H' w (.tuple v) ∧ (∀ d ∈ v, NdA d) ∧ NdA (vN n) ∧ σ = [some (.ref ax), some (.ref ay), some (.int (p.length : Nat)), some w1, some w2, some (.ref c)]) ?_ fun hu => ?_
      · rintro σ H1 ⟨c, w, n, v, hb, s1, e1, dw, nv, nn, rfl⟩
        rw [hb] at q
        walk_at "gs"
        walk_at "go"
        refine ixT (j := 0) (SqT.of e1) rfl ?_
        walk_at "go"
        refine newN (n := 2) rfl (by decide) fun p1 np1 => ?_
        have sp1 := same_upd (o := .tup [V.str (Str.ofString "v"), V.int n]) np1
        walk_at "go"
        refine ixT (j := 1) (SqT.of (sp1 _ _ e1)) rfl ?_
        walk_at "go"
        refine ⟨vN n, v, .tup (SqT.of upd_same) (.cons (.str _) (.cons (.int _) .nil)), dp_same sp1 _ _ dw, nd_shaped nn, tup_shaped nv, _, rfl, ite2 (fun hA => ?_) (fun hB => ?_)⟩
        · walk_at "go"
          exact q.1 ((any_nd nv nn).mp hA) _ (s1.trans sp1)
        · walk_at "go"
          exact q.2 (fun z => hB ((any_nd nv nn).mpr z)) c w _ (s1.trans sp1) (sp1 _ _ e1) (dp_same sp1 _ _ dw)
      · refine ifc (isVarN a) (fun QT hQ => ?_) (fun va => ?_) (fun va => ?_)
        · walk_at "go"
          exact ⟨w1, a, rfl, dw1, na, _, rfl, hQ⟩
        · have vb : isVarN b = false := by rw [va, Bool.true_and] at hB; exact hB
          obtain ⟨n, n0, rfl⟩ := var_num na va
          obtain ⟨b1, ws1, rfl, sq1, aq1⟩ := dp_tup dw1
          obtain ⟨u1, hu1, du1⟩ := DpAll.get (i := 1) aq1 rfl
          cases du1
          walk_at "gs"
          refine ixT (j := 1) sq1 hu1 ?_
          walk_at "gs"
          refine ⟨.ref ay, _, p.length, j, rfl, dy, nr, by rw [dR]; exact tr.1, ?_⟩
          rw [dR]
          walk_at "gs"
          refine slA_nat (i := p.length) (j := p.length + tk 1 (b :: r)) sy (by omega) (by omega) fun a5 H2 s2 sq5 _ => ?_
          have d5 : Dp K H2 (.ref a5) (.tuple (sub1 (b :: r))) := by
            refine .tup sq5 ?_
            have := dp_sameAll s2 _ _ (DpAll.taket (p.length + tk 1 (b :: r) - p.length) (DpAll.dropt p.length ays))
            rw [dR, Nat.add_sub_cancel_left] at this
            rw [Nat.add_sub_cancel_left]
            exact this
          walk_at "gs"
          refine newN (n := 2) rfl (by decide) fun p1 np1 => ?_
          walk_at "gs"
          have sp1 := same_upd (o := .tup [V.int n, V.ref a5]) np1
          refine hu _ _ ⟨p1, .ref a5, n, sub1 (b :: r), ?_, s2.trans sp1, upd_same, dp_same sp1 _ _ d5, (tms_sub tr).1.2, na, rfl⟩
          rw [bindM_eq]
          rw [if_pos va, if_neg (show ¬ isVarN b = true by rw [vb]; decide)]
          rfl
        · walk_at "gs"
          refine ifc (isVarN b) (fun QT hQ => ?_) (fun vb => ?_) (fun vb => ?_)
          · walk_at "go"
            exact ⟨w2, b, rfl, dw2, nb, _, rfl, hQ⟩
          · obtain ⟨n, n0, rfl⟩ := var_num nb vb
            obtain ⟨b1, ws1, rfl, sq1, aq1⟩ := dp_tup dw2
            obtain ⟨u1, hu1, du1⟩ := DpAll.get (i := 1) aq1 rfl
            cases du1
            walk_at "gs"
            refine ixT (j := 1) sq1 hu1 ?_
            walk_at "gs"
            refine ⟨.ref ax, _, p.length, k, rfl, dx, nl, by rw [dL]; exact tl.1, ?_⟩
            rw [dL]
            walk_at "gs"
            refine slA_nat (i := p.length) (j := p.length + tk 1 (a :: l)) sx (by omega) (by omega) fun a5 H2 s2 sq5 _ => ?_
            have d5 : Dp K H2 (.ref a5) (.tuple (sub1 (a :: l))) := by
              refine .tup sq5 ?_
              have := dp_sameAll s2 _ _ (DpAll.taket (p.length + tk 1 (a :: l) - p.length) (DpAll.dropt p.length axs))
              rw [dL, Nat.add_sub_cancel_left] at this
              rw [Nat.add_sub_cancel_left]
              exact this
            walk_at "gs"
            refine newN (n := 2) rfl (by decide) fun p1 np1 => ?_
            walk_at "gs"
            have sp1 := same_upd (o := .tup [V.int n, V.ref a5]) np1
            refine hu _ _ ⟨p1, .ref a5, n, sub1 (a :: l), ?_, s2.trans sp1, upd_same, dp_same sp1 _ _ d5, (tms_sub tl).1.2, nb, rfl⟩
            rw [bindM_eq]
            rw [if_neg (show ¬ isVarN a = true by rw [va]; decide), if_pos vb]
            rfl
          · have hb : bindM (a :: l) (b :: r) = none := by
              rw [bindM_eq]
              rw [if_neg (show ¬ isVarN a = true by rw [va]; decide), if_neg (show ¬ isVarN b = true by rw [vb]; decide)]
            rw [hb] at q
            walk_at "go"
            exact q _ (Same.refl H)

theorem ok__law_leaf {f : Addr} {fd : FuncData} (F : Fun K "_law_leaf" "_law_leaf" s__law_leaf f fd) (E : Bi K mg) (D__law_draw : Has P w K mg base 1 "_law_draw" ["stream", "many"] (sp__law_draw K)) : FnOk P w K mg base CX0 2 f fd ["stream", "widest"] (sp__law_leaf K) := by
  obtain ⟨f__law_draw, fd__law_draw, G__law_draw, g__law_draw, kp__law_draw, b__law_draw⟩ := D__law_draw
  refine F.ok sc__law_leaf (fun vs H Q E h => ?_) (fun cdv A outer s H vs Q E' hr h => ?_)
  · obtain ⟨s, l, wd, rfl, _⟩ := h
    rfl
  · obtain ⟨s, l, wd, rfl, hS, hw, hw2, q⟩ := h
    have n9 : (2 : Nat) ^ 140 ≤ 2 ^ 9000 := Nat.pow_le_pow_right (by decide) (by decide)
    refine ⟨_, (pss_cons (ps_set (i := 2) sc__law_leaf.nd rfl (Or.inl rfl) (pe_call G__law_draw (hr.mono (by decide)) (by rfl) g__law_draw kp__law_draw b__law_draw .nil pass0 (pa_cons (pv 0) (pa_cons pe_int pa_nil))))
      (pss_cons (ps_if (pt_cmpR op_lt (pv 2) pe_int (nomark _)) (pss_one (ps_ret (pe_tup (pa_cons (pe_tup (pa_cons pe_str (pa_cons (pe_call G__law_draw (hr.mono (by decide)) (by rfl) g__law_draw kp__law_draw b__law_draw .nil pass0 (pa_cons (pv 0) (pa_cons (pv 1) pa_nil))) pa_nil))) pa_nil)))) pss_nil)
      (pss_cons (ps_if (pt_cmpR op_eq (pv 2) pe_int (nomark _)) (pss_one (ps_ret (pe_tup (pa_cons (pe_tup (pa_cons pe_str (pa_cons (pe_ix ix_list (pe_lst (pa_cons pe_str (pa_cons pe_str (pa_cons pe_str pa_nil)))) (pe_call G__law_draw (hr.mono (by decide)) (by rfl) g__law_draw kp__law_draw b__law_draw .nil pass0 (pa_cons (pv 0) (pa_cons pe_int pa_nil))) (fun _ _ => rfl)) (pa_cons pe_int pa_nil)))) pa_nil)))) pss_nil)
      (pss_cons (ps_if (pt_cmpR op_eq (pe_call G__law_draw (hr.mono (by decide)) (by rfl) g__law_draw kp__law_draw b__law_draw .nil pass0 (pa_cons (pv 0) (pa_cons pe_int pa_nil))) pe_int (nomark _)) (pss_one (ps_ret (pe_tup (pa_cons (pe_ix ix_list (pe_lst (pa_cons (pe_un un_neg pe_int) (pa_cons (pe_op op_pow pe_int pe_int) (pa_cons (pe_op op_add (pe_op op_pow pe_int pe_int) pe_int) (pa_cons (pe_un un_neg (pe_op op_pow pe_int pe_int)) pa_nil))))) (pe_call G__law_draw (hr.mono (by decide)) (by rfl) g__law_draw kp__law_draw b__law_draw .nil pass0 (pa_cons (pv 0) (pa_cons pe_int pa_nil))) (fun _ _ => rfl)) pa_nil)))) pss_nil)
      (pss_one (ps_ret (pe_tup (pa_cons (pe_call G__law_draw (hr.mono (by decide)) (by rfl) g__law_draw kp__law_draw b__law_draw .nil pass0 (pa_cons (pv 0) (pa_cons pe_int pa_nil))) pa_nil)))))))), ?_⟩
    have put : ∀ {Hn : Hp} {p : Addr} {o : HO}, Stm Hn s l → Hn p = Option.none → Stm (upd Hn p o) s l := fun {Hn p o} Sn np => Sn.keep (same_upd np)
    refine seq_asg ?_
    refine ⟨_, rfl, s, l, 4, rfl, hS, by decide, Nat.lt_of_lt_of_le (by decide) n9, fun pick H1 _ _ b1 S1 => ?_⟩
    refine gname (seq_ifN ?_)
    refine ⟨_, rfl, _, _, rfl, rfl, _, rfl, ite2 (fun e => ?_) (fun e => ?_)⟩
    · refine ⟨_, rfl, _, rfl, s, l, wd, rfl, S1, hw, Nat.lt_of_lt_of_le (show wd.natAbs < 2 ^ 140 from Nat.lt_of_le_of_lt (show wd.natAbs ≤ 1000 by omega) (by decide)) n9, fun r H2 r0 r1 b2 S2 => ⟨(by show 2 ≤ sizeLine; decide), fun p np => ⟨(by show 1 ≤ sizeLine; decide), fun p2 np2 => ?_⟩⟩⟩
      have sp := same_upd (o := .tup [.str "v", .int r]) np
      have sp2 := same_upd (o := .tup [.ref p]) np2
      have bb := b1.trans b2
      exact q _ (.tuple [.str "v", .int r]) _ ⟨wd, .v r r0 r1⟩ rfl (bb.trans (But.of (sp.trans sp2))) (S2.keep (sp.trans sp2)) (.tup (fr_of (bb.trans (But.of sp)) (S2.keep sp) _ np2) upd_same (.cons (.tup (fr_of bb S2 _ np) (sp2 _ _ upd_same) (.cons (.str _) (.cons (.int _) .nil))) .nil))
    · refine seq_ifN ?_
      refine ⟨_, rfl, rfl, _, rfl, ite2 (fun e2 => ?_) (fun e2 => ?_)⟩
      · refine tup_of (args1 (tup_of (args1 (const_of (args1 (op_of ?_))))))
        refine lit_lst (K := K) (ds := abc.map PyData.str) ?_ (by decide) H1 _ fun v0 H0 t0 i0 => ?_
        · unfold abc
          simp only [List.map_cons, List.map_nil]
          walk_at "lits"
        cases i0 with
        | @lst p0 xs0 _ g0 e0 a0 =>
        obtain ⟨os1, hos1⟩ := S1.at_s
        have np0 : p0 ≠ s := fun z => by
          rw [z, hos1] at g0
          cases g0
        refine ⟨_, rfl, s, l, 3, rfl, S1.keep t0, by decide, Nat.lt_of_lt_of_le (by decide) n9, fun r H2 r0 r1 b2 S2 => ?_⟩
        obtain ⟨y, hy, hat⟩ := lit_pick a0 r0 r1
        refine ⟨_, _, _, _, rfl, rfl, SqL.of (b2 _ _ np0 e0), hat, ?_⟩
        refine ⟨(by show 3 ≤ sizeLine; decide), fun p np => ⟨(by show 1 ≤ sizeLine; decide), fun p2 np2 => ?_⟩⟩
        have hyo : okName y = true := List.all_eq_true.mp (show abc.all okName = true by decide +kernel) y hy
        have sp := same_upd (o := .tup [.str "f", .str y, .int 0]) np
        have sp2 := same_upd (o := .tup [.ref p]) np2
        have bb := (b1.trans (But.of t0)).trans b2
        exact q _ (.tuple [.str "f", .str y, .int 0]) _ ⟨1, .f y 0 hyo (by decide) (by decide)⟩ rfl (bb.trans (But.of (sp.trans sp2))) (S2.keep (sp.trans sp2)) (.tup (fr_of (bb.trans (But.of sp)) (S2.keep sp) _ np2) upd_same (.cons (.tup (fr_of bb S2 _ np) (sp2 _ _ upd_same) (.cons (.str _) (.cons (.str _) (.cons (.int _) .nil)))) .nil))
      · refine seq_ifN ?_
        refine ⟨_, rfl, s, l, 8, rfl, S1, by decide, Nat.lt_of_lt_of_le (by decide) n9, fun r0 H2 _ _ b2 S2 => ⟨rfl, _, rfl, ite2 (fun e3 => ?_) (fun e3 => ?_)⟩⟩
        · refine tup_of (args1 (op_of ?_))
          refine lit_lst (K := K) (ds := fourI.map PyData.int) ?_ (by decide) H2 _ fun v0 H0 t0 i0 => ?_
          · exact litA_cons (lit_neg lit_int) (litA_cons (lit_pow lit_int lit_int ⟨by decide, by decide, by decide⟩) (litA_cons (lit_add (lit_pow lit_int lit_int ⟨by decide, by decide, by decide⟩) lit_int) (litA_cons (lit_neg (lit_pow lit_int lit_int ⟨by decide, by decide, by decide⟩)) litA_nil)))
          cases i0 with
          | @lst p0 xs0 _ g0 e0 a0 =>
          obtain ⟨os1, hos1⟩ := S2.at_s
          have np0 : p0 ≠ s := fun z => by
            rw [z, hos1] at g0
            cases g0
          refine ⟨_, rfl, s, l, 4, rfl, S2.keep t0, by decide, Nat.lt_of_lt_of_le (by decide) n9, fun r H3 r0 r1 b3 S3 => ?_⟩
          obtain ⟨y, hy, hat⟩ := int_pick a0 r0 r1
          refine ⟨_, _, _, _, rfl, rfl, SqL.of (b3 _ _ np0 e0), hat, ?_⟩
          refine ⟨(by show 1 ≤ sizeLine; decide), fun p np => ?_⟩
          obtain ⟨y1, y2⟩ := fourI_ok y hy
          have bb := ((b1.trans b2).trans (But.of t0)).trans b3
          exact q _ (.int y) _ ⟨1, .i y y1 y2⟩ rfl (bb.trans (But.of (same_upd np))) (put S3 np) (.tup (fr_of bb S3 _ np) upd_same (.cons (.int _) .nil))
        · refine ⟨_, rfl, s, l, 3, rfl, S2, by decide, Nat.lt_of_lt_of_le (by decide) n9, fun r H3 r0 r1 b3 S3 => ⟨(by show 1 ≤ sizeLine; decide), fun p np => ?_⟩⟩
          have bb := (b1.trans b2).trans b3
          exact q _ (.int r) _ ⟨1, .i r (by omega) (by omega)⟩ rfl (bb.trans (But.of (same_upd np))) (put S3 np) (.tup (fr_of bb S3 _ np) upd_same (.cons (.int _) .nil))

theorem ok__law_atom {f : Addr} {fd : FuncData} (F : Fun K "_law_atom" "_law_atom" s__law_atom f fd) (E : Bi K mg) (D__law_draw : Has P w K mg base 1 "_law_draw" ["stream", "many"] (sp__law_draw K)) : FnOk P w K mg base CX0 2 f fd ["stream"] (sp__law_atom K) := by
  obtain ⟨f__law_draw, fd__law_draw, G__law_draw, g__law_draw, kp__law_draw, b__law_draw⟩ := D__law_draw
  refine F.ok sc__law_atom (fun vs H Q E h => ?_) (fun cdv A outer s H vs Q E' hr h => ?_)
  · obtain ⟨s, l, rfl, _⟩ := h
    rfl
  · obtain ⟨s, l, rfl, hS, q⟩ := h
    have n9 : (2 : Nat) ^ 8 ≤ 2 ^ 9000 := Nat.pow_le_pow_right (by decide) (by decide)
    refine ⟨_, (pss_one (ps_ret (pe_tup (pa_cons (pe_tup (pa_cons pe_str (pa_cons (pe_ix ix_list (pe_lst (pa_cons pe_str (pa_cons pe_str (pa_cons pe_str (pa_cons pe_str pa_nil))))) (pe_call G__law_draw (hr.mono (by decide)) (by rfl) g__law_draw kp__law_draw b__law_draw .nil pass0 (pa_cons (pv 0) (pa_cons pe_int pa_nil))) (fun _ _ => rfl)) (pa_cons pe_int pa_nil)))) pa_nil)))), ?_⟩
    refine st_of (σ := [some _]) rfl ?_
    refine tup_of (args1 (tup_of (args1 (const_of (args1 (op_of ?_))))))
    refine lit_lst (K := K) (ds := abcd.map PyData.str) ?_ (by decide) H _ fun v0 H0 t0 i0 => ?_
    · unfold abcd
      simp only [List.map_cons, List.map_nil]
      walk_at "lits"
    cases i0 with
    | @lst p0 xs0 _ g0 e0 a0 =>
    obtain ⟨os1, hos1⟩ := hS.at_s
    have np0 : p0 ≠ s := fun z => by
      rw [z, hos1] at g0
      cases g0
    refine ⟨_, rfl, s, l, 4, rfl, hS.keep t0, by decide, Nat.lt_of_lt_of_le (by decide) n9, fun r H2 r0 r1 b2 S2 => ?_⟩
    obtain ⟨y, hy, hat⟩ := lit_pick a0 r0 r1
    refine ⟨_, _, _, _, rfl, rfl, SqL.of (b2 _ _ np0 e0), hat, ?_⟩
    refine ⟨(by show 3 ≤ sizeLine; decide), fun p np => ⟨(by show 1 ≤ sizeLine; decide), fun p2 np2 => ?_⟩⟩
    have sp := same_upd (o := .tup [.str "f", .str y, .int 0]) np
    have sp2 := same_upd (o := .tup [.ref p]) np2
    exact q _ y _ hy (((But.of t0).trans b2).trans (But.of (sp.trans sp2))) (S2.keep (sp.trans sp2)) (.tup (SqT.of upd_same) (.cons (.tup (SqT.of (sp2 _ _ upd_same)) (.cons (.str _) (.cons (.str _) (.cons (.int _) .nil)))) .nil))

theorem ok__law_large {f : Addr} {fd : FuncData} (F : Fun K "_law_large" "_law_large" s__law_large f fd) (E : Bi K mg) (D__law_draw : Has P w K mg base 1 "_law_draw" ["stream", "many"] (sp__law_draw K)) : FnOk P w K mg base CX0 2 f fd ["stream"] (sp__law_large K) := by
  obtain ⟨f__law_draw, fd__law_draw, G__law_draw, g__law_draw, kp__law_draw, b__law_draw⟩ := D__law_draw
  refine F.ok sc__law_large (fun vs H Q E h => ?_) (fun cdv A outer s H vs Q E' hr h => ?_)
  · obtain ⟨s, l, rfl, _⟩ := h
    rfl
  · obtain ⟨s, l, rfl, hS, q⟩ := h
    have n9 : (2 : Nat) ^ 8 ≤ 2 ^ 9000 := Nat.pow_le_pow_right (by decide) (by decide)
    refine ⟨_, (pss_cons (ps_set (i := 1) sc__law_large.nd rfl (Or.inl rfl) (pe_op op_add pe_int (pe_call G__law_draw (hr.mono (by decide)) (by rfl) g__law_draw kp__law_draw b__law_draw .nil pass0 (pa_cons (pv 0) (pa_cons pe_int pa_nil)))))
      (pss_cons (ps_set (i := 2) sc__law_large.nd rfl (Or.inl rfl) (pe_op op_catA (pe_op op_repA (pe_tup (pa_cons (pe_tup (pa_cons pe_str (pa_cons pe_str (pa_cons pe_int pa_nil)))) pa_nil)) (pv 1)) (pe_tup (pa_cons (pe_tup (pa_cons pe_str (pa_cons pe_int pa_nil))) pa_nil))))
      (pss_cons (ps_if (pt_cmpR op_eq (pe_call G__law_draw (hr.mono (by decide)) (by rfl) g__law_draw kp__law_draw b__law_draw .nil pass0 (pa_cons (pv 0) (pa_cons pe_int pa_nil))) pe_int (nomark _)) (pss_one (ps_ret (pe_op op_catA (pe_op op_catA (pe_tup (pa_cons (pe_tup (pa_cons pe_str (pa_cons pe_str (pa_cons pe_int pa_nil)))) (pa_cons (pe_tup (pa_cons pe_str (pa_cons pe_str (pa_cons pe_int pa_nil)))) pa_nil))) (pv 2)) (pe_tup (pa_cons (pe_tup (pa_cons pe_str (pa_cons pe_str (pa_cons pe_int pa_nil)))) (pa_cons (pe_tup (pa_cons pe_str (pa_cons pe_int pa_nil))) pa_nil)))))) pss_nil)
      (pss_one (ps_ret (pe_op op_catA (pe_op op_catA (pe_tup (pa_cons (pe_tup (pa_cons pe_str (pa_cons pe_str (pa_cons pe_int pa_nil)))) pa_nil)) (pv 2)) (pe_tup (pa_cons (pe_tup (pa_cons pe_str (pa_cons pe_int pa_nil))) pa_nil)))))))), ?_⟩
    refine st_of (σ := [some _, none, none]) rfl ?_
    walk_at "go"
    refine ⟨s, l, 90, rfl, hS, by decide, Nat.lt_of_lt_of_le (by decide) n9, fun n H1 n0 n1 b1 S1 => ?_⟩
    walk_at "go"
    refine newN (n := 3) rfl (by decide) fun P1 nP1 => ?_
    have sP1 := same_upd (o := .tup [V.str (Str.ofString "f"), V.str (Str.ofString "s"), V.int 1]) nP1
    walk_at "go"
    refine newN (n := 1) rfl (by decide) fun P2 nP2 => ?_
    have sP2 := same_upd (o := .tup [V.ref P1]) nP2
    walk_at "go"
    refine ⟨P2, 20 + n, [V.ref P1], rfl, rfl, SqT.of upd_same, List.cons_ne_nil _ _, by omega, by omega, by show 1 ≤ 1000; decide, fun z => by omega, fun P3 nP3 => ?_⟩
    have sP3 := same_upd (o := .tup (List.replicate (20 + n).toNat [V.ref P1]).flatten) nP3
    have rep1 : ∀ (k : Nat), DpAll K (upd (upd (upd H1 P1 (.tup [V.str (Str.ofString "f"), V.str (Str.ofString "s"), V.int 1])) P2 (.tup [V.ref P1])) P3 (.tup (List.replicate (20 + n).toNat [V.ref P1]).flatten)) (List.replicate k [V.ref P1]).flatten (List.replicate k (nodeF "s" 1)) := by
      intro k
      induction k with
      | zero => exact .nil
      | succ k ih =>
        rw [List.replicate_succ, List.replicate_succ, List.flatten_cons]
        exact .cons (.tup (SqT.of (sP3 _ _ (sP2 _ _ upd_same))) (.cons (.str _) (.cons (.str _) (.cons (.int _) .nil)))) ih
    have d3 : Dp K (upd (upd (upd H1 P1 (.tup [V.str (Str.ofString "f"), V.str (Str.ofString "s"), V.int 1])) P2 (.tup [V.ref P1])) P3 (.tup (List.replicate (20 + n).toNat [V.ref P1]).flatten)) (.ref P3) (.tuple (List.replicate (20 + n).toNat (nodeF "s" 1))) := .tup (SqT.of upd_same) (rep1 _)
    have sA := sP1.trans (sP2.trans sP3)
    clear rep1
    generalize (upd (upd (upd H1 P1 (.tup [V.str (Str.ofString "f"), V.str (Str.ofString "s"), V.int 1])) P2 (.tup [V.ref P1])) P3 (.tup (List.replicate (20 + n).toNat [V.ref P1]).flatten)) = H2 at d3 sA ⊢
    obtain ⟨m, hm⟩ : ∃ m, (20 + n).toNat = m := ⟨_, rfl⟩
    rw [hm] at d3
    have lm : m ≤ 110 := by omega
    walk_at "go"
    refine newN (n := 2) rfl (by decide) fun P4 nP4 => ?_
    have sP4 := same_upd (o := .tup [V.str (Str.ofString "v"), V.int 0]) nP4
    walk_at "go"
    refine newN (n := 1) rfl (by decide) fun P5 nP5 => ?_
    have sP5 := same_upd (o := .tup [V.ref P4]) nP5
    have dV : Dp K (upd (upd H2 P4 (.tup [V.str (Str.ofString "v"), V.int 0])) P5 (.tup [V.ref P4])) (.ref P5) (.tuple [vN 0]) := .tup (SqT.of upd_same) (.cons (.tup (SqT.of (sP5 _ _ upd_same)) (.cons (.str _) (.cons (.int _) .nil))) .nil)
    refine cat_dpA (dp_same (sP4.trans sP5) _ _ d3) dV (by rw [List.length_replicate, List.length_singleton]; omega) fun v6 H6 s6 d6 => ?_
    have sB := sA.trans ((sP4.trans sP5).trans s6)
    have lrow : (List.replicate m (nodeF "s" 1) ++ [vN 0]).length = m + 1 := by rw [List.length_append, List.length_replicate, List.length_singleton]
    have rowT : Tms 1 (List.replicate m (nodeF "s" 1) ++ [vN 0]) := by
      have sN : NdA (nodeF "s" 1) := ⟨1, .f "s" 1 (by decide +kernel) (by decide) (by decide)⟩
      have vNd : NdA (vN 0) := ⟨1, .v 0 (by decide) (by decide)⟩
      clear hm lm d3 d6 lrow
      induction m with
      | zero => exact ⟨⟨by decide, rfl⟩, fun d hd => by rw [List.mem_singleton.mp hd]; exact vNd⟩
      | succ m ih =>
        rw [List.replicate_succ]
        refine ⟨⟨by decide, ih.1⟩, fun d hd => ?_⟩
        rcases List.mem_cons.mp hd with rfl | hd
        · exact sN
        · exact ih.2 d hd
    generalize List.replicate m (nodeF "s" 1) ++ [vN 0] = row at d6 lrow rowT
    have b6 := b1.trans (But.of sB)
    have S6 := S1.keep sB
    walk_at "go"
    refine ⟨s, l, 2, rfl, S6, by decide, Nat.lt_of_lt_of_le (by decide) n9, fun c H7 c0 c1 b7 S7 => ?_⟩
    have d7 := dp_but S6 b7 rowT.2 d6
    have b17 := b6.trans b7
    walk_at "go"
    refine ite2 (fun e => ?_) (fun e => ?_)
    · refine op_of (op_of ?_)
      refine lit_tup (K := K) (ds := [nodeF "q" 2, nodeF "s" 1]) ?_ (by decide) H7 _ fun v8 H8 t8 i8 => ?_
      · unfold nodeF
        walk_at "lits"
      walk_at "go"
      refine cat_dpA (Im.dp _ _ i8) (dp_same t8 _ _ d7) (by show 2 + _ ≤ _; omega) fun v9 H9 s9 d9 => ?_
      refine lit_tup (K := K) (ds := [nodeF "s" 1, vN 1]) ?_ (by decide) H9 _ fun v10 H10 t10 i10 => ?_
      · unfold nodeF vN
        walk_at "lits"
      refine cat_dpA (dp_same t10 _ _ d9) (Im.dp _ _ i10) (by rw [List.length_append]; show 2 + _ + 2 ≤ _; omega) fun v11 H11 s11 d11 => ?_
      have sC := t8.trans (s9.trans (t10.trans s11))
      refine q v11 _ H11 ⟨tms_q (tms_s rowT) (tms_s (tms_v (by decide))), (show isG (nodeF "q" 2) = true by decide +kernel), ?_⟩ (b17.trans (But.of sC)) (S7.keep sC) d11
      rw [List.length_cons, List.length_append, List.length_cons]
      show _ + 2 + 1 ≤ _
      omega
    · refine nxp ?_
      refine op_of (op_of ?_)
      refine lit_tup (K := K) (ds := [nodeF "q" 2]) ?_ (by decide) H7 _ fun v8 H8 t8 i8 => ?_
      · unfold nodeF
        walk_at "lits"
      walk_at "go"
      refine cat_dpA (Im.dp _ _ i8) (dp_same t8 _ _ d7) (by show 1 + _ ≤ _; omega) fun v9 H9 s9 d9 => ?_
      refine lit_tup (K := K) (ds := [vN 1]) ?_ (by decide) H9 _ fun v10 H10 t10 i10 => ?_
      · unfold vN
        walk_at "lits"
      refine cat_dpA (dp_same t10 _ _ d9) (Im.dp _ _ i10) (by rw [List.length_append]; show 1 + _ + 1 ≤ _; omega) fun v11 H11 s11 d11 => ?_
      have sC := t8.trans (s9.trans (t10.trans s11))
      refine q v11 _ H11 ⟨tms_q rowT (tms_v (by decide)), (show isG (nodeF "q" 2) = true by decide +kernel), ?_⟩ (b17.trans (But.of sC)) (S7.keep sC) d11
      rw [List.length_cons, List.length_append]
      show _ + 1 + 1 ≤ _
      omega

theorem ok_end_of {f : Addr} {fd : FuncData} (F : Fun K "end_of" "end_of" s_end_of f fd) (E : Bi K mg) (D_arity_of : Has P w K mg base 2 "arity_of" ["node"] (sp_arity_of K)) : FnOk P w K mg base CX0 3 f fd ["nodes", "start"] (sp_end_of K) := by
  obtain ⟨f_arity_of, fd_arity_of, G_arity_of, g_arity_of, kp_arity_of, b_arity_of⟩ := D_arity_of
  refine F.ok sc_end_of (fun vs H Q E h => ?_) (fun cdv A outer s H vs Q E' hr h => ?_)
  · obtain ⟨x, ds, i, k, rfl, _⟩ := h
    rfl
  · obtain ⟨x, ds, i, k, rfl, hd, hn, hc, q⟩ := h
    refine ⟨_, (pss_cons (ps_set (i := 2) sc_end_of.nd rfl (Or.inl rfl) pe_int)
      (pss_cons (ps_set (i := 3) sc_end_of.nd rfl (Or.inl rfl) (pv 1))
      (pss_cons (ps_while PassesOwn.never (pt_cmpR op_gt (pv 2) pe_int (nomark _)) (pss_cons (ps_aug (i := 2) sc_end_of.nd rfl (Or.inl rfl) (pe_op op_sub (pe_call G_arity_of (hr.mono (by decide)) (by rfl) g_arity_of kp_arity_of b_arity_of .nil pass0 (pa_cons (pe_ix ix_tup (pv 0) (pv 3) (fun _ _ => rfl)) pa_nil)) pe_int) ip_add)
      (pss_one (ps_aug (i := 3) sc_end_of.nd rfl (Or.inl rfl) pe_int ip_add))))
      (pss_one (ps_ret (pv 3)))))), ?_⟩
    cases hd with
    | @tup a xs _ hs ha =>
    refine seq_asg (gname (seq_asg ?_))
    refine ⟨_, rfl, ?_⟩
    refine gname (seq_any ?_)
    refine ⟨fun n σ H' => ∃ (m j kk : Nat), σ = [some (.ref a), some (.int (i : Int)), some (.int (m : Int)), some (.int (j : Int))] ∧ H' = H ∧ Cls kk (ds.drop j) ∧ m ≤ kk ∧ j + tk m (ds.drop j) = i + tk 1 (ds.drop i) ∧ n = ds.length - j,
      ⟨_, 1, i, k + 1, rfl, rfl, hc, by omega, rfl, rfl⟩, ?_⟩
    rintro n σ H1 ⟨m, j, kk, rfl, rfl, h1, h2, h3, rfl⟩
    refine ⟨_, rfl, _, _, rfl, rfl, _, rfl, ite2 (fun e => ?_) (fun e => ?_)⟩
    · have hm : 0 < m := by
        have := of_decide_eq_true e
        omega
      cases hl : ds.drop j with
      | nil =>
        rw [hl] at h1
        have : kk = 0 := h1
        omega
      | cons d r =>
        rw [hl] at h1 h3
        have hj : j < ds.length := by
          rcases Nat.lt_or_ge j ds.length with h | h
          · exact h
          · rw [List.drop_of_length_le h] at hl; cases hl
        have hdj : ds[j]? = some d := by
          rw [← List.head?_drop, hl]
          rfl
        have hr : ds.drop (j + 1) = r := by
          rw [← List.drop_drop, hl]
          rfl
        obtain ⟨v, hv, hdv⟩ := DpAll.get ha hdj
        refine ⟨fun σ' H' => ∃ (m' kk' : Nat), σ' = [some (.ref a), some (.int (i : Int)), some (.int (m' : Int)), some (.int ((j + 1 : Nat) : Int))] ∧ H' = H1 ∧ Cls kk' (ds.drop (j + 1)) ∧ m' ≤ kk' ∧ j + 1 + tk m' (ds.drop (j + 1)) = i + tk 1 (ds.drop i),
          fun σ' H' ⟨m', kk', g1, g2, g3, g4, g5⟩ => ⟨ds.length - (j + 1), by omega, m', j + 1, kk', g1, g2, g3, g4, g5, rfl⟩, ?_⟩
        refine ⟨_, rfl, _, rfl, _, rfl, _, _, _, _, rfl, rfl, hs, atI_nat (j := j) hv, v, d, rfl, hdv, hn d (List.mem_of_getElem? hdj), _, _, rfl, rfl, _, _, rfl, rfl, ?_⟩
        refine ⟨_, rfl, _, _, rfl, rfl, ?_⟩
        refine ⟨m - 1 + arN d, kk - 1 + arN d, ?_, rfl, by rw [hr]; exact h1.2, by omega, ?_⟩
        · rw [show ((m - 1 + arN d : Nat) : Int) = (m : Int) + ((arN d : Int) - 1) by omega]
          rfl
        · rw [tk_cons hm] at h3
          rw [hr]
          omega
    · have hm : m = 0 := by
        cases m with
        | zero => rfl
        | succ m => exact absurd (decide_eq_true (by omega)) e
      subst hm
      refine nxp ?_
      refine ⟨_, rfl, ?_⟩
      rw [tk_zero] at h3
      rw [← h3] at q
      exact q

theorem ok_renumber_together {f : Addr} {fd : FuncData} (F : FunD K "renumber_together" "renumber_together" (defArgs s_renumber_together) (defBody s_renumber_together) (defScope s_renumber_together) [V.int 0] [] f fd) (E : Bi K mg) (D_renumber : HasD P w K mg base 2 "renumber" ["term", "first"] [V.int 0] (sp_renumber K)) : FnOk P w K mg base CX0 3 f fd ["terms", "first"] (sp_renumber_together K) := by
  obtain ⟨f_renumber, fd_renumber, G_renumber, g_renumber, kp_renumber, ⟨ds_renumber, v_renumber, b_renumber⟩, ⟨df_renumber, vf_renumber, bf_renumber⟩⟩ := D_renumber
  refine F.ok sc_renumber_together (fun vs H Q E h => ?_) (fun cdv A outer s H vs Q E' hr h => ?_)
  · obtain ⟨a, ts, f, rfl, _⟩ := h
    rfl
  · obtain ⟨a, ts, f, rfl, ⟨xs, hs, ha⟩, nd, sz, hl, q⟩ := h
    refine ⟨_, (PSs.nox (pss_cons (ps_set (i := 2) sc_renumber_together.nd rfl (Or.inl rfl) (pe_call G_renumber (hr.mono (by decide)) (by rfl) g_renumber kp_renumber bf_renumber vf_renumber pass0 (pa_cons (pe_lc2 (own := [("term", 3), ("node", 4)]) (vs1 := [4]) (g := gName 3) (g1 := gName 4) (tt := tYes) (tt1 := tYes) rfl sc_renumber_together.nd (pi_list (pv 0)) (blkOk_by (N := N_renumber_together) (sc := defScope s_renumber_together) (by decide +kernel)) (by decide) (fun _ _ _ _ _ => pg_name (i := 3) sc_renumber_together.nd rfl (Or.inl rfl)) (fun _ _ _ _ _ => pts_nil) (fun _ _ _ _ _ => (show PI _ _ _ (iTup K _) from pi_tup (pv 3))) (fun _ _ _ _ _ => pg_name (i := 4) sc_renumber_together.nd rfl (Or.inl rfl)) (fun _ _ _ _ _ => pts_nil) (fun _ _ _ _ _ => (pv 4))) (pa_cons (pv 1) pa_nil))))
      (pss_cons (ps_set (i := 5) sc_renumber_together.nd rfl (Or.inl rfl) (pe_lst pa_nil))
      (pss_cons (ps_set (i := 6) sc_renumber_together.nd rfl (Or.inl rfl) pe_int)
      (pss_cons (ps_for PassesOwn.never rfl (pi_list (pv 0)) (pg_name (i := 3) sc_renumber_together.nd rfl (Or.inl rfl)) (pss_cons (ps_expr (pe_bm PySem.F.plainAttrs_list PySem.F.slot_list_append PySem.F.type_list_append mt_append (pv 5) (pa_cons (pe_slice sl_tupA (pv 2) (po_some (pv 6)) (po_some (pe_op op_add (pv 6) (pe_callB call_len_seq (by rfl) E.b_len PySem.boot_len (pa_cons (pv 3) pa_nil))))) pa_nil)))
      (pss_one (ps_aug (i := 6) sc_renumber_together.nd rfl (Or.inl rfl) (pe_callB call_len_seq (by rfl) E.b_len PySem.boot_len (pa_cons (pv 3) pa_nil)) ip_add))))
      (pss_one (ps_ret (pv 5)))))))), ?_⟩
    refine st_of (σ := [some _, some _, none, none, none, none, none]) rfl ?_
    walk_at "go"
    have lx := DpAll.len ha
    rw [List.length_map] at lx
    have flen : ∀ i, ((ts.take i).flatten).length ≤ 100000 := fun i => Nat.le_trans (szT_le ts i) sz
    refine g_lc2 ?_
    walk_at "go"
    refine ⟨a, rfl, ⟨_, hs⟩, fun D nD => ?_⟩
    refine walk_gen (n := xs.length) walk_list (fun i H' => Same H H' ∧ ∃ ys, H' D = some (.lst ys) ∧ DpAll K H' ys ((ts.take i).flatten)) ⟨same_upd nD, [], upd_same, .nil⟩ (fun i H' _ h => same_sqL h.1 hs) ?_ ?_
    · rintro i z H1 H2 hi ⟨s1, ys, e1, d1⟩ ⟨rfl, hz⟩
      rw [lx] at hi
      have ht := List.getElem?_eq_getElem hi
      obtain ⟨dd, hd, dz0⟩ := DpAll.getV ha hz
      rw [List.getElem?_map, ht] at hd
      cases hd
      generalize ts[i] = t at ht dz0
      obtain ⟨pz, ws, rfl, sz2, az⟩ := dp_tup dz0
      have lw := DpAll.len az
      walk_at "wp"
      walk_at "go"
      refine ⟨rfl, ?_⟩
      walk_at "go"
      refine ⟨pz, rfl, ⟨_, same_sqT s1 sz2⟩, ?_⟩
      refine walk_gen (n := ws.length) walk_tup (fun j H' => Same H H' ∧ ∃ ys, H' D = some (.lst ys) ∧ DpAll K H' ys ((ts.take i).flatten ++ t.take j)) ⟨s1, ys, e1, by rw [List.take_zero, List.append_nil]; exact d1⟩ (fun j H' _ h => same_sqT h.1 sz2) ?_ ?_
      · rintro j z H3 H4 hj ⟨s3, zs, e3, d3⟩ ⟨rfl, hz2⟩
        obtain ⟨d, hd2, dz2⟩ := DpAll.getV az hz2
        walk_at "wp"
        walk_at "go"
        refine ⟨rfl, ?_⟩
        walk_at "go"
        have ly := DpAll.len d3
        rw [List.length_append, List.length_take] at ly
        have f1 := flen (i + 1)
        rw [flat_take ht, List.length_append] at f1
        refine ⟨zs, e3, Nat.lt_of_le_of_lt (show _ ≤ 1000000 by omega) (by decide), same_new nD s3, zs ++ [z], upd_same, ?_⟩
        rw [List.take_add_one, hd2, ← List.append_assoc]
        have nt : notTup H4 D := .inl ⟨_, e3⟩
        have nn : ∀ x ∈ (ts.take i).flatten ++ t.take j, NdA x := fun x hx => by
          rcases List.mem_append.mp hx with hx | hx
          · obtain ⟨u, hu, hx⟩ := List.mem_flatten.mp hx
            exact nd u (List.mem_of_mem_take hu) x hx
          · exact nd t (List.mem_of_getElem? ht) x (List.mem_of_mem_take hx)
        exact dpAll_end (dp_putAll nt _ _ (nds_noL nn) d3) (dp_put nt _ _ (nd_noL (nd t (List.mem_of_getElem? ht) d (List.mem_of_getElem? hd2))) (dp_same s3 _ _ dz2))
      · rintro H3 ⟨s3, zs, e3, d3⟩
        rw [lw, List.take_length, ← flat_take ht] at d3
        exact ⟨s3, zs, e3, d3⟩
    · rintro H1 ⟨s1, ys, e1, d1⟩
      rw [lx, List.take_length] at d1
      walk_at "go"
      refine ⟨.ref D, ts.flatten, f, rfl, .lst (SqL.of e1) d1, nd.flat, sz, fun v H2 s2 d2 => ?_⟩
      rw [renT_flat] at d2
      have s12 := s1.trans s2
      walk_at "go"
      refine newN (n := 0) rfl (by decide) fun R nR => ?_
      walk_at "go"
      have sR := same_upd (o := .lst []) nR
      obtain ⟨pv', us, rfl, su, au⟩ := dp_tup d2
      have lus := DpAll.len au
      have lR : (renT f ts).flatten.length = ts.flatten.length := by rw [← renT_flat]; unfold renM; rw [List.length_map]
      refine ⟨a, rfl, ⟨_, same_sqL (s12.trans sR) hs⟩, for_list (K := K) (a := a) (xs := xs) (fun i σ H' => ∃ (vt : Option V) (zs : List V), σ = [some (.ref a), some (.int f), some (.ref pv'), vt, none, some (.ref R), some (.int (szT (ts.take i) : Nat))] ∧ Same H2 H' ∧ H' R = some (.lst zs) ∧ DpAll K H' zs (((renT f ts).take i).map PyData.tuple))
        ⟨none, [], rfl, sR, upd_same, .nil⟩ (fun i σ H' _ ⟨_, _, _, e, _⟩ => same_sqL (s12.trans e) hs) ?_ ?_⟩
      · rintro i z σ H3 hz ⟨vt, zs, rfl, s3, h3, d3⟩
        obtain ⟨dd, hd, dz0⟩ := DpAll.getV ha hz
        have hi := (List.getElem?_eq_some_iff.mp hz).1
        rw [lx] at hi
        have ht := List.getElem?_eq_getElem hi
        rw [List.getElem?_map, ht] at hd
        cases hd
        generalize ts[i] = t at ht dz0
        obtain ⟨pz, ws, rfl, sz2, az⟩ := dp_tup (dp_same (s12.trans s3) _ _ dz0)
        have lw := DpAll.len az
        have lzs := DpAll.len d3
        rw [List.length_map, List.length_take, renT_len] at lzs
        have st := szT_succ ht
        have l1 := szT_le ts (i + 1)
        have lsz : szT ts = ts.flatten.length := rfl
        have hr := renT_at (f := f) ht
        have cut := cut_flat hr
        have rsz : szT ((renT f ts).take i) = szT (ts.take i) := by
          unfold szT renT
          rw [← List.map_take]
          rw [List.length_flatten, List.length_flatten, List.map_map]
          congr 1
          exact List.map_congr_left fun x _ => List.length_map _
        rw [rsz, List.length_map] at cut
        walk_at "go"
        refine tyl (SqL.of h3) ?_
        walk_at "go"
        refine ⟨pz, ws, rfl, .inr sz2, _, _, rfl, rfl, _, rfl, ?_⟩
        show rSlA K (.ref pv') (some ((szT (ts.take i) : Nat) : Int)) (some ((szT (ts.take i) + ws.length : Nat) : Int)) H3 _
        refine slA_nat (same_sqT s3 su) (by omega) (by omega) fun b1 H4 s4 t4 _ => ?_
        have d5 : Dp K H4 (.ref b1) (.tuple (t.map (mapD (gN f ts.flatten)))) := by
          refine .tup t4 ?_
          have := DpAll.taket (szT (ts.take i) + ws.length - szT (ts.take i)) (DpAll.dropt (szT (ts.take i)) (dp_sameAll (s3.trans s4) _ _ au))
          rw [show szT (ts.take i) + ws.length - szT (ts.take i) = t.length by omega, cut] at this
          rw [show szT (ts.take i) + ws.length - szT (ts.take i) = t.length by omega]
          exact this
        have h4 := s4 _ _ h3
        have nt : notTup H4 R := .inl ⟨_, h4⟩
        walk_at "go"
        refine ⟨_, _, _, rfl, rfl, h4, Nat.lt_of_le_of_lt (show _ ≤ 1000000 by omega) (by decide), ?_⟩
        walk_at "go"
        refine ⟨pz, ws, rfl, .inr (sqT_put nt (same_sqT s4 sz2)), ?_⟩
        refine ⟨_, _, rfl, rfl, some (.ref pz), zs ++ [.ref b1], ?_, fun b u e => ?_, upd_same, ?_⟩
        · rw [st, ← lw]
          rfl
        · rw [upd_ne (ne_of_none e nR)]
          exact s4 _ _ (s3 _ _ e)
        · rw [List.take_add_one, hr, List.map_append]
          exact dpAll_end (dp_putAll nt _ _ (by unfold renT; rw [← List.map_take]; exact renT_noL fun x hx => nd x (List.mem_of_mem_take hx)) (dp_sameAll s4 _ _ d3)) (dp_put nt _ _ (renT_noL1 (nd t (List.mem_of_getElem? ht))) d5)
      · rintro σ H3 ⟨vt, zs, rfl, s3, h3, d3⟩
        rw [lx, ← renT_len f ts, List.take_length] at d3
        walk_at "go"
        exact q _ _ _ (s12.trans s3) (none_back s12 nR) h3 d3

theorem ok_Side___init__ {f : Addr} {fd : FuncData} (F : Fun K "__init__" "Side.__init__" s_Side___init__ f fd) (E : Bi K mg) (D_Side_add_variables : HasM P w K mg base 2 "Side" "add_variables" ["self", "term", "times"] (sp_Side_add_variables K)) : FnOk P w K mg base CX0 3 f fd ["self", "term"] (sp_Side___init__ K) := by
  obtain ⟨f_Side_add_variables, fd_Side_add_variables, G_Side_add_variables, M_Side_add_variables, b_Side_add_variables⟩ := D_Side_add_variables
  refine F.ok sc_Side___init__ (fun vs H Q E h => ?_) (fun cdv A outer s H vs Q E' hr h => ?_)
  · obtain ⟨p, dx, x, ds, rfl, _⟩ := h
    rfl
  · obtain ⟨p, dx, x, ds, rfl, hp, dd, nd, hl, q⟩ := h
    refine ⟨_, (pss_cons (ps_fld (pv 0) (pe_callTy call_list_of (by rfl) E.b_list (by decide +kernel) (pa_cons (pe_revT (pv 1)) pa_nil)) rfl)
      (pss_cons (ps_fld (pv 0) (pe_callB call_len_seq (by rfl) E.b_len PySem.boot_len (pa_cons (pv 1) pa_nil)) rfl)
      (pss_cons (ps_fld (pv 0) pe_dnewK rfl)
      (pss_one (ps_expr (pe_meth (pv 0) E.cl_Side M_Side_add_variables G_Side_add_variables (hr.mono (by decide)) b_Side_add_variables .nil pass0 (pa_cons (pv 1) (pa_cons pe_int pa_nil)))))))), ?_⟩
    refine st_of (σ := [some _, some _]) rfl ?_
    walk_at "go"
    cases id dd with
    | @tup a xs _ sx ax =>
    have lx := DpAll.len ax
    refine ⟨a, xs, rfl, sx, fun t nt => ?_⟩
    walk_at "go"
    have s1 := same_upd (o := .tup xs.reverse) nt
    have pt : p ≠ t := ne_of_none hp nt
    refine ⟨t, xs.reverse, rfl, .inr (SqT.of upd_same), fun r nr => ?_⟩
    walk_at "go"
    have pr : p ≠ r := ne_of_none (s1 _ _ hp) nr
    have s2 := s1.trans (same_upd (o := .lst xs.reverse) nr)
    refine ⟨p, _, dx, [], rfl, s2 _ _ hp, E.cl_Side, E.nA_Side_rest, by decide, ?_⟩
    rw [pi_Side_rest (v_total := V.non) (v_counts := V.non)]
    walk_at "go"
    have b1 : But p H (upd (upd (upd H t (.tup xs.reverse)) r (.lst xs.reverse)) p (.ins (clsA K "Side") dx [("rest", .ref r)])) := (But.of s2).trans But.put
    have p3 : (upd (upd (upd H t (.tup xs.reverse)) r (.lst xs.reverse)) p (.ins (clsA K "Side") dx [("rest", .ref r)])) p = some (.ins (clsA K "Side") dx [("rest", .ref r)]) := upd_same
    have r3 : (upd (upd (upd H t (.tup xs.reverse)) r (.lst xs.reverse)) p (.ins (clsA K "Side") dx [("rest", .ref r)])) r = some (.lst xs.reverse) := by rw [upd_ne pr.symm]; exact upd_same
    have sx3 : SqT K (upd (upd (upd H t (.tup xs.reverse)) r (.lst xs.reverse)) p (.ins (clsA K "Side") dx [("rest", .ref r)])) a xs := sqT_ins (s2 _ _ hp) (same_sqT s2 sx)
    have ax3 : DpAll K (upd (upd (upd H t (.tup xs.reverse)) r (.lst xs.reverse)) p (.ins (clsA K "Side") dx [("rest", .ref r)])) xs ds := dp_mapAll (fun b xs' z => sqT_ins (s2 _ _ hp) (same_sqT s2 z)) _ _ (nds_noL nd) ax
    have nr0 : H r = Option.none := s1.free nr
    generalize (upd (upd (upd H t (.tup xs.reverse)) r (.lst xs.reverse)) p (.ins (clsA K "Side") dx [("rest", .ref r)])) = H3 at b1 p3 r3 sx3 ax3
    refine ⟨a, xs, rfl, .inr sx3, ?_⟩
    walk_at "go"
    refine ⟨p, _, dx, _, rfl, p3, E.cl_Side, E.nA_Side_total, by show 1 < 1000; decide, ?_⟩
    rw [pi_Side_total (v_counts := V.non)]
    walk_at "go"
    have p4 : (upd H3 p (.ins (clsA K "Side") dx [("rest", .ref r), ("total", .int (xs.length : Int))])) p = some (.ins (clsA K "Side") dx [("rest", .ref r), ("total", .int (xs.length : Int))]) := upd_same
    have b4 : But p H (upd H3 p (.ins (clsA K "Side") dx [("rest", .ref r), ("total", .int (xs.length : Int))])) := b1.trans But.put
    have r4 : (upd H3 p (.ins (clsA K "Side") dx [("rest", .ref r), ("total", .int (xs.length : Int))])) r = some (.lst xs.reverse) := by rw [upd_ne pr.symm]; exact r3
    have sx4 := fun b xs' (z : SqT K H3 b xs') => sqT_ins (o := .ins (clsA K "Side") dx [("rest", .ref r), ("total", .int (xs.length : Int))]) p3 z
    have ax4 := dp_mapAll sx4 _ _ (nds_noL nd) ax3
    have sx4 := sx4 _ _ sx3
    generalize (upd H3 p (.ins (clsA K "Side") dx [("rest", .ref r), ("total", .int (xs.length : Int))])) = H4 at p4 b4 r4 sx4 ax4
    intro c nc
    have pc : p ≠ c := ne_of_none p4 nc
    have rc : r ≠ c := ne_of_none r4 nc
    walk_at "go"
    have s5 := same_upd (o := .dK []) nc
    refine ⟨p, _, dx, _, rfl, s5 _ _ p4, E.cl_Side, E.nA_Side_counts, by show 2 < 1000; decide, ?_⟩
    rw [pi_Side_counts]
    walk_at "go"
    have b6 : But p H (upd (upd H4 c (.dK [])) p (.ins (clsA K "Side") dx (fs_Side (.ref r) (.int (xs.length : Int)) (.ref c)))) := (b4.trans (But.of s5)).trans But.put
    refine ⟨p, dx, _, rfl, upd_same, fs_Side_no_add_variables, ?_⟩
    walk_at "go"
    have tr6 : ∀ b xs', SqT K H4 b xs' → SqT K (upd (upd H4 c (.dK [])) p (.ins (clsA K "Side") dx (fs_Side (.ref r) (.int (xs.length : Int)) (.ref c)))) b xs' := fun b xs' z => sqT_ins (s5 _ _ p4) (same_sqT s5 z)
    refine ⟨p, r, c, _, .ref a, ds, 1, fun _ => 0, 0, rfl, ⟨dx, upd_same⟩, ⟨[], by rw [upd_ne pc.symm]; exact upd_same, fun n => .inr ⟨rfl, rfl⟩, Nat.le_refl _⟩, .tup (tr6 _ _ sx4) (dp_mapAll tr6 _ _ (nds_noL nd) ax4), nd, by decide, by omega, by decide, fun H7 c7 b7 => ?_⟩
    walk_at "go"
    have nt6 : notTup (upd (upd H4 c (.dK [])) p (.ins (clsA K "Side") dx (fs_Side (.ref r) (.int (xs.length : Int)) (.ref c)))) c := .inr (.inl ⟨[], by rw [upd_ne pc.symm]; exact upd_same⟩)
    have nc0 : H c = Option.none := by
      cases e : H c with
      | none => rfl
      | some o => rw [b4 c o pc.symm e] at nc; cases nc
    refine q r c H7 nr0 nc0 ⟨dx, ?_⟩ ⟨⟨xs.reverse, ?_, ?_⟩, nd⟩ ?_ pr.symm pc.symm rc fun b o h1 e => ?_
    · have := b7 p _ pc upd_same
      rw [lx] at this
      exact this
    · refine b7 r _ rc ?_
      rw [upd_ne pr.symm]
      exact s5 _ _ r4
    · exact dp_mapAll (fun b xs' z => sqT_but nt6 b7 (tr6 b xs' z)) _ _ (nds_noL fun d hd => nd d (List.mem_reverse.mp hd)) (dpAll_rev ax4)
    · have e1 : (fun n => 0 + (1 : Int).toNat * cntN n ds) = fun n => cntN n ds := by
        funext n
        show 0 + 1 * cntN n ds = cntN n ds
        omega
      have c7' := c7
      rw [e1, Nat.zero_add] at c7'
      exact c7'
    · exact b7 b o (fun z => by rw [z, nc0] at e; cases e) (b6 b o h1 e)

theorem ok_Side_take_rest {f : Addr} {fd : FuncData} (F : Fun K "take_rest" "Side.take_rest" s_Side_take_rest f fd) (E : Bi K mg) (D_arity_of : Has P w K mg base 2 "arity_of" ["node"] (sp_arity_of K)) (D_Side_take : HasM P w K mg base 2 "Side" "take" ["self", "found"] (sp_Side_take K)) : FnOk P w K mg base CX0 3 f fd ["self", "node", "found"] (sp_Side_take_rest K) := by
  obtain ⟨f_arity_of, fd_arity_of, G_arity_of, g_arity_of, kp_arity_of, b_arity_of⟩ := D_arity_of
  obtain ⟨f_Side_take, fd_Side_take, G_Side_take, M_Side_take, b_Side_take⟩ := D_Side_take
  refine F.ok sc_Side_take_rest (fun vs H Q E h => ?_) (fun cdv A outer s H vs Q E' hr h => ?_)
  · obtain ⟨p, r, c, d, n, x, e, ds, F, T, k, rfl, _⟩ := h
    rfl
  · obtain ⟨p, r, c, d, tot, x, e, ds, F, T, k, rfl, hs, hk, hf, tri, tT, dx, ne, tm, hlen, q⟩ := h
    refine ⟨_, (pss_cons (ps_set (i := 3) sc_Side_take_rest.nd rfl (Or.inl rfl) (pe_lst (pa_cons (pv 1) pa_nil)))
      (pss_cons (ps_set (i := 4) sc_Side_take_rest.nd rfl (Or.inl rfl) (pe_call G_arity_of (hr.mono (by decide)) (by rfl) g_arity_of kp_arity_of b_arity_of .nil pass0 (pa_cons (pv 1) pa_nil)))
      (pss_cons (ps_while PassesOwn.never (pt_cmpR op_gt (pv 4) pe_int (nomark _)) (pss_cons (ps_set (i := 1) sc_Side_take_rest.nd rfl (Or.inl rfl) (pe_meth (pv 0) E.cl_Side M_Side_take G_Side_take (hr.mono (by decide)) b_Side_take .nil pass0 (pa_cons (pv 2) pa_nil)))
      (pss_cons (ps_expr (pe_bm PySem.F.plainAttrs_list PySem.F.slot_list_append PySem.F.type_list_append mt_append (pv 3) (pa_cons (pv 1) pa_nil)))
      (pss_one (ps_aug (i := 4) sc_Side_take_rest.nd rfl (Or.inl rfl) (pe_op op_sub (pe_call G_arity_of (hr.mono (by decide)) (by rfl) g_arity_of kp_arity_of b_arity_of .nil pass0 (pa_cons (pv 1) pa_nil)) pe_int) ip_add)))))
      (pss_one (ps_ret (pe_callTy call_tuple_of (by rfl) E.b_tuple (by decide +kernel) (pa_cons (pv 3) pa_nil))))))), ?_⟩
    refine st_of (σ := [some _, some _, some _, none, none]) rfl ?_
    walk_at "go"
    obtain ⟨dx0, hp⟩ := hs.ob
    obtain ⟨xs, hr0, hd⟩ := hk.at_
    obtain ⟨kvs, hf0, tk0⟩ := hf.at_
    have prn : p ≠ r := ne_of hp hr0 (by intro z; cases z)
    have drn : d ≠ r := ne_of hf0 hr0 (by intro z; cases z)
    have nt : notTup H r := .inl ⟨_, hr0⟩
    refine newN (n := 1) rfl (by decide) fun N nN => ?_
    have rN : r ≠ N := ne_of_none hr0 nN
    have sN := same_upd (o := .lst [x]) nN
    walk_at "go"
    refine ⟨x, e, rfl, dp_same sN _ _ dx, ne, ?_⟩
    walk_at "go"
    have tm2 : Cls (arN e + k) (appM T ds) := by
      have := tm.1.2
      rwa [show k + 1 - 1 + arN e = arN e + k by omega] at this
    refine while_m (fun j σ H' => ∃ (m : Nat) (x1 : V) (ds1 : List PyData) (col : List PyData) (cs : List V), σ = [some (.ref p), some x1, some (.ref d), some (.ref N), some (.int (m : Int))] ∧ StkA K H' r ds1 ∧ H' N = some (.lst cs) ∧ DpAll K H' cs col ∧ But r H H' ∧ Cls (m + k) (appM T ds1) ∧ col ++ appM T ds1 = e :: appM T ds ∧ tk m (appM T ds1) + col.length = tk 1 (e :: appM T ds) ∧ (∀ y ∈ col, NdA y) ∧ j = (appM T ds1).length)
      ⟨_, arN e, x, ds, [e], [x], rfl, ⟨⟨xs, sN _ _ hr0, dp_sameAll sN _ _ hd⟩, hk.nd⟩, upd_same, .cons (dp_same sN _ _ dx) .nil, But.of sN, tm2, rfl, by rw [tk_cons (by decide)]; show _ = 1 + tk (1 - 1 + arN e) _; rw [show 1 - 1 + arN e = arN e by omega]; exact Nat.add_comm _ _, fun y hy => by rw [List.mem_singleton.mp hy]; exact ne, rfl⟩ ?_
    rintro j σ H1 ⟨m, x1, ds1, col, cs, rfl, k1, hN1, dN1, b1, c1, e1, t1, n1, rfl⟩
    have p1 := b1 p _ prn hp
    have f1 := b1 d _ drn hf0
    have tk1 : TabK K H1 kvs F := TabK.mono (fun v' ds' hn' hd' => dp_map (fun b xs q => sqT_but nt b1 q) _ _ (tup_noL hn') hd') tri.tm.nd tk0
    have lc : col.length + (appM T ds1).length = (appM T ds).length + 1 := by
      have := congrArg List.length e1
      rw [List.length_append, List.length_cons] at this
      exact this
    walk_at "go"
    refine ite2 (fun hm => ?_) (fun hm => ?_)
    · have hm : (0 : Int) < m := of_decide_eq_true hm
      refine while_n ?_
      walk_at "go"
      refine ⟨p, dx0, _, rfl, p1, fs_Side_no_take, ?_⟩
      walk_at "go"
      have hne : ds1 ≠ [] := fun z => by
        rw [z] at c1
        have : m + k = 0 := c1
        omega
      refine ⟨p, r, c, d, tot, ds1, F, T, rfl, ⟨dx0, p1⟩, k1, ⟨kvs, f1, tk1⟩, tri, tT, hne, by omega, fun v e2 ds2 H2 ne2 nk2 a2 k2 d2 b2 => ?_⟩
      walk_at "go"
      obtain ⟨zs1, hz1, _⟩ := k1.at_
      have nt1 : notTup H1 r := .inl ⟨_, hz1⟩
      have hN2 : H2 N = some (.lst cs) := b2 N _ rN.symm hN1
      refine tyl (SqL.of hN2) ?_
      walk_at "go"
      have lcs := DpAll.len dN1
      refine rap hN2 (by omega) ?_
      walk_at "go"
      have blN : notTup H2 N := .inl ⟨_, hN2⟩
      have dN2 : DpAll K H2 cs col := dp_mapAll (fun b xs q => sqT_but nt1 b2 q) _ _ (nds_noL n1) dN1
      refine ⟨v, e2, rfl, dp_put blN _ _ (nd_noL ne2) d2, ne2, ?_⟩
      walk_at "go"
      refine ⟨_, _, rfl, rfl, ?_⟩
      have em : (m : Int) + ((arN e2 : Int) - 1) = ((m - 1 + arN e2 : Nat) : Int) := by omega
      rw [a2] at e1 t1 c1
      have c2 := c1.2
      rw [tk_cons (by omega)] at t1
      obtain ⟨zs2, hz2, dz2⟩ := k2.at_
      refine ⟨(appM T ds2).length, by rw [a2, List.length_cons]; omega, m - 1 + arN e2, v, ds2, col ++ [e2], cs ++ [v], by show [some (V.ref p), some v, some (V.ref d), some (V.ref N), some (V.int ((m : Int) + ((arN e2 : Int) - 1)))] = _; rw [em], ⟨⟨zs2, by rw [upd_ne rN]; exact hz2, dp_putAll blN _ _ (nds_noL fun y hy => k2.nd y (List.mem_reverse.mp hy)) dz2⟩, k2.nd⟩, upd_same, dpAll_end (dp_putAll blN _ _ (nds_noL n1) dN2) (dp_put blN _ _ (nd_noL ne2) d2), ?_, ?_, ?_, ?_, ?_, rfl⟩
      · intro b o hb hbo
        rw [upd_ne (ne_of_none hbo nN)]
        exact b2 b o hb (b1 b o hb hbo)
      · rwa [show m + k - 1 + arN e2 = m - 1 + arN e2 + k by omega] at c2
      · rw [List.append_assoc]; exact e1
      · rw [List.length_append, List.length_singleton]; omega
      · intro y hy
        rcases List.mem_append.mp hy with hy | hy
        · exact n1 y hy
        · rw [List.mem_singleton.mp hy]; exact ne2
    · have hm0 : m = 0 := by
        have : ¬ (0 : Int) < m := fun z => hm (decide_eq_true z)
        omega
      subst hm0
      rw [tk_zero, Nat.zero_add] at t1
      have ec : col = sub1 (e :: appM T ds) := by
        unfold sub1
        rw [← t1, ← e1, List.take_left]
      have er : appM T ds1 = (e :: appM T ds).drop (tk 1 (e :: appM T ds)) := by
        rw [← t1, ← e1, List.drop_left]
      walk_at "go"
      refine ⟨_, _, rfl, .inl ⟨SqL.of hN1, fun t nt' => ?_⟩⟩
      have st := same_upd (o := .tup cs) nt'
      obtain ⟨zs1, hz1, dz1⟩ := k1.at_
      rw [ec] at dN1
      exact q (.ref t) ds1 _ er ⟨⟨zs1, st _ _ hz1, dp_sameAll st _ _ dz1⟩, k1.nd⟩ (.tup (SqT.of upd_same) (dp_sameAll st _ _ dN1)) (b1.trans (But.of st))

theorem ok_Side_bind {f : Addr} {fd : FuncData} (F : Fun K "bind" "Side.bind" s_Side_bind f fd) (E : Bi K mg) (D_Side_add_variables : HasM P w K mg base 2 "Side" "add_variables" ["self", "term", "times"] (sp_Side_add_variables K)) : FnOk P w K mg base CX0 3 f fd ["self", "number", "value"] (sp_Side_bind K) := by
  obtain ⟨f_Side_add_variables, fd_Side_add_variables, G_Side_add_variables, M_Side_add_variables, b_Side_add_variables⟩ := D_Side_add_variables
  refine F.ok sc_Side_bind (fun vs H Q E h => ?_) (fun cdv A outer s H vs Q E' hr h => ?_)
  · obtain ⟨p, r, c, n, x, ds, y, f, m, rfl, _⟩ := h
    rfl
  · obtain ⟨p, r, c, n, x, ds, y, f, m, rfl, hs, hc, dx, nd, hm, hfy, hl, q⟩ := h
    refine ⟨_, (pss_cons (ps_set (i := 3) sc_Side_bind.nd rfl (Or.inl rfl) (pe_dpop2 (pe_fld (pv 0) rfl) (pv 1) pe_int ⟨by rfl, by rfl, by rfl, by rfl⟩))
      (pss_one (ps_if (pt_cmpR op_gt (pv 3) pe_int (nomark _)) (pss_cons (ps_fldaug (pv 0) (pe_op op_mul (pv 3) (pe_op op_sub (pe_callB call_len_seq (by rfl) E.b_len PySem.boot_len (pa_cons (pv 2) pa_nil)) pe_int)) in_add)
      (pss_one (ps_expr (pe_meth (pv 0) E.cl_Side M_Side_add_variables G_Side_add_variables (hr.mono (by decide)) b_Side_add_variables .nil pass0 (pa_cons (pv 2) (pa_cons (pv 3) pa_nil)))))) pss_nil))), ?_⟩
    refine st_of (σ := [some _, some _, some _, none]) rfl ?_
    walk_at "go"
    obtain ⟨dx0, hp⟩ := hs.ob
    obtain ⟨kvs, hc0, hct, hcl⟩ := hc.at_
    have pc : p ≠ c := ne_of hp hc0 (by intro z; cases z)
    have nt : notTup H c := .inr (.inl ⟨_, hc0⟩)
    refine ⟨p, _, _, _, _, rfl, hp, E.cl_Side, E.nA_Side_counts, fs_Side_counts, ?_⟩
    refine ⟨c, rfl, .inl ⟨kvs, .inl hc0⟩, ?_⟩
    walk_at "go"
    have fin0 : f y = 0 → Q .non H := fun e0 => by
      refine q H ⟨dx0, by rw [e0]; simpa using hp⟩ ⟨kvs, hc0, fun z => ?_, by omega⟩ (fun _ _ _ _ e => e)
      dsimp only
      rw [e0, Nat.zero_mul, Nat.add_zero]
      by_cases ez : z = y
      · rw [if_pos ez, ez]
        rcases hct y with e | ⟨e, _⟩
        · exact .inl (by rw [e, e0])
        · exact .inr ⟨e, rfl⟩
      · rw [if_neg ez]; exact hct z
    refine ⟨kvs, Sum.inl y, hc0, rfl, fun v hv => ?_, fun hn => ?_⟩
    · have ev : v = .int (f y : Int) := by
        rcases hct y with e | ⟨e, _⟩
        · rw [e] at hv; exact (Option.some.inj hv).symm
        · rw [e] at hv; cases hv
      subst ev
      have b1 : But c H (upd H c (.dK (dropK kvs (Sum.inl y)))) := But.put
      have c1 : CntA (upd H c (.dK (dropK kvs (Sum.inl y)))) c (fun z => if z = y then 0 else f z) m := ⟨_, upd_same, fun z => by
        dsimp only
        rw [valV_dropK]
        by_cases ez : z = y
        · rw [if_pos (by rw [ez]), if_pos ez]; exact .inr ⟨rfl, rfl⟩
        · rw [if_neg (fun w => ez (Sum.inl.inj w)), if_neg ez]; exact hct z, Nat.le_trans (dropK_le _ _) hcl⟩
      have p1 := b1 p _ pc hp
      generalize upd H c (.dK (dropK kvs (Sum.inl y))) = H1 at b1 c1 p1
      walk_at "go"
      refine ite2 (fun hpos => ?_) (fun hpos => ?_)
      · have hpos : (0 : Int) < f y := of_decide_eq_true hpos
        cases id dx with
        | @tup ax xs _ sx da =>
        have lx := DpAll.len da
        walk_at "go"
        refine ⟨p, _, dx0, _, _, rfl, p1, E.cl_Side, E.nA_Side_total, fs_Side_total, ?_⟩
        walk_at "go"
        have sx1 : SqT K H1 ax xs := sqT_but nt b1 sx
        refine ⟨ax, xs, rfl, .inr sx1, ?_⟩
        walk_at "go"
        refine g_i1 (.inl ⟨by omega, by omega⟩) ?_
        refine ⟨_, _, rfl, rfl, dx0, _, p1, by show 3 < 1000; decide, ?_⟩
        rw [ps_Side_total]
        walk_at "go"
        refine ⟨p, dx0, _, rfl, upd_same, fs_Side_no_add_variables, ?_⟩
        walk_at "go"
        obtain ⟨k2, g1, g2, g3⟩ := c1.at_
        have dx2 : Dp K (upd H1 p (.ins (clsA K "Side") dx0 (fs_Side (.ref r) (.int (n + (f y : Int) * ((xs.length : Int) - 1))) (.ref c)))) (.ref ax) (.tuple ds) := by
          have ntp : ∀ b xs', SqT K H1 b xs' → SqT K (upd H1 p (.ins (clsA K "Side") dx0 (fs_Side (.ref r) (.int (n + (f y : Int) * ((xs.length : Int) - 1))) (.ref c)))) b xs' := fun b xs' z => sqT_ins p1 z
          exact dp_map (fun b xs' z => ntp b xs' (sqT_but nt b1 z)) _ _ (tup_noL nd) dx
        refine ⟨p, r, c, _, .ref ax, ds, (f y : Int), _, m, rfl, ⟨dx0, upd_same⟩, ⟨k2, by rw [upd_ne pc.symm]; exact g1, g2, g3⟩, dx2, nd, by omega, hm, by omega, fun H2 c2 b2 => ?_⟩
        walk_at "go"
        refine q H2 ⟨dx0, ?_⟩ ?_ fun b o h1 h2 e => b2 b o h2 (by rw [upd_ne h1]; exact b1 b o h2 e)
        · have := b2 p _ pc upd_same
          rw [lx] at this
          exact this
        · rw [Int.toNat_natCast] at c2
          exact c2
      · walk_at "go"
        have e0 : f y = 0 := by
          have : ¬ (0 : Int) < f y := fun z => hpos (decide_eq_true z)
          omega
        obtain ⟨k2, g1, g2, g3⟩ := c1.at_
        refine q H1 ⟨dx0, by rw [e0]; simpa using p1⟩ ⟨k2, g1, fun z => ?_, by omega⟩ (fun b o _ h2 e => b1 b o h2 e)
        dsimp only
        rw [e0, Nat.zero_mul, Nat.add_zero]
        exact g2 z
    · have e0 : f y = 0 := by
        rcases hct y with e | ⟨_, e⟩
        · rw [e] at hn; cases hn
        · exact e
      walk_at "go"
      rw [decide_eq_false (show ¬ (0 : Int) < 0 from by decide)]
      walk_at "go"
      exact fin0 e0

theorem ok_settle {f : Addr} {fd : FuncData} (F : Fun K "settle" "settle" s_settle f fd) (E : Bi K mg) (D_apply : Has P w K mg base 2 "apply" ["substitution", "term"] (sp_apply K)) : FnOk P w K mg base CX0 3 f fd ["found"] (sp_settle K) := by
  obtain ⟨f_apply, fd_apply, G_apply, g_apply, kp_apply, b_apply⟩ := D_apply
  refine F.ok sc_settle (fun vs H Q E h => ?_) (fun cdv A outer s H vs Q E' hr h => ?_)
  · obtain ⟨d, F, T, rfl, _⟩ := h
    rfl
  · obtain ⟨d, F, T, rfl, hf, tri, nd, ht, hq, hl, q⟩ := h
    refine ⟨_, (pss_cons (ps_set (i := 1) sc_settle.nd rfl (Or.inr rfl) pe_dnewK)
      (pss_cons (ps_for PassesOwn.never rfl (pi_reversed (by rfl) E.b_reversed (pa_cons (pe_callTy (call_list_dK rfl) (by rfl) E.b_list (by decide +kernel) (pa_cons (pv 0) pa_nil)) pa_nil)) (pg_name (i := 2) sc_settle.nd rfl (Or.inl rfl)) (pss_one (ps_dput (hu_of hr) (pv 1) (pv 2) (pe_call G_apply (hr.mono (by decide)) (by rfl) g_apply kp_apply b_apply .nil pass0 (pa_cons (pv 1) (pa_cons (pe_dget (hu_of hr) (pv 0) (pv 2) (fun _ _ => rfl)) pa_nil))) (by rfl))))
      (pss_one (ps_ret (pe_lock (pe_dc (own := [("number", 2)]) (g := gName 2) (tt := tYes) rfl sc_settle.nd (pi_keys (pv 0)) (blkOk_by (N := N_settle) (sc := defScope s_settle) (by decide +kernel)) (fun _ _ _ _ _ => pg_name (i := 2) sc_settle.nd rfl (Or.inl rfl)) (fun _ _ _ _ _ => pts_nil) (fun _ _ _ _ _ => (pv 2)) (fun _ _ _ _ _ => (pe_dget (hu_of hr) (pv 1) (pv 2) (fun _ _ => rfl))))))))), ?_⟩
    refine st_of (σ := [some _, none, none]) rfl ?_
    walk_at "go"
    obtain ⟨kvs, hd0, tk0⟩ := hf.at_
    have ndF : (F.map (·.1)).Nodup := by rw [tri.keys]; exact nd
    have eT := tri.list nd
    intro z nz
    have dz : d ≠ z := ne_of_none hd0 nz
    walk_at "go"
    have d1 : (upd H z (.dK [])) d = some (.dK kvs) := by rw [upd_ne dz]; exact hd0
    refine ⟨d, kvs, rfl, d1, fun r nr => ?_⟩
    have dr : d ≠ r := ne_of_none d1 nr
    have zr : z ≠ r := fun w => by rw [← w, upd_same] at nr; cases nr
    walk_at "go"
    have lk := TabK.len tk0
    refine ⟨r, kvs.map fun kv => kV kv.1, rfl, SqL.of upd_same, ?_⟩
    have s2 := (same_upd (o := .dK []) nz).trans (same_upd (o := .lst (kvs.map fun kv => kV kv.1)) nr)
    have z2 : (upd (upd H z (.dK [])) r (.lst (kvs.map fun kv => kV kv.1))) z = some (.dK []) := by rw [upd_ne zr]; exact upd_same
    have r2 : (upd (upd H z (.dK [])) r (.lst (kvs.map fun kv => kV kv.1))) r = some (.lst (kvs.map fun kv => kV kv.1)) := upd_same
    generalize (upd (upd H z (.dK [])) r (.lst (kvs.map fun kv => kV kv.1))) = H2 at s2 z2 r2
    have nz2 : ∀ o, Same H (upd H2 z o) := fun o b u e => by rw [upd_ne (ne_of_none e nz)]; exact s2 _ _ e
    have lkm : (kvs.map fun kv => kV kv.1).length = F.length := by rw [List.length_map, lk]
    refine for_it (walk_rev (K := K) (a := r) (xs := kvs.map fun kv => kV kv.1)) (fun i σ H' => ∃ (v2 : Option V), σ = [some (.ref d), some (.ref z), v2] ∧ FndA K H' z (stl T (F.drop (F.length - i))).reverse ∧ Same H H' ∧ H' r = some (.lst (kvs.map fun kv => kV kv.1)))
      ⟨none, rfl, ⟨[], z2, by rw [Nat.sub_zero, List.drop_length]; exact True.intro⟩, s2, r2⟩ (fun i σ H' _ ⟨_, _, _, _, e⟩ => SqL.of e) ?_ ?_
    · rintro i x σ H3 H4 hi ⟨v2, rfl, f3, s3, r3⟩ ⟨rfl, hx⟩
      rw [lkm] at hi hx
      rw [List.getElem?_map] at hx
      obtain ⟨kv, hkv, rfl⟩ : ∃ kv, kvs[F.length - 1 - i]? = some kv ∧ kV kv.1 = x := by
        cases e : kvs[F.length - 1 - i]? with
        | none => rw [e] at hx; cases hx
        | some kv => rw [e] at hx; exact ⟨kv, rfl, Option.some.inj hx⟩
      obtain ⟨qq, hq1, hq2, hq3⟩ := TabK.get tk0 hkv
      have mq : qq ∈ F := List.mem_of_getElem? hq1
      rw [hq2]
      have ds0 : H4 d = some (.dK kvs) := s3 _ _ hd0
      walk_at "go"
      have vq : valV kvs (Sum.inl qq.1) = some kv.2 := by
        rcases TabK.val qq.1 tk0 with ⟨_, w2⟩ | ⟨u, w, w1, w2, _⟩
        · exact absurd rfl (valT_none w2 qq mq)
        · rw [w1]
          have := valV_get tk0 ndF hkv
          rw [hq2, w1] at this
          exact this
      refine ⟨d, kv.2, rfl, by have := DGet.k (k := Sum.inl qq.1) ds0; rw [vq] at this; exact this, ?_⟩
      walk_at "go"
      have i1 : F.length - 1 - i + 1 = F.length - i := by omega
      have es := settle_at tri nd hq1
      rw [i1] at es
      have mT : (qq.1, appM T qq.2) ∈ T := by
        have : (qq.1, appM T qq.2) ∈ stl T F := List.mem_map.mpr ⟨qq, mq, rfl⟩
        rwa [eT] at this
      have tS : TabT (stl T (F.drop (F.length - i))).reverse := fun y hy => by
        obtain ⟨w, hw, rfl⟩ := List.mem_map.mp (List.mem_reverse.mp hy)
        exact appM_tms ht (tri.tm w (List.mem_of_mem_drop hw))
      have tq := tri.tm qq mq
      refine ⟨z, _, kv.2, qq.2, rfl, f3, tS, dp_same s3 _ _ hq3, tq.2, by rw [es]; exact Nat.le_trans (hq _ mT) (by decide), fun v H5 s5 d5 => ?_⟩
      rw [es] at d5
      walk_at "go"
      obtain ⟨k3, g1, g2⟩ := f3.at_
      have g5 := s5 _ _ g1
      have l3 := TabK.len g2
      unfold stl at l3
      rw [List.length_reverse, List.length_map, List.length_drop] at l3
      refine ⟨z, _, rfl, DPut.k (k := Sum.inl qq.1) g5 (Nat.lt_of_le_of_lt (show _ ≤ 100000 by omega) (by decide)), ?_⟩
      walk_at "go"
      have s35 := s3.trans s5
      refine ⟨_, rfl, ⟨_, upd_same, ?_⟩, fun b o e => by rw [upd_ne (ne_of_none e nz)]; exact s35 _ _ e, by rw [upd_ne zr.symm]; exact s5 _ _ r3⟩
      have nk : qq.1 ∉ (stl T (F.drop (F.length - i))).reverse.map (·.1) := fun m => by
        rw [List.map_reverse, List.mem_reverse, stl_keys] at m
        obtain ⟨w, hw, ew⟩ := List.mem_map.mp m
        obtain ⟨j, hj⟩ := List.getElem?_of_mem hw
        rw [List.getElem?_drop] at hj
        have a1 : (F.map (·.1))[F.length - 1 - i]? = some qq.1 := by rw [List.getElem?_map, hq1]; rfl
        have a2 : (F.map (·.1))[F.length - i + j]? = some qq.1 := by rw [List.getElem?_map, hj, ← ew]; rfl
        have b1 := (List.getElem?_eq_some_iff.mp a1).1
        have := (List.getElem?_inj b1 ndF).mp (a1.trans a2.symm)
        omega
      have tN : TabN (stl T (F.drop (F.length - i))).reverse := tS.nd
      have ntz : notTup H5 z := .inr (.inl ⟨_, g5⟩)
      have add := TabK.add (tab_put (o := .dK (putK k3 (Sum.inl qq.1) v)) ntz tN (tab_same s5 tN g2)) nk (dp_put (o := .dK (putK k3 (Sum.inl qq.1) v)) ntz _ _ (tup_noL (appM_nd ht.nd tq.2)) d5)
      have e2 : (stl T (F.drop (F.length - (i + 1)))).reverse = (stl T (F.drop (F.length - i))).reverse ++ [(qq.1, appM T qq.2)] := by
        have : F.drop (F.length - (i + 1)) = qq :: F.drop (F.length - i) := by
          obtain ⟨c1, c2⟩ := List.getElem?_eq_some_iff.mp hq1
          rw [show F.length - (i + 1) = F.length - 1 - i by omega, List.drop_eq_getElem_cons c1, c2, i1]
        rw [this]
        unfold stl
        rw [List.map_cons, List.reverse_cons]
      rw [e2]
      exact add
    rintro σ H3 ⟨v2, rfl, f3, s3, r3⟩
    rw [lkm, Nat.sub_self, List.drop_zero, eT] at f3
    obtain ⟨k3, g1, g2⟩ := f3.at_
    walk_at "go"
    have d3 := s3 _ _ hd0
    refine ⟨d, .dK kvs, d3, trivial, fun od => ⟨_, rfl, d, od, rfl, .inl ⟨kvs, upd_same, fun D nD => ?_⟩⟩⟩
    have nD3 : H3 D = Option.none := by
      by_cases w : D = d
      · rw [w, upd_same] at nD; cases nD
      · rw [upd_ne w] at nD; exact nD
    have zd3 : z ≠ d := dz.symm
    have Dd : D ≠ d := fun w => by rw [w, d3] at nD3; cases nD3
    have gz : (upd H3 d (.frz od (.dK kvs))) z = some (.dK k3) := by rw [upd_ne zd3]; exact g1
    refine dc_it walk_keys (fun i H' => ∃ kv4, Same (upd H3 d (.frz od (.dK kvs))) H' ∧ H' D = some (.dK kv4) ∧ TabK K H' kv4 (T.take i))
      ⟨[], same_upd nD, upd_same, by rw [List.take_zero]; exact True.intro⟩ (fun i H' _ ⟨_, e, _⟩ => e _ _ upd_same) ?_ ?_
    · rintro i x H4 H5 hi ⟨kv4, s4, e4, T4⟩ ⟨rfl, kk, vv, hk, rfl⟩
      obtain ⟨qq, hq1, hq2, _⟩ := TabK.get tk0 hk
      have hq2 : kk = Sum.inl qq.1 := hq2
      subst hq2
      obtain ⟨tt, ht1, ht2⟩ : ∃ tt, T[i]? = some tt ∧ tt.1 = qq.1 := by
        have e1 : (F.map (·.1))[i]? = some qq.1 := by rw [List.getElem?_map, hq1]; rfl
        rw [tri.keys, List.getElem?_map] at e1
        cases e : T[i]? with
        | none => rw [e] at e1; cases e1
        | some w => rw [e] at e1; exact ⟨w, rfl, Option.some.inj e1⟩
      have ntd : notTup H3 d := .inr (.inl ⟨_, d3⟩)
      have g4 : H5 z = some (.dK k3) := s4 _ _ gz
      have ntr : TabN T.reverse := fun q hq => ht.nd q (List.mem_reverse.mp hq)
      have T3 : TabK K H5 k3 T.reverse := tab_same s4 ntr (tab_put ntd ntr g2)
      have vt := valT_at nd (List.mem_of_getElem? ht1)
      rw [ht2] at vt
      rcases TabK.val qq.1 T3 with ⟨_, w2⟩ | ⟨u, w, w1, w2, dw⟩
      · rw [valT_rev nd, vt] at w2; cases w2
      rw [valT_rev nd, vt] at w2
      obtain rfl := Option.some.inj w2
      refine gname ⟨rfl, ?_⟩
      dsimp only [tYes]
      rw [if_pos rfl]
      refine ⟨_, rfl, _, rfl, _, rfl, z, ?_⟩
      refine ⟨u, rfl, by have := DGet.k (k := Sum.inl qq.1) g4; rw [w1] at this; exact this, ?_⟩
      have l4 := TabK.len T4
      rw [List.length_take] at l4
      have iT : i < T.length := (List.getElem?_eq_some_iff.mp ht1).1
      have lT : T.length = F.length := by have := congrArg List.length tri.keys; rwa [List.length_map, List.length_map, eq_comm] at this
      refine ⟨kv4, _, rfl, e4, Nat.lt_of_le_of_lt (show _ ≤ 100000 by omega) (by decide), _, fun b o e => by rw [upd_ne (ne_of_none e nD)]; exact s4 _ _ e, upd_same, ?_⟩
      have nk : qq.1 ∉ (T.take i).map (·.1) := by rw [← ht2]; exact nodup_new nd ht1
      have ntk : TabN (T.take i) := fun y hy => ht.nd y (List.mem_of_mem_take hy)
      have ntD : notTup H5 D := .inr (.inl ⟨_, e4⟩)
      have add := TabK.add (tab_put (o := .dK (putK kv4 (Sum.inl qq.1) u)) ntD ntk T4) nk (dp_put (o := .dK (putK kv4 (Sum.inl qq.1) u)) ntD _ _ (tup_noL (ht.nd tt (List.mem_of_getElem? ht1))) dw)
      have e2 : T.take (i + 1) = T.take i ++ [(qq.1, tt.2)] := by
        rw [List.take_add_one, ht1, ← ht2]
        rfl
      rw [e2]
      exact add
    · rintro H4 ⟨kv4, s4, e4, T4⟩
      have d4 := s4 _ _ upd_same
      have HD : H D = Option.none := by
        cases e : H D with
        | none => rfl
        | some o => rw [s3 _ _ e] at nD3; cases nD3
      have nt4 : notTup H4 d := .inr (.inr ⟨_, _, d4⟩)
      rw [List.take_of_length_le (by have := congrArg List.length tri.keys; rw [List.length_map, List.length_map] at this; omega)] at T4
      refine ⟨d4, q D _ (fun b o e => ?_) HD ⟨kv4, by rw [upd_ne Dd]; exact e4, tab_put nt4 ht.nd T4⟩⟩
      by_cases w : b = d
      · subst w
        rw [hd0] at e
        rw [upd_same]
        exact e
      · rw [upd_ne w]
        exact s4 _ _ (by rw [upd_ne w]; exact s3 _ _ e)

theorem ok__law_numbered {f : Addr} {fd : FuncData} (F : Fun K "_law_numbered" "_law_numbered" s__law_numbered f fd) (E : Bi K mg) (D__law_is_variable : Has P w K mg base 1 "_law_is_variable" ["node"] (sp__law_is_variable K)) (D__law_put : Has P w K mg base 2 "_law_put" ["table", "term"] (sp__law_put K)) : FnOk P w K mg base CX0 3 f fd ["terms", "first"] (sp__law_numbered K) := by
  obtain ⟨f__law_is_variable, fd__law_is_variable, G__law_is_variable, g__law_is_variable, kp__law_is_variable, b__law_is_variable⟩ := D__law_is_variable
  obtain ⟨f__law_put, fd__law_put, G__law_put, g__law_put, kp__law_put, b__law_put⟩ := D__law_put
  refine F.ok sc__law_numbered (fun vs H Q E h => ?_) (fun cdv A outer s H vs Q E' hr h => ?_)
  · obtain ⟨a, ts, f, rfl, _⟩ := h
    rfl
  · obtain ⟨a, ts, f, rfl, ⟨xs, hs, ha⟩, nd, hf, sz, hl, q⟩ := h
    refine ⟨_, (pss_cons (ps_set (i := 2) sc__law_numbered.nd rfl (Or.inl rfl) pe_dnewK)
      (pss_cons (ps_set (i := 3) sc__law_numbered.nd rfl (Or.inl rfl) (pe_lst pa_nil))
      (pss_cons (ps_for PassesOwn.never rfl (pi_list (pv 0)) (pg_name (i := 4) sc__law_numbered.nd rfl (Or.inl rfl)) (pss_cons (ps_for PassesOwn.never rfl (pi_tup (pv 4)) (pg_name (i := 5) sc__law_numbered.nd rfl (Or.inl rfl)) (pss_one (ps_if (pw_and (pt_val (pe_call G__law_is_variable (hr.mono (by decide)) (by rfl) g__law_is_variable kp__law_is_variable b__law_is_variable .nil pass0 (pa_cons (pv 5) pa_nil))) (pw_and1 (pt_cmp (pc_dnotin (hu_of hr) (pe_ix ix_tup (pv 5) pe_int (fun _ _ => rfl)) (pv 2))))).pt (pss_one (ps_dput (hu_of hr) (pv 2) (pe_ix ix_tup (pv 5) pe_int (fun _ _ => rfl)) (pe_tup (pa_cons (pe_tup (pa_cons pe_str (pa_cons (pe_op op_add (pv 1) (pe_callB call_lenD (by rfl) E.b_len PySem.boot_len (pa_cons (pv 2) pa_nil))) pa_nil))) pa_nil)) (by rfl))) pss_nil)))
      (pss_one (ps_expr (pe_bm PySem.F.plainAttrs_list PySem.F.slot_list_append PySem.F.type_list_append mt_append (pv 3) (pa_cons (pe_call G__law_put (hr.mono (by decide)) (by rfl) g__law_put kp__law_put b__law_put .nil pass0 (pa_cons (pv 2) (pa_cons (pv 4) pa_nil))) pa_nil))))))
      (pss_one (ps_ret (pv 3)))))), ?_⟩
    refine st_of (σ := [some _, some _, none, none, none, none]) rfl ?_
    walk_at "go"
    have lx := DpAll.len ha
    rw [List.length_map] at lx
    intro D nD
    have sD := same_upd (o := .dK []) nD
    walk_at "go"
    refine newN (n := 0) rfl (by decide) fun R nR => ?_
    have DR : D ≠ R := fun z => by rw [← z, upd_same] at nR; cases nR
    have nRH : H R = Option.none := none_back sD nR
    have sR := same_upd (o := .lst []) nR
    walk_at "go"
    have fD : FndA K (upd (upd H D (.dK [])) R (.lst [])) D (tbl f (nums [])) := ⟨[], sR _ _ upd_same, True.intro⟩
    have eR : (upd (upd H D (.dK [])) R (.lst [])) R = some (.lst []) := upd_same
    have s0 := sD.trans sR
    generalize (upd (upd H D (.dK [])) R (.lst [])) = H0 at fD eR s0 ⊢
    refine ⟨a, rfl, ⟨_, same_sqL s0 hs⟩, for_list (K := K) (a := a) (xs := xs) (fun i σ H' => ∃ (v4 v5 : Option V) (ys : List V), σ = [some (.ref a), some (.int f), some (.ref D), some (.ref R), v4, v5] ∧ Same H H' ∧ FndA K H' D (tbl f (nums (ts.take i).flatten)) ∧ H' R = some (.lst ys) ∧ DpAll K H' ys (((renT f ts).take i).map PyData.tuple))
      ⟨none, none, [], rfl, s0, fD, eR, .nil⟩ (fun i σ H' _ ⟨_, _, _, _, e, _⟩ => same_sqL e hs) ?_ ?_⟩
    · rintro i z σ H2 hz ⟨v4, v5, ys, rfl, s2, f2, e2, d2⟩
      obtain ⟨dd, hd, dz0⟩ := DpAll.getV ha hz
      rw [List.getElem?_map] at hd
      obtain ⟨t, ht, rfl⟩ := Option.map_eq_some_iff.mp hd
      obtain ⟨pz, ws, rfl, sz2, az⟩ := dp_tup dz0
      have lw := DpAll.len az
      have lys := DpAll.len d2
      rw [List.length_map, List.length_take, renT_len] at lys
      have l1 := szT_le ts (i + 1)
      unfold szT at l1
      walk_at "gs"
      refine ⟨pz, rfl, ⟨_, same_sqT s2 sz2⟩, for_tup (K := K) (a := pz) (xs := ws) (fun j σ H' => ∃ (v5 : Option V), σ = [some (.ref a), some (.int f), some (.ref D), some (.ref R), some (.ref pz), v5] ∧ Same H H' ∧ FndA K H' D (tbl f (nums ((ts.take i).flatten ++ t.take j))) ∧ H' R = some (.lst ys) ∧ DpAll K H' ys (((renT f ts).take i).map PyData.tuple))
        ⟨v5, rfl, s2, by rw [List.take_zero, List.append_nil]; exact f2, e2, d2⟩ (fun i σ H' _ ⟨_, _, e, _⟩ => same_sqT e sz2) ?_ ?_⟩
      · rintro j z σ H3 hz2 ⟨v5, rfl, s3, f3, e3, d3⟩
        obtain ⟨d, hd2, dz2⟩ := DpAll.getV az hz2
        have dz3 := dp_same s3 _ _ dz2
        have ndd := nd t (List.mem_of_getElem? ht) d (List.mem_of_getElem? hd2)
        have stp := nums_one ((ts.take i).flatten ++ t.take j) d
        have tk1 : (ts.take i).flatten ++ t.take (j + 1) = ((ts.take i).flatten ++ t.take j) ++ [d] := by rw [List.take_add_one, hd2, List.append_assoc]; rfl
        rw [← tk1] at stp
        have lac := nums_len ((ts.take i).flatten ++ t.take j)
        have lll : ((ts.take i).flatten ++ t.take j).length ≤ 100000 := by
          rw [flat_take ht, List.length_append] at l1
          rw [List.length_append, List.length_take]
          have : ts.flatten.length ≤ 100000 := sz
          omega
        generalize hacc : nums ((ts.take i).flatten ++ t.take j) = acc at f3 stp lac
        have nac : acc.Nodup := by rw [← hacc]; exact nums_nodup _
        walk_at "gs"
        refine ifc (isVarN d && decide (numN d ∉ acc)) (fun QT hQ => ?_) (fun hA => ?_) (fun hB => ?_)
        · walk_at "go"
          refine ⟨z, d, rfl, dz3, ndd, ?_⟩
          walk_at "go"
          by_cases va : isVarN d = true
          · rw [va] at hQ ⊢
            obtain ⟨n, n0, rfl⟩ := var_num ndd va
            obtain ⟨b, ws2, rfl, sq, aq⟩ := dp_tup dz3
            obtain ⟨w1, hw1, dw1⟩ := DpAll.get (i := 1) aq rfl
            cases dw1
            obtain ⟨kvs, h3, t3⟩ := f3.at_
            walk_at "go"
            refine ixT (j := 1) sq hw1 ?_
            walk_at "go"
            refine ⟨D, _, rfl, DGet.k (k := Sum.inl n) h3, _, rfl, ?_⟩
            rcases TabK.val n t3 with ⟨w1, w2⟩ | ⟨v', w, w1, w2, _⟩
            · have hn : n ∉ acc := fun hm => by rw [tbl_in nac hm] at w2; cases w2
              rw [show decide (numN (.tuple [.str "v", .int n]) ∉ acc) = true from decide_eq_true hn] at hQ
              rw [w1]
              exact hQ
            · have hn : n ∈ acc := Classical.byContradiction fun hm => by rw [tbl_out hm] at w2; cases w2
              rw [show decide (numN (.tuple [.str "v", .int n]) ∉ acc) = false from decide_eq_false fun z => z hn] at hQ
              rw [w1]
              exact hQ
          · rw [Bool.eq_false_iff.mpr va] at hQ ⊢
            exact hQ
        · obtain ⟨va, hn⟩ := Bool.and_eq_true_iff.mp hA
          have hn := of_decide_eq_true hn
          obtain ⟨kvs, h3, t3⟩ := f3.at_
          have lkv := TabK.len t3
          rw [tbl_len] at lkv
          obtain ⟨n, n0, rfl⟩ := var_num ndd va
          obtain ⟨b, ws2, rfl, sq, aq⟩ := dp_tup dz3
          obtain ⟨w1, hw1, dw1⟩ := DpAll.get (i := 1) aq rfl
          cases dw1
          walk_at "go"
          refine ⟨D, kvs, rfl, h3, ?_⟩
          walk_at "go"
          refine newN (n := 2) rfl (by decide) fun p1 np1 => ?_
          walk_at "go"
          refine newN (n := 1) rfl (by decide) fun p2 np2 => ?_
          walk_at "go"
          have sp1 := same_upd (o := .tup [V.str (Str.ofString "v"), V.int (f + (kvs.length : Nat))]) np1
          have sp2 := same_upd (o := .tup [V.ref p1]) np2
          have sp := sp1.trans sp2
          have pp : p1 ≠ p2 := fun z => by rw [← z, upd_same] at np2; cases np2
          have dv : Dp K (upd (upd H3 p1 (.tup [V.str (Str.ofString "v"), V.int (f + (kvs.length : Nat))])) p2 (.tup [V.ref p1])) (.ref p2) (.tuple [vN (f + (acc.length : Nat))]) := by
            refine .tup (SqT.of upd_same) (.cons (.tup (SqT.of (by rw [upd_ne pp]; exact upd_same)) (.cons (.str _) (.cons ?_ .nil))) .nil)
            rw [lkv]
            exact .int _
          have h5 := sp _ _ h3
          have e5 := sp _ _ e3
          refine ixT (j := 1) (same_sqT sp sq) hw1 ?_
          refine ⟨D, _, rfl, DPut.k (k := Sum.inl n) h5 (Nat.lt_of_le_of_lt (show _ ≤ 1000000 by omega) (by decide)), ?_⟩
          have tT := tbl_tm hf acc
          have t5 := tab_same sp tT.nd t3
          have d5 := dp_sameAll sp _ _ d3
          have s5 := s3.trans sp
          generalize (upd (upd H3 p1 (.tup [V.str (Str.ofString "v"), V.int (f + (kvs.length : Nat))])) p2 (.tup [V.ref p1])) = H5 at dv h5 e5 t5 d5 s5 ⊢
          have nt5 : notTup H5 D := .inr (.inl ⟨_, h5⟩)
          refine ⟨_, rfl, same_new nD s5, ⟨_, upd_same, ?_⟩, by rw [upd_ne DR.symm]; exact e5, dp_putAll nt5 _ _ (by unfold renT; rw [← List.map_take]; exact renT_noL fun x hx => nd x (List.mem_of_mem_take hx)) d5⟩
          rw [stp, numS_new (d := .tuple [.str "v", .int n]) rfl hn, tbl_snoc f hn]
          exact TabK.add (tab_put nt5 tT.nd t5) (by rw [tbl_keys]; exact hn) (dp_put nt5 _ _ (by simp [noL, noLA, vN]) dv)
        · refine ⟨_, rfl, s3, ?_, e3, d3⟩
          rw [stp]
          have : numS acc d = acc := by
            by_cases va : isVarN d = true
            · refine numS_old (Classical.byContradiction fun hn => ?_)
              rw [va, decide_eq_true hn] at hB
              cases hB
            · exact numS_non va
          rw [this]
          exact f3
      · rintro σ H3 ⟨v5, rfl, s3, f3, e3, d3⟩
        rw [lw, List.take_length, ← flat_take ht] at f3
        have tT := tbl_tm hf (nums (ts.take (i + 1)).flatten)
        have row := tbl_row (f := f) nd ht
        have lt : t.length ≤ 100000 := by
          rw [flat_take ht, List.length_append] at l1
          have : ts.flatten.length ≤ 100000 := sz
          omega
        walk_at "gs"
        refine tyl (SqL.of e3) ?_
        walk_at "gs"
        refine ⟨D, _, .ref pz, t, rfl, f3, tT.nd, dp_same s3 _ _ dz0, nd t (List.mem_of_getElem? ht), by rw [row, List.length_map]; omega, fun v H4 s4 d4 => ?_⟩
        rw [row] at d4
        have e4 := s4 _ _ e3
        have nt : notTup H4 R := .inl ⟨_, e4⟩
        walk_at "gs"
        refine ⟨_, _, _, rfl, rfl, e4, Nat.lt_of_le_of_lt (show _ ≤ 1000000 by omega) (by decide), ?_⟩
        walk_at "gs"
        refine ⟨_, _, ys ++ [v], rfl, same_new nRH (s3.trans s4), ?_, upd_same, ?_⟩
        · refine (f3.same' tT.nd s4).kp tT.nd (a := R) (b := R) (fun b o hb _ e => by rw [upd_ne hb]; exact e) ⟨_, e4, (fun _ w => by cases w), (fun _ _ w => by cases w)⟩ ⟨_, e4, (fun _ w => by cases w), (fun _ _ w => by cases w)⟩ DR DR
        · rw [List.take_add_one, renT_at (f := f) ht, List.map_append]
          exact dpAll_end (dp_putAll nt _ _ (by unfold renT; rw [← List.map_take]; exact renT_noL fun x hx => nd x (List.mem_of_mem_take hx)) (dp_sameAll s4 _ _ d3)) (dp_put nt _ _ (renT_noL1 (nd t (List.mem_of_getElem? ht))) d4)
    · rintro σ H2 ⟨v4, v5, ys, rfl, s2, f2, e2, d2⟩
      rw [lx, ← renT_len f ts, List.take_length] at d2
      walk_at "go"
      exact q R _ ys s2 nRH e2 d2

theorem ok__law_unify {f : Addr} {fd : FuncData} (F : Fun K "_law_unify" "_law_unify" s__law_unify f fd) (E : Bi K mg) (D__law_bound : Has P w K mg base 2 "_law_bound" ["left", "right", "at"] (sp__law_bound K)) (D__law_put : Has P w K mg base 2 "_law_put" ["table", "term"] (sp__law_put K)) : FnOk P w K mg base CX0 3 f fd ["left", "right"] (sp__law_unify K) := by
  obtain ⟨f__law_bound, fd__law_bound, G__law_bound, g__law_bound, kp__law_bound, b__law_bound⟩ := D__law_bound
  obtain ⟨f__law_put, fd__law_put, G__law_put, g__law_put, kp__law_put, b__law_put⟩ := D__law_put
  refine F.ok sc__law_unify (fun vs H Q E h => ?_) (fun cdv A outer s H vs Q E' hr h => ?_)
  · obtain ⟨x, y, L, R, k, s, rfl, _⟩ := h
    rfl
  · obtain ⟨x, y, L, R, k, s, rfl, dx, dy, tl, tr, l1, l2, eg, k1, q⟩ := h
    refine ⟨_, (pss_cons (ps_set (i := 2) sc__law_unify.nd rfl (Or.inl rfl) (pe_callB (call_max3Nu rfl) (by rfl) E.b_max (by decide +kernel) (pa_cons pe_int (pa_cons (pe_callB call_len_seq (by rfl) E.b_len PySem.boot_len (pa_cons (pv 0) pa_nil)) (pa_cons (pe_callB call_len_seq (by rfl) E.b_len PySem.boot_len (pa_cons (pv 1) pa_nil)) pa_nil)))))
      (pss_cons (ps_set (i := 3) sc__law_unify.nd rfl (Or.inl rfl) pe_dnewK)
      (pss_cons (ps_set (i := 4) sc__law_unify.nd rfl (Or.inl rfl) pe_int)
      (pss_cons (ps_while PassesOwn.never (pt_cmpR op_lt (pv 4) (pe_callB call_len_seq (by rfl) E.b_len PySem.boot_len (pa_cons (pv 0) pa_nil)) (nomark _)) (pss_one (ps_if (pt_cmpR (op_eqD hr.units) (pe_ix ix_tup (pv 0) (pv 4) (fun _ _ => rfl)) (pe_ix ix_tup (pv 1) (pv 4) (fun _ _ => rfl)) (nomark _)) (pss_one (ps_set (i := 4) sc__law_unify.nd rfl (Or.inl rfl) (pe_op op_add (pv 4) pe_int))) (pss_cons (ps_set (i := 5) sc__law_unify.nd rfl (Or.inl rfl) (pe_call G__law_bound (hr.mono (by decide)) (by rfl) g__law_bound kp__law_bound b__law_bound .nil pass0 (pa_cons (pv 0) (pa_cons (pv 1) (pa_cons (pv 4) pa_nil)))))
      (pss_cons (ps_if (pt_cmpR op_isN (pv 5) pe_non (nomark _)) (pss_one (ps_ret pe_non)) pss_nil)
      (pss_cons (ps_set (i := 6) sc__law_unify.nd rfl (Or.inl rfl) (pe_disp (pps_cons (pe_ix ix_tup (pv 5) pe_int (fun _ _ => rfl)) (pe_ix ix_tup (pv 5) pe_int (fun _ _ => rfl)) pps_nil) (by rfl) (by rfl) (fun z => by cases z) (by decide)))
      (pss_cons (ps_set (i := 0) sc__law_unify.nd rfl (Or.inl rfl) (pe_call G__law_put (hr.mono (by decide)) (by rfl) g__law_put kp__law_put b__law_put .nil pass0 (pa_cons (pv 6) (pa_cons (pv 0) pa_nil))))
      (pss_cons (ps_set (i := 1) sc__law_unify.nd rfl (Or.inl rfl) (pe_call G__law_put (hr.mono (by decide)) (by rfl) g__law_put kp__law_put b__law_put .nil pass0 (pa_cons (pv 6) (pa_cons (pv 1) pa_nil))))
      (pss_cons (ps_set (i := 7) sc__law_unify.nd rfl (Or.inl rfl) (pe_callB (call_max3Nu rfl) (by rfl) E.b_max (by decide +kernel) (pa_cons (pe_callB call_len_seq (by rfl) E.b_len PySem.boot_len (pa_cons (pv 0) pa_nil)) (pa_cons (pe_callB call_len_seq (by rfl) E.b_len PySem.boot_len (pa_cons (pv 1) pa_nil)) (pa_cons (pe_callB call_len_seq (by rfl) E.b_len PySem.boot_len (pa_cons (pe_ix ix_tup (pv 5) pe_int (fun _ _ => rfl)) pa_nil)) pa_nil)))))
      (pss_cons (ps_for PassesOwn.never rfl (pi_list (pe_callTy (call_list_dK rfl) (by rfl) E.b_list (by decide +kernel) (pa_cons (pv 3) pa_nil))) (pg_name (i := 8) sc__law_unify.nd rfl (Or.inl rfl)) (pss_cons (ps_set (i := 9) sc__law_unify.nd rfl (Or.inl rfl) (pe_call G__law_put (hr.mono (by decide)) (by rfl) g__law_put kp__law_put b__law_put .nil pass0 (pa_cons (pv 6) (pa_cons (pe_dget (hu_of hr) (pv 3) (pv 8) (fun _ _ => rfl)) pa_nil))))
      (pss_cons (ps_dput (hu_of hr) (pv 3) (pv 8) (pv 9) (by rfl))
      (pss_one (ps_set (i := 7) sc__law_unify.nd rfl (Or.inl rfl) (pe_callB (call_max2 rfl) (by rfl) E.b_max (by decide +kernel) (pa_cons (pv 7) (pa_cons (pe_callB call_len_seq (by rfl) E.b_len PySem.boot_len (pa_cons (pv 9) pa_nil)) pa_nil))))))))
      (pss_cons (ps_dput (hu_of hr) (pv 3) (pe_ix ix_tup (pv 5) pe_int (fun _ _ => rfl)) (pe_ix ix_tup (pv 5) pe_int (fun _ _ => rfl)) (by rfl))
      (pss_one (ps_if (pt_cmpR op_gt (pv 7) (pv 2) (nomark _)) (pss_one (ps_ret pe_str)) pss_nil)))))))))))))
      (pss_one (ps_ret (pv 3))))))), ?_⟩
    refine st_of (σ := [some _, some _, none, none, none, none, none, none, none, none]) rfl ?_
    walk_at "go"
    obtain ⟨ax, xs, rfl, sx, axs⟩ := dp_tup dx
    obtain ⟨ay, ys, rfl, sy, ays⟩ := dp_tup dy
    have lx := DpAll.len axs
    have ly := DpAll.len ays
    refine ⟨_, _, rfl, .inr sx, ?_⟩
    walk_at "go"
    refine ⟨_, _, rfl, .inr sy, ?_⟩
    walk_at "go"
    refine ⟨_, _, _, _, rfl, max3_int _ _ _, ?_⟩
    walk_at "go"
    have eB : max (max 200 (xs.length : Int)) (ys.length : Int) = ((max 200 (max L.length R.length) : Nat) : Int) := by omega
    rw [eB]
    have Bl : max 200 (max L.length R.length) ≤ 1000 := by omega
    have Bx : L.length ≤ max 200 (max L.length R.length) := by omega
    have By : R.length ≤ max 200 (max L.length R.length) := by omega
    generalize max 200 (max L.length R.length) = B at eg Bl eB Bx By
    intro z nz
    walk_at "go"
    have sz := same_upd (o := .dK []) nz
    refine while_m (fun j σ H' => ∃ (k : Nat) (L' R' : List PyData) (T : Tab) (p l r : List PyData) (vl vr : V) (v5 v6 v7 v8 v9 : Option V),
        σ = [some vl, some vr, some (.int (B : Nat)), some (.ref z), some (.int (p.length : Nat)), v5, v6, v7, v8, v9] ∧ Same H H' ∧
        Dp K H' vl (.tuple L') ∧ Dp K H' vr (.tuple R') ∧ FndA K H' z T ∧ Eg B k L' R' T s ∧ Sol L' R' T ∧ L'.length ≤ B ∧ R'.length ≤ B ∧ T.length + k ≤ 2000 ∧
        L' = p ++ l ∧ R' = p ++ r ∧ j = k * 1001 + l.length)
      ⟨_, k, L, R, [], [], L, R, .ref ax, .ref ay, none, none, none, none, none, rfl, sz, dp_same sz _ _ dx, dp_same sz _ _ dy, ⟨[], upd_same, True.intro⟩, eg, sol_zero tl tr, Bx, By, by rw [List.length_nil]; omega, rfl, rfl, rfl⟩ ?_
    clear eg Bx By tl tr dx dy sx sy axs ays lx ly eB
    rintro j σ H1 ⟨k, L', R', T, p, l, r, vl, vr, v5, v6, v7, v8, v9, rfl, s1, dl, dr, fT, eg, S, bl, br, tkl, eL, eR, rfl⟩
    obtain ⟨al, xl, rfl, sl, ql⟩ := dp_tup dl
    obtain ⟨ar, xr, rfl, sr, qr⟩ := dp_tup dr
    have lxl := DpAll.len ql
    have lxr := DpAll.len qr
    walk_at "go"
    refine ⟨_, _, rfl, .inr sl, ?_⟩
    walk_at "go"
    have hl := S.l
    have hr := S.r
    rw [eL] at hl
    rw [eR] at hr
    refine ite2 (fun hm => ?_) (fun hm => ?_)
    · have hm : (p.length : Int) < xl.length := of_decide_eq_true hm
      refine while_n ?_
      cases l with
      | nil => rw [eL, List.length_append, List.length_nil] at lxl; omega
      | cons e1 l =>
      cases r with
      | nil =>
        have := same_len hl hr rfl
        cases this
      | cons e2 r =>
      have g1 : L'[p.length]? = some e1 := by rw [eL, List.getElem?_append_right (Nat.le_refl _), Nat.sub_self]; rfl
      have g2 : R'[p.length]? = some e2 := by rw [eR, List.getElem?_append_right (Nat.le_refl _), Nat.sub_self]; rfl
      have nn1 := S.l.2 e1 (List.mem_of_getElem? g1)
      have nn2 := S.r.2 e2 (List.mem_of_getElem? g2)
      obtain ⟨w1, hw1, dw1⟩ := DpAll.get ql g1
      obtain ⟨w2, hw2, dw2⟩ := DpAll.get qr g2
      walk_at "gs"
      refine ifc (PyData.eqv e1 e2) (fun QT hQ => ?_) (fun he => ?_) (fun he => ?_)
      · walk_at "go"
        refine ixT (j := p.length) sl hw1 ?_
        walk_at "go"
        refine ixT (j := p.length) sr hw2 ?_
        walk_at "go"
        exact ⟨e1, e2, dw1, dw2, nd_shaped nn1, nd_shaped nn2, _, rfl, hQ⟩
      · obtain rfl := (eq_nd nn1 nn2).mp he
        walk_at "go"
        refine ⟨_, ?_, k, L', R', T, p ++ [e1], l, r, .ref al, .ref ar, v5, v6, v7, v8, v9, ?_, s1, dl, dr, fT, eg, S, bl, br, tkl, by rw [List.append_assoc]; exact eL, by rw [List.append_assoc]; exact eR, rfl⟩
        · rw [List.length_cons]; omega
        · rw [List.length_append, List.length_singleton]; rfl
      · have ne : e1 ≠ e2 := fun w => by rw [(eq_nd nn1 nn2).mpr w] at he; cases he
        have dif := eg_dif eg ne eL eR
        obtain ⟨k1', tm1⟩ := tms_mid hl
        obtain ⟨k2', tm2⟩ := tms_mid hr
        walk_at "gs"
        refine ⟨.ref al, .ref ar, p, l, r, e1, e2, k1', k2', rfl, by rw [← eL]; exact dl, by rw [← eR]; exact dr, hl.2, hr.2, tm1, tm2, ne, ?_⟩
        cases hb : bindM (e1 :: l) (e2 :: r) with
        | none =>
          intro H2 s2
          walk_at "gs"
          refine ifc true (fun QT hQ => ?_) (fun _ => ?_) (fun z => by cases z)
          · walk_at "go"
            exact ⟨rfl, _, rfl, hQ⟩
          · walk_at "go"
            have es : s = .non := by
              rcases dif with ⟨_, es⟩ | ⟨n', v', e, _⟩
              · exact es
              · rw [hb] at e; cases e
            subst es
            exact q _ (s1.trans s2)
        | some nv =>
          obtain ⟨n, v⟩ := nv
          refine ⟨fun own H2 s2 => ?_, fun own c w H2 s2 ec dw => ?_⟩
          · walk_at "gs"
            refine ifc true (fun QT hQ => ?_) (fun _ => ?_) (fun z => by cases z)
            · walk_at "go"
              exact ⟨rfl, _, rfl, hQ⟩
            · walk_at "go"
              have es : s = .non := by
                rcases dif with ⟨_, es⟩ | ⟨n', v', e, ⟨_, es⟩ | ⟨no, _⟩⟩
                · exact es
                · exact es
                · rw [hb] at e; cases e; exact absurd own no
              subst es
              exact q _ (s1.trans s2)
          · walk_at "gs"
            refine ifc false (fun QT hQ => ?_) (fun z => by cases z) (fun _ => ?_)
            · walk_at "go"
              exact ⟨rfl, _, rfl, hQ⟩
            walk_at "go"
            intro z7 nz7
            have zz7 : z ≠ z7 := by
              obtain ⟨_, e, _⟩ := fT.at_
              exact ne_of_none (s2 _ _ e) nz7
            have zc : z ≠ c := fun e => by
              obtain ⟨_, e2, _⟩ := fT.at_
              rw [← e, s2 _ _ e2] at ec
              cases ec
            have s7 := same_upd (o := .dK []) nz7
            unfold tPairs
            walk_at "go"
            refine ixT (j := 0) (SqT.of (s7 _ _ ec)) rfl ?_
            walk_at "go"
            refine ixT (j := 1) (SqT.of (s7 _ _ ec)) rfl ?_
            walk_at "go"
            unfold tPairs
            refine ⟨upd_same, [(Sum.inl n, w)], rfl, by show 1 ≤ 15; decide, ?_⟩
            walk_at "go"
            have s8 : Same H2 (upd (upd H2 z7 (.dK [])) z7 (.dK (mergeK [] [(Sum.inl n, w)]))) := fun b o e => by rw [upd_ne (ne_of_none e nz7)]; exact s7 _ _ e
            have d68 := dp_same s8 _ _ dw
            have f7 : FndA K (upd (upd H2 z7 (.dK [])) z7 (.dK (mergeK [] [(Sum.inl n, w)]))) z7 [(n, v)] := ⟨_, upd_same, TabK.snoc (kvs := []) (t := []) d68 True.intro⟩
            have ec8 := s8 _ _ ec
            generalize (upd (upd H2 z7 (.dK [])) z7 (.dK (mergeK [] [(Sum.inl n, w)]))) = H8 at s8 d68 f7 ec8
            have sH := s2.trans s8
            have fz8 := fT.same' S.t.nd sH
            have dl8 := dp_same sH _ _ dl
            have dr8 := dp_same sH _ _ dr
            have s18 := s1.trans sH
            have bnd : Bnd L' R' T n v := by
              have := bind_ok (T := T) hl hr hb own
              rw [← eL, ← eR] at this
              exact this
            have tm := tab_one (n := n) bnd.tm
            have vl1 : v.length ≤ 1000 := bnd.inf.elim (fun w => by have := w.length_le; omega) (fun w => by have := w.length_le; omega)
            have ndT : ∀ ds : List PyData, (∀ d ∈ ds, NdA d) → ∀ d ∈ appM [(n, v)] ds, NdA d := fun ds h => appM_nd tm.nd h
            have nv := bnd.tm.2
            clear dw s7 sH fT dl dr sl sr ql qr ec
            refine ⟨z7, [(n, v)], .ref al, L', rfl, f7, tm.nd, dl8, S.l.2, len_appM vl1 (by omega) S.l.2, fun vl' H9 s9 dl9 => ?_⟩
            walk_at "go"
            refine ⟨z7, [(n, v)], .ref ar, R', rfl, f7.same' tm.nd s9, tm.nd, dp_same s9 _ _ dr8, S.r.2, len_appM vl1 (by omega) S.r.2, fun vr' H10 s10 dr10 => ?_⟩
            have sA := s9.trans s10
            have f7 := f7.same' tm.nd sA
            have fz := fz8.same' S.t.nd sA
            have dl10 := dp_same s10 _ _ dl9
            have d610 := dp_same sA _ _ d68
            have ec10 := sA _ _ ec8
            have s110 := s18.trans sA
            clear s9 s10 sA fz8 d68 s18 dl9 dl8 dr8 ec8
            have Sn := S.next bnd
            obtain ⟨al', xl', rfl, sl', ql'⟩ := dp_tup dl10
            obtain ⟨ar', xr', rfl, sr', qr'⟩ := dp_tup dr10
            obtain ⟨aw, xw, rfl, sw, qw⟩ := dp_tup d610
            have lxl' := DpAll.len ql'
            have lxr' := DpAll.len qr'
            have lxw := DpAll.len qw
            walk_at "go"
            refine ⟨_, _, rfl, .inr sl', ?_⟩
            walk_at "go"
            refine ⟨_, _, rfl, .inr sr', ?_⟩
            walk_at "go"
            refine ixT (j := 1) (SqT.of ec10) rfl ?_
            walk_at "go"
            refine ⟨_, _, rfl, .inr sw, ?_⟩
            walk_at "go"
            refine ⟨_, _, _, _, rfl, max3_int _ _ _, ?_⟩
            walk_at "go"
            have vM : v.length ≤ max (appM [(n, v)] L').length (appM [(n, v)] R').length := by
              have := Sn.inf (n, v) (by unfold up1; exact List.mem_append_right _ (.head _))
              change v <:+: _ ∨ v <:+: _ at this
              exact this.elim (fun w => by have := w.length_le; omega) (fun w => by have := w.length_le; omega)
            have eM : max (max (xl'.length : Int) (xr'.length : Int)) (xw.length : Int) = ((max (appM [(n, v)] L').length (appM [(n, v)] R').length : Nat) : Int) := by omega
            rw [eM]
            have dlX := dl10
            clear dl10
            obtain ⟨kvs, hz, tz⟩ := fz.at_
            have lkv := TabK.len tz
            refine ⟨z, kvs, rfl, hz, fun r9 nr9 => ?_⟩
            have sR := same_upd (o := .lst (kvs.map fun kv => kV kv.1)) nr9
            have zr9 : z ≠ r9 := ne_of_none hz nr9
            have cr9 : c ≠ r9 := ne_of_none ec10 nr9
            have r9H : H r9 = Option.none := none_back s110 nr9
            have z7r9 : z7 ≠ r9 := by
              obtain ⟨_, e, _⟩ := f7.at_
              exact ne_of_none e nr9
            walk_at "go"
            have lkm : (kvs.map fun kv => kV kv.1).length = T.length := by rw [List.length_map, lkv]
            refine ⟨r9, rfl, ⟨_, SqL.of upd_same⟩, for_list (K := K) (a := r9) (xs := kvs.map fun kv => kV kv.1) (fun i σ H' => ∃ (v8 v9 : Option V), σ = [some (.ref al'), some (.ref ar'), some (.int (B : Nat)), some (.ref z), some (.int (p.length : Nat)), some (.ref c), some (.ref z7), some (.int ((max (appM [(n, v)] L').length (appM [(n, v)] R').length : Nat) : Int)), v8, v9] ∧ Same H H' ∧
                H' r9 = some (.lst (kvs.map fun kv => kV kv.1)) ∧ FndA K H' z (halfT (appM [(n, v)]) T i) ∧ FndA K H' z7 [(n, v)] ∧ Dp K H' (.ref al') (.tuple (appM [(n, v)] L')) ∧ Dp K H' (.ref ar') (.tuple (appM [(n, v)] R')) ∧ H' c = some (.tup [.int n, .ref aw]) ∧ Dp K H' (.ref aw) (.tuple v))
              ⟨_, _, rfl, fun b o e => sR _ _ (s110 _ _ e), upd_same, by
                show FndA K _ z (([] : Tab) ++ T)
                exact fz.same' S.t.nd sR, f7.same' tm.nd sR, dp_same sR _ _ dlX, dp_same sR _ _ dr10, sR _ _ ec10, dp_same sR _ _ d610⟩ (fun i σ H' _ ⟨_, _, _, _, e, _⟩ => SqL.of e) ?_ ?_⟩
            · rintro i xk σ HA hxk ⟨v8, v9, rfl, sA, rA, fA, f7A, dlA, drA, ecA, d6A⟩
              rw [List.getElem?_map] at hxk
              obtain ⟨kv, hkv, rfl⟩ := Option.map_eq_some_iff.mp hxk
              obtain ⟨qq, hq1, hq2, _⟩ := TabK.get tz hkv
              rw [hq2]
              have mq : qq ∈ T := List.mem_of_getElem? hq1
              have hq3 := half_get (f := appM [(n, v)]) hq1
              have ndH : ((halfT (appM [(n, v)]) T i).map (·.1)).Nodup := by rw [half_keys]; exact S.nd
              have vq := valT_at ndH (List.mem_of_getElem? hq3)
              have tnH : TabN (halfT (appM [(n, v)]) T i) := fun y hy => by
                rcases half_mem hy with hy | ⟨q0, hq0, rfl⟩
                · exact S.t.nd y hy
                · exact ndT _ (S.t.nd q0 hq0)
              obtain ⟨kvA, hzA, tA⟩ := fA.at_
              walk_at "go"
              rcases TabK.val qq.1 tA with ⟨_, w2⟩ | ⟨u, w, w1, w2, dw⟩
              · rw [vq] at w2; cases w2
              rw [vq] at w2
              cases w2
              refine ⟨z, u, rfl, by have := DGet.k (k := Sum.inl qq.1) hzA; rw [w1] at this; exact this, ?_⟩
              walk_at "go"
              have lq : qq.2.length ≤ 1000 := (S.inf qq mq).elim (fun w => by have := w.length_le; omega) (fun w => by have := w.length_le; omega)
              refine ⟨z7, [(n, v)], u, qq.2, rfl, f7A, tm.nd, dw, (S.t qq mq).2, len_appM vl1 lq (S.t qq mq).2, fun u' HB sB du' => ?_⟩
              walk_at "go"
              have hzB := sB _ _ hzA
              have lA := TabK.len tA
              have lH : (halfT (appM [(n, v)]) T i).length = T.length := by have := congrArg List.length (half_keys (appM [(n, v)]) T i); rwa [List.length_map, List.length_map] at this
              refine ⟨z, _, rfl, DPut.k (k := Sum.inl qq.1) hzB (Nat.lt_of_le_of_lt (show _ ≤ 100000 by omega) (by decide)), ?_⟩
              walk_at "go"
              have ntz : notTup HB z := .inr (.inl ⟨_, hzB⟩)
              have rp := TabK.rep (n := qq.1) (dp_put (o := .dK (putK kvA (Sum.inl qq.1) u')) ntz _ _ (tup_noL (ndT _ (S.t qq mq).2)) du') (tab_put (o := .dK (putK kvA (Sum.inl qq.1) u')) ntz tnH (tab_same sB tnH tA))
              have duP := dp_put (o := .dK (putK kvA (Sum.inl qq.1) u')) ntz _ _ (tup_noL (ndT _ (S.t qq mq).2)) du'
              rw [half_step S.nd hq1, ← putK_old w1] at rp
              have kp : KpP z z HB (upd HB z (.dK (putK kvA (Sum.inl qq.1) u'))) := fun b o hb _ e => by rw [upd_ne hb]; exact e
              have ntz2 : nTup HB z := ⟨_, hzB, (fun _ w => by cases w), (fun _ _ w => by cases w)⟩
              obtain ⟨au, xu, rfl, su, qu⟩ := dp_tup duP
              have lxu := DpAll.len qu
              refine ⟨_, _, rfl, .inr su, ?_⟩
              walk_at "go"
              refine ⟨_, _, rfl, ?_⟩
              walk_at "go"
              have uM : (appM [(n, v)] qq.2).length ≤ max (appM [(n, v)] L').length (appM [(n, v)] R').length := by
                have := Sn.inf (qq.1, appM [(n, v)] qq.2) (by unfold up1; exact List.mem_append_left _ (List.mem_map.mpr ⟨qq, mq, rfl⟩))
                change appM [(n, v)] qq.2 <:+: _ ∨ appM [(n, v)] qq.2 <:+: _ at this
                exact this.elim (fun w => by have := w.length_le; omega) (fun w => by have := w.length_le; omega)
              refine ⟨some (kV (Sum.inl qq.1)), some (.ref au), ?_, fun b o e => by rw [upd_ne (ne_of_none e nz)]; exact sB _ _ (sA _ _ e), by rw [upd_ne zr9.symm]; exact sB _ _ rA, ⟨_, upd_same, rp⟩, (f7A.same' tm.nd sB).kp tm.nd kp ntz2 ntz2 zz7.symm zz7.symm, dp_put ntz _ _ (tup_noL (ndT _ S.l.2)) (dp_same sB _ _ dlA), dp_put ntz _ _ (tup_noL (ndT _ S.r.2)) (dp_same sB _ _ drA), by rw [upd_ne zc.symm]; exact sB _ _ ecA, dp_put ntz _ _ (tup_noL nv) (dp_same sB _ _ d6A)⟩
              rw [if_neg (by omega)]
            · rintro σ HA ⟨v8, v9, rfl, sA, rA, fA, f7A, dlA, drA, ecA, d6A⟩
              rw [lkm, half_all] at fA
              walk_at "go"
              refine ixT (j := 1) (SqT.of ecA) rfl ?_
              walk_at "go"
              refine ixT (j := 0) (SqT.of ecA) rfl ?_
              have nF : n ∉ T.map (·.1) := fun w => bnd.at_.elim (fun x => free_keys.mp S.fl n w x) fun x => free_keys.mp S.fr n w x
              have nF2 : n ∉ (T.map fun q => (q.1, appM [(n, v)] q.2)).map (·.1) := by rw [List.map_map]; exact nF
              have tnT : TabN (T.map fun q => (q.1, appM [(n, v)] q.2)) := fun y hy => by
                obtain ⟨q0, hq0, rfl⟩ := List.mem_map.mp hy
                exact ndT _ (S.t.nd q0 hq0)
              obtain ⟨kvA, hzA, tA⟩ := fA.at_
              have lA := TabK.len tA
              rw [List.length_map] at lA
              refine ⟨z, _, rfl, DPut.k (k := Sum.inl n) hzA (Nat.lt_of_le_of_lt (show _ ≤ 100000 by omega) (by decide)), ?_⟩
              have ntz : notTup HA z := .inr (.inl ⟨_, hzA⟩)
              have tB : TabK K (upd HA z (.dK (putK kvA (Sum.inl n) (.ref aw)))) (putK kvA (Sum.inl n) (.ref aw)) (up1 n v T) := TabK.add (tab_put ntz tnT tA) nF2 (dp_put ntz _ _ (tup_noL nv) d6A)
              have dlB := dp_put (o := .dK (putK kvA (Sum.inl n) (.ref aw))) ntz _ _ (tup_noL (ndT _ S.l.2)) dlA
              have drB := dp_put (o := .dK (putK kvA (Sum.inl n) (.ref aw))) ntz _ _ (tup_noL (ndT _ S.r.2)) drA
              have sB : Same H (upd HA z (.dK (putK kvA (Sum.inl n) (.ref aw)))) := fun b o e => by rw [upd_ne (ne_of_none e nz)]; exact sA _ _ e
              have hzB : (upd HA z (.dK (putK kvA (Sum.inl n) (.ref aw)))) z = some (.dK (putK kvA (Sum.inl n) (.ref aw))) := upd_same
              generalize putK kvA (Sum.inl n) (.ref aw) = kvB at tB hzB dlB drB sB
              generalize upd HA z (.dK kvB) = HB at tB hzB dlB drB sB
              have fzB : FndA K HB z (up1 n v T) := ⟨kvB, hzB, tB⟩
              have lT : (up1 n v T).length = T.length + 1 := by unfold up1; rw [List.length_append, List.length_map, List.length_singleton]
              walk_at "go"
              refine ite2 (fun h1 => ?_) (fun h1 => ?_)
              · have h1 := of_decide_eq_true h1
                walk_at "go"
                rcases dif with ⟨e, _⟩ | ⟨n', v', e, ⟨no, _⟩ | ⟨_, ⟨big, es⟩ | ⟨fit, j, ek, eg'⟩⟩⟩
                · rw [hb] at e; cases e
                · rw [hb] at e; cases e; exact absurd no own
                · subst es
                  exact q _ sB
                · rw [hb] at e; cases e; omega
              · have h1 : ¬ (B : Int) < ((max (appM [(n, v)] L').length (appM [(n, v)] R').length : Nat) : Int) := fun w => h1 (decide_eq_true w)
                walk_at "go"
                rcases dif with ⟨e, _⟩ | ⟨n', v', e, ⟨no, _⟩ | ⟨_, ⟨big, es⟩ | ⟨fit, j, ek, eg'⟩⟩⟩
                · rw [hb] at e; cases e
                · rw [hb] at e; cases e; exact absurd no own
                · rw [hb] at e; cases e; omega
                · rw [hb] at e; cases e
                  have lp := appM_len tm p
                  have eP := (List.take_append_drop p.length (appM [(n, v)] p)).symm
                  have lP : ((appM [(n, v)] p).take p.length).length = p.length := by rw [List.length_take]; omega
                  have eL2 : appM [(n, v)] L' = (appM [(n, v)] p).take p.length ++ ((appM [(n, v)] p).drop p.length ++ appM [(n, v)] (e1 :: l)) := by rw [eL, appM_app, ← List.append_assoc, List.take_append_drop]
                  have eR2 : appM [(n, v)] R' = (appM [(n, v)] p).take p.length ++ ((appM [(n, v)] p).drop p.length ++ appM [(n, v)] (e2 :: r)) := by rw [eR, appM_app, ← List.append_assoc, List.take_append_drop]
                  have lm := congrArg List.length eL2
                  rw [List.length_append] at lm
                  exact ⟨_, by omega, j, _, _, _, (appM [(n, v)] p).take p.length, _, _, .ref al', .ref ar', _, _, _, _, _, by rw [lP], sB, dlB, drB, fzB, eg', Sn, by omega, by omega, by omega, eL2, eR2, rfl⟩
    · have e0 : l = [] := List.eq_nil_of_length_eq_zero (by
        have : ¬ (p.length : Int) < xl.length := fun w => hm (decide_eq_true w)
        rw [lxl, eL, List.length_append] at this
        omega)
      subst e0
      have e3 : r = [] := same_len hr hl rfl
      subst e3
      obtain rfl := eL.trans eR.symm
      have es := eg_same eg rfl
      subst es
      walk_at "go"
      exact q z H1 s1 nz fT

theorem ok__law_conjuncts {f : Addr} {fd : FuncData} (F : Fun K "_law_conjuncts" "_law_conjuncts" s__law_conjuncts f fd) (E : Bi K mg) (D__law_parts : Has P w K mg base 2 "_law_parts" ["term"] (sp__law_parts K)) : FnOk P w K mg base CX0 3 f fd ["body"] (sp__law_conjuncts K) := by
  obtain ⟨f__law_parts, fd__law_parts, G__law_parts, g__law_parts, kp__law_parts, b__law_parts⟩ := D__law_parts
  refine F.ok sc__law_conjuncts (fun vs H Q E h => ?_) (fun cdv A outer s H vs Q E' hr h => ?_)
  · obtain ⟨x, rows, rfl, _⟩ := h
    rfl
  · obtain ⟨x, rows, rfl, dx, ok, ne, hl, q⟩ := h
    refine ⟨_, (pss_cons (ps_set (i := 1) sc__law_conjuncts.nd rfl (Or.inl rfl) (pe_lst pa_nil))
      (pss_cons (ps_set (i := 2) sc__law_conjuncts.nd rfl (Or.inl rfl) (pe_lst (pa_cons (pv 0) pa_nil)))
      (pss_cons (ps_while PassesOwn.never (pt_cmpR op_gt (pe_callB call_len_seq (by rfl) E.b_len PySem.boot_len (pa_cons (pv 2) pa_nil)) pe_int (nomark _)) (pss_cons (ps_set (i := 3) sc__law_conjuncts.nd rfl (Or.inl rfl) (pe_bm0 PySem.F.plainAttrs_list PySem.F.slot_list_pop PySem.F.type_list_pop mt_pop (pv 2)))
      (pss_one (ps_if (pt_cmpR (op_eqD hr.units) (pe_ix ix_tup (pv 3) pe_int (fun _ _ => rfl)) (pe_tup (pa_cons pe_str (pa_cons pe_str (pa_cons pe_int pa_nil)))) (nomark _)) (pss_cons (ps_set (i := 4) sc__law_conjuncts.nd rfl (Or.inl rfl) (pe_call G__law_parts (hr.mono (by decide)) (by rfl) g__law_parts kp__law_parts b__law_parts .nil pass0 (pa_cons (pv 3) pa_nil)))
      (pss_cons (ps_expr (pe_bm PySem.F.plainAttrs_list PySem.F.slot_list_append PySem.F.type_list_append mt_append (pv 2) (pa_cons (pe_ix ix_list (pv 4) pe_int (fun _ _ => rfl)) pa_nil)))
      (pss_one (ps_expr (pe_bm PySem.F.plainAttrs_list PySem.F.slot_list_append PySem.F.type_list_append mt_append (pv 2) (pa_cons (pe_ix ix_list (pv 4) pe_int (fun _ _ => rfl)) pa_nil)))))) (pss_one (ps_if (pt_cmpR (op_neD hr.units) (pv 3) (pe_tup (pa_cons (pe_tup (pa_cons pe_str (pa_cons pe_str (pa_cons pe_int pa_nil)))) pa_nil)) (nomark _)) (pss_one (ps_expr (pe_bm PySem.F.plainAttrs_list PySem.F.slot_list_append PySem.F.type_list_append mt_append (pv 1) (pa_cons (pv 3) pa_nil)))) pss_nil))))))
      (pss_one (ps_ret (pv 1)))))), ?_⟩
    refine st_of (σ := [some _, none, none, none, none]) rfl ?_
    walk_at "go"
    refine newN (n := 0) rfl (by decide) fun R nR => ?_
    have sR := same_upd (o := .lst []) nR
    walk_at "go"
    refine newN (n := 1) rfl (by decide) fun S nS => ?_
    have sS := same_upd (o := .lst [x]) nS
    have RS : R ≠ S := fun z => by rw [← z, upd_same] at nS; cases nS
    have s0 := sR.trans sS
    have nSH : H S = Option.none := none_back sR nS
    walk_at "go"
    refine while_m (fun m σ H' => ∃ (v3 v4 : Option V) (done : List (List PyData)) (Ss : List (List (List PyData))) (ys zs : List V), σ = [some x, some (.ref R), some (.ref S), v3, v4] ∧ Same H H' ∧ H' R = some (.lst ys) ∧ DpAll K H' ys ((goalsM done).map PyData.tuple) ∧ H' S = some (.lst zs) ∧ DpAll K H' zs (Ss.map fun s => PyData.tuple (joinM s)) ∧ (∀ s ∈ Ss, s ≠ []) ∧ done ++ Ss.reverse.flatten = rows ∧ m = (Ss.map fun s => 2 * s.length - 1).sum)
      ⟨_, none, none, [], [rows], [], [x], rfl, s0, by rw [upd_ne RS, upd_same], .nil, upd_same, .cons (dp_same s0 _ _ dx) .nil, fun s hs => by rw [List.mem_singleton.mp hs]; exact ne, by simp, rfl⟩ ?_
    rintro m σ H1 ⟨v3, v4, done, Ss, ys, zs, rfl, s1, e1, d1, e2, d2, hne, hrows, rfl⟩
    have lz := DpAll.len d2
    rw [List.length_map] at lz
    walk_at "go"
    refine ⟨S, zs, rfl, .inl (SqL.of e2), ?_⟩
    walk_at "go"
    refine ite2 (fun c => ?_) (fun c => ?_)
    · have c := of_decide_eq_true c
      refine while_n ?_
      obtain ⟨Ss', Sl, rfl⟩ : ∃ a b, Ss = a ++ [b] := by
        rcases List.eq_nil_or_concat Ss with e | ⟨a, b, e⟩
        · subst e
          rw [List.length_nil] at lz
          omega
        · exact ⟨a, b, by rw [e]; simp⟩
      rw [List.map_append] at d2
      obtain ⟨zs', z, rfl, d2a, dz⟩ := dp_last d2
      have neS := hne Sl (List.mem_append_right _ (.head _))
      have neS' : ∀ s ∈ Ss', s ≠ [] := fun s hs => hne s (List.mem_append_left _ hs)
      have hrows2 : done ++ (Sl ++ Ss'.reverse.flatten) = rows := by rw [← hrows]; simp
      have okS : OkRs Sl := fun r hr => ok r (by rw [← hrows2]; exact List.mem_append_right _ (List.mem_append_left _ hr))
      walk_at "gs"
      refine tyl (SqL.of e2) ?_
      walk_at "gs"
      refine ⟨S, zs' ++ [z], z, rfl, rfl, e2, by rw [List.length_append, List.length_singleton, Nat.add_sub_cancel, List.getElem?_append_right (Nat.le_refl _), Nat.sub_self]; rfl, ?_⟩
      rw [List.dropLast_concat]
      have sS2 : Same H (upd H1 S (.lst zs')) := same_new nSH s1
      have nt1 : notTup H1 S := .inl ⟨_, e2⟩
      walk_at "gs"
      have jS := join_tms okS neS
      have dz2 := dp_put (o := .lst zs') nt1 _ _ (tup_noL jS.2) dz
      have nlD : ∀ l : List (List (List PyData)), (∀ s ∈ l, OkRs s ∧ s ≠ []) → noLA (l.map fun s => PyData.tuple (joinM s)) = true := fun l h => noLA_of fun e he => by
        obtain ⟨s, hs, rfl⟩ := List.mem_map.mp he
        exact tup_noL (join_tms (h s hs).1 (h s hs).2).2
      have okS' : ∀ s ∈ Ss', OkRs s ∧ s ≠ [] := fun s hs => ⟨fun r hr => ok r (by rw [← hrows2]; exact List.mem_append_right _ (List.mem_append_right _ (List.mem_flatten.mpr ⟨s, List.mem_reverse.mpr hs, hr⟩))), neS' s hs⟩
      have d2b := dp_putAll (o := .lst zs') nt1 _ _ (nlD _ okS') d2a
      have okd : ∀ r ∈ done, OkR r := fun r hr => ok r (by rw [← hrows2]; exact List.mem_append_left _ hr)
      have nlG : ∀ l : List (List PyData), (∀ r ∈ l, OkR r) → noLA ((goalsM l).map PyData.tuple) = true := fun l h => noLA_of fun e he => by
        obtain ⟨s, hs, rfl⟩ := List.mem_map.mp he
        exact tup_noL (h s (goals_mem hs)).1
      have d1b := dp_putAll (o := .lst zs') nt1 _ _ (nlG _ okd) d1
      have e1b : (upd H1 S (.lst zs')) R = some (.lst ys) := by rw [upd_ne RS]; exact e1
      have e2b : (upd H1 S (.lst zs')) S = some (.lst zs') := upd_same
      clear d1 d2 d2a dz nt1
      generalize upd H1 S (.lst zs') = H2 at sS2 dz2 d2b d1b e1b e2b ⊢
      have nne : joinM Sl ≠ [] := jS.ne
      have jl := join_len okS
      have lSl : Sl.length ≤ 12 := by
        have := congrArg List.length hrows2
        rw [List.length_append, List.length_append] at this
        omega
      obtain ⟨ax, xs, rfl, sx, axs⟩ := dp_tup dz2
      cases Sl with
      | nil => exact absurd rfl neS
      | cons r0 rest =>
      cases rest with
      | nil =>
        have okr := okS r0 (.head _)
        obtain ⟨h0, h1, eh, nh, hc, hcl⟩ := okr.cons
        have ej : joinM [r0] = r0 := rfl
        rw [ej] at dz2 axs
        obtain ⟨w0, hw0, dw0⟩ := DpAll.get (i := 0) axs (by rw [eh]; rfl)
        walk_at "go"
        refine ixT (j := 0) sx hw0 ?_
        walk_at "go"
        refine newN (n := 3) rfl (by decide) fun P nP => ?_
        have sP := same_upd (o := .tup [V.str (Str.ofString "f"), V.str (Str.ofString ","), V.int 2]) nP
        refine ⟨h0, commaN, dp_same sP _ _ dw0, .tup (SqT.of upd_same) (.cons (.str _) (.cons (.str _) (.cons (.int _) .nil))), nd_shaped nh, nd_shaped comma_nd, _, rfl, ?_⟩
        rw [hc]
        walk_at "go"
        refine newN (n := 3) rfl (by decide) fun P1 nP1 => ?_
        have sP1 := same_upd (o := .tup [V.str (Str.ofString "f"), V.str (Str.ofString "true"), V.int 0]) nP1
        walk_at "go"
        refine newN (n := 1) rfl (by decide) fun P2 nP2 => ?_
        have sP2 := same_upd (o := .tup [V.ref P1]) nP2
        have sPP := sP.trans (sP1.trans sP2)
        refine ⟨.tuple r0, .tuple [trueN], dp_same sPP _ _ dz2, .tup (SqT.of upd_same) (.cons (.tup (SqT.of (sP2 _ _ upd_same)) (.cons (.str _) (.cons (.str _) (.cons (.int _) .nil)))) .nil), tup_shaped okr.1, tup_shaped true_row.1, _, rfl, ?_⟩
        have e1c := sPP _ _ e1b
        have e2c := sPP _ _ e2b
        have d1c := dp_sameAll sPP _ _ d1b
        have d2c := dp_sameAll sPP _ _ d2b
        have dzc := dp_same sPP _ _ dz2
        have sHc := sS2.trans sPP
        generalize (upd (upd (upd H2 P (.tup [V.str (Str.ofString "f"), V.str (Str.ofString ","), V.int 2])) P1 (.tup [V.str (Str.ofString "f"), V.str (Str.ofString "true"), V.int 0])) P2 (.tup [V.ref P1])) = H3 at e1c e2c d1c d2c dzc sHc ⊢
        have hr3 : (done ++ [r0]) ++ Ss'.reverse.flatten = rows := by rw [← hrows2]; simp
        have msr : (Ss'.map fun s => 2 * s.length - 1).sum < ((Ss' ++ [[r0]]).map fun s => 2 * s.length - 1).sum := by
          rw [List.map_append, List.sum_append]
          show _ < _ + 1
          omega
        have lys := DpAll.len d1c
        rw [List.length_map] at lys
        have lgd : (goalsM done).length ≤ done.length := List.length_filter_le _ _
        have ldn : done.length ≤ 12 := by
          have := congrArg List.length hrows2
          rw [List.length_append] at this
          omega
        refine ite2 (fun c => ?_) (fun c => ?_)
        · have nt : isTr r0 = false := by
            unfold isTr
            cases h : PyData.eqv (.tuple r0) (.tuple [trueN]) with
            | false => rfl
            | true => rw [h] at c; cases c
          walk_at "go"
          refine tyl (SqL.of e1c) ?_
          walk_at "go"
          refine ⟨_, _, _, rfl, rfl, e1c, Nat.lt_of_le_of_lt (show _ ≤ 1000000 by omega) (by decide), ?_⟩
          have nt3 : notTup H3 R := .inl ⟨_, e1c⟩
          refine ⟨_, msr, _, _, done ++ [r0], Ss', ys ++ [.ref ax], zs', rfl, same_new nR sHc, upd_same, ?_, by rw [upd_ne RS.symm]; exact e2c, dp_putAll nt3 _ _ (nlD _ okS') d2c, neS', hr3, rfl⟩
          rw [goals_app, goals_one, nt, List.map_append]
          exact dpAll_end (dp_putAll nt3 _ _ (nlG _ okd) d1c) (dp_put nt3 _ _ (tup_noL okr.1) dzc)
        · have nt : isTr r0 = true := by
            unfold isTr
            cases h : PyData.eqv (.tuple r0) (.tuple [trueN]) with
            | true => rfl
            | false => rw [h] at c; exact absurd rfl c
          refine ⟨_, msr, _, _, done ++ [r0], Ss', ys, zs', rfl, sHc, e1c, ?_, e2c, d2c, neS', hr3, rfl⟩
          rw [goals_app, goals_one, nt, if_pos rfl, List.append_nil]
          exact d1c
      | cons r1 rest =>
        have okr := okS r0 (.head _)
        have okt : OkRs (r1 :: rest) := fun r hr => okS r (.tail _ hr)
        have jt := join_tms okt (List.cons_ne_nil _ _)
        have fl : joinM (r0 :: r1 :: rest) = commaN :: [r0, joinM (r1 :: rest)].flatten := by
          rw [join_cons (List.cons_ne_nil _ _)]
          simp
        rw [fl] at dz2 axs
        obtain ⟨w0, hw0, dw0⟩ := DpAll.get (i := 0) axs rfl
        walk_at "go"
        refine ixT (j := 0) sx hw0 ?_
        walk_at "go"
        refine newN (n := 3) rfl (by decide) fun P nP => ?_
        have sP := same_upd (o := .tup [V.str (Str.ofString "f"), V.str (Str.ofString ","), V.int 2]) nP
        refine ⟨commaN, commaN, dp_same sP _ _ dw0, .tup (SqT.of upd_same) (.cons (.str _) (.cons (.str _) (.cons (.int _) .nil))), nd_shaped comma_nd, nd_shaped comma_nd, _, rfl, ?_⟩
        rw [nd_refl comma_nd]
        refine iteT ?_
        walk_at "go"
        refine ⟨.ref ax, commaN, [r0, joinM (r1 :: rest)], rfl, dp_same sP _ _ dz2, comma_nd, fun r hr => ?_, by show 2 ≤ 9; decide, by rw [fl, List.length_cons] at jl; rw [List.length_cons] at lSl; have : (r0 :: r1 :: rest).length ≤ 12 := lSl; omega, fun R1 ps H3 s3 nR1 e3 d3 => ?_⟩
        · rcases List.mem_cons.mp hr with rfl | hr
          · exact ⟨okr.2.1, okr.1⟩
          · rw [List.mem_singleton.mp hr]
            exact jt
        obtain ⟨v0, v1, rfl, dv0, dv1⟩ : ∃ v0 v1, ps = [v0, v1] ∧ Dp K H3 v0 (.tuple r0) ∧ Dp K H3 v1 (.tuple (joinM (r1 :: rest))) := by
          cases d3 with
          | cons a b => cases b with
            | cons b c => cases c; exact ⟨_, _, rfl, a, b⟩
        have sPP := sP.trans s3
        have e1c := sPP _ _ e1b
        have e2c := sPP _ _ e2b
        have d1c := dp_sameAll sPP _ _ d1b
        have d2c := dp_sameAll sPP _ _ d2b
        have sHc := sS2.trans sPP
        have lz' := DpAll.len d2c
        rw [List.length_map] at lz'
        have lS' : Ss'.length ≤ 12 := by
          have h1 : ∀ l : List (List (List PyData)), (∀ s ∈ l, s ≠ []) → l.length ≤ l.flatten.length := by
            intro l
            induction l with
            | nil => intro _; exact Nat.le_refl _
            | cons s l ih =>
              intro h
              have a := List.length_pos_iff.mpr (h s (.head _))
              have b := ih fun x hx => h x (.tail _ hx)
              rw [List.flatten_cons, List.length_append, List.length_cons]
              omega
          have h2 := h1 Ss'.reverse fun s hs => neS' s (List.mem_reverse.mp hs)
          have := congrArg List.length hrows2
          rw [List.length_append, List.length_append] at this
          rw [List.length_reverse] at h2
          omega
        walk_at "go"
        refine tyl (SqL.of e2c) ?_
        walk_at "go"
        refine ixL (j := 1) (SqL.of e3) rfl ?_
        refine ⟨_, _, _, rfl, rfl, e2c, Nat.lt_of_le_of_lt (show _ ≤ 1000000 by omega) (by decide), ?_⟩
        have R1S : R1 ≠ S := fun z => by rw [z, sP _ _ e2b] at nR1; cases nR1
        walk_at "go"
        refine tyl (SqL.of upd_same) ?_
        walk_at "go"
        refine ixL (j := 0) (SqL.of (by rw [upd_ne R1S]; exact e3)) rfl ?_
        refine ⟨_, _, _, rfl, rfl, upd_same, Nat.lt_of_le_of_lt (show _ ≤ 1000000 by rw [List.length_append, List.length_singleton]; omega) (by decide), ?_⟩
        have nt3 : notTup H3 S := .inl ⟨_, e2c⟩
        have nt4 : notTup (upd H3 S (.lst (zs' ++ [v1]))) S := .inl ⟨_, upd_same⟩
        have okSS : ∀ s ∈ Ss' ++ [r1 :: rest], OkRs s ∧ s ≠ [] := fun s hs => by
          rcases List.mem_append.mp hs with hs | hs
          · exact okS' s hs
          · rw [List.mem_singleton.mp hs]
            exact ⟨okt, List.cons_ne_nil _ _⟩
        refine ⟨_, ?_, _, _, done, (Ss' ++ [r1 :: rest]) ++ [[r0]], ys, zs' ++ [v1] ++ [v0], rfl, same_new nSH (same_new nSH sHc), by rw [upd_ne RS, upd_ne RS]; exact e1c, dp_putAll nt4 _ _ (nlG _ okd) (dp_putAll nt3 _ _ (nlG _ okd) d1c), upd_same, ?_, fun s hs => ?_, ?_, rfl⟩
        · rw [List.map_append, List.map_append, List.map_append, List.sum_append, List.sum_append, List.sum_append]
          show _ + (2 * (rest.length + 1) - 1 + 0) + (1 + 0) < _ + (2 * (rest.length + 1 + 1) - 1 + 0)
          omega
        · rw [List.map_append]
          refine dpAll_end (dp_putAll nt4 _ _ (nlD _ okSS) ?_) (dp_put nt4 _ _ (tup_noL okr.1) (dp_put nt3 _ _ (tup_noL okr.1) dv0))
          rw [List.map_append]
          exact dpAll_end (dp_putAll nt3 _ _ (nlD _ okS') d2c) (dp_put nt3 _ _ (tup_noL jt.2) dv1)
        · rcases List.mem_append.mp hs with hs | hs
          · exact (okSS s hs).2
          · rw [List.mem_singleton.mp hs]
            exact List.cons_ne_nil _ _
        · rw [← hrows2]
          simp
    · have c : ¬ ((0 : Int) < zs.length) := fun z => c (decide_eq_true z)
      have e0 : Ss = [] := List.eq_nil_of_length_eq_zero (by omega)
      subst e0
      have : done = rows := by rw [← hrows]; simp
      subst this
      walk_at "go"
      exact q R ys H1 s1 nR e1 d1

theorem ok__law_argument {f : Addr} {fd : FuncData} (F : Fun K "_law_argument" "_law_argument" s__law_argument f fd) (E : Bi K mg) (D__law_draw : Has P w K mg base 1 "_law_draw" ["stream", "many"] (sp__law_draw K)) (D__law_leaf : Has P w K mg base 2 "_law_leaf" ["stream", "widest"] (sp__law_leaf K)) : FnOk P w K mg base CX0 3 f fd ["stream", "widest"] (sp__law_argument K) := by
  obtain ⟨f__law_draw, fd__law_draw, G__law_draw, g__law_draw, kp__law_draw, b__law_draw⟩ := D__law_draw
  obtain ⟨f__law_leaf, fd__law_leaf, G__law_leaf, g__law_leaf, kp__law_leaf, b__law_leaf⟩ := D__law_leaf
  refine F.ok sc__law_argument (fun vs H Q E h => ?_) (fun cdv A outer s H vs Q E' hr h => ?_)
  · obtain ⟨s, l, wd, rfl, _⟩ := h
    rfl
  · obtain ⟨s, l, wd, rfl, hS, hw, hw2, q⟩ := h
    have n9 : (2 : Nat) ^ 8 ≤ 2 ^ 9000 := Nat.pow_le_pow_right (by decide) (by decide)
    refine ⟨_, (pss_cons (ps_set (i := 2) sc__law_argument.nd rfl (Or.inl rfl) (pe_call G__law_draw (hr.mono (by decide)) (by rfl) g__law_draw kp__law_draw b__law_draw .nil pass0 (pa_cons (pv 0) (pa_cons pe_int pa_nil))))
      (pss_cons (ps_if (pt_cmpR op_eq (pv 2) pe_int (nomark _)) (pss_one (ps_ret (pe_op op_catA (pe_tup (pa_cons (pe_tup (pa_cons pe_str (pa_cons pe_str (pa_cons pe_int pa_nil)))) pa_nil)) (pe_call G__law_leaf (hr.mono (by decide)) (by rfl) g__law_leaf kp__law_leaf b__law_leaf .nil pass0 (pa_cons (pv 0) (pa_cons (pv 1) pa_nil)))))) pss_nil)
      (pss_cons (ps_if (pt_cmpR op_eq (pv 2) pe_int (nomark _)) (pss_one (ps_ret (pe_op op_catA (pe_op op_catA (pe_tup (pa_cons (pe_tup (pa_cons pe_str (pa_cons pe_str (pa_cons pe_int pa_nil)))) pa_nil)) (pe_call G__law_leaf (hr.mono (by decide)) (by rfl) g__law_leaf kp__law_leaf b__law_leaf .nil pass0 (pa_cons (pv 0) (pa_cons (pv 1) pa_nil)))) (pe_call G__law_leaf (hr.mono (by decide)) (by rfl) g__law_leaf kp__law_leaf b__law_leaf .nil pass0 (pa_cons (pv 0) (pa_cons (pv 1) pa_nil)))))) pss_nil)
      (pss_one (ps_ret (pe_call G__law_leaf (hr.mono (by decide)) (by rfl) g__law_leaf kp__law_leaf b__law_leaf .nil pass0 (pa_cons (pv 0) (pa_cons (pv 1) pa_nil)))))))), ?_⟩
    refine seq_asg ?_
    refine ⟨_, rfl, s, l, 6, rfl, hS, by decide, Nat.lt_of_lt_of_le (by decide) n9, fun pick H1 _ _ b1 S1 => ?_⟩
    refine gname (seq_ifN ?_)
    refine ⟨_, rfl, rfl, _, rfl, ite2 (fun e => ?_) (fun e => ?_)⟩
    · refine op_of ?_
      refine lit_tup (K := K) (ds := [nodeF "s" 1]) ?_ (by decide) H1 _ fun v0 H2 t0 i0 => ?_
      · unfold nodeF
        walk_at "lits"
      have S2 := S1.keep t0
      have b2 := b1.trans (But.of t0)
      refine ⟨_, rfl, _, rfl, s, l, wd, rfl, S2, hw, hw2, fun v1 d1 H3 n1 a1 b3 S3 i1 => ?_⟩
      have b03 := b2.trans b3
      refine frs_cat b03 S3 (frs_keep hS b3 (frs_of b1 S1 i0)) (frs_of b2 S2 i1) (Nat.le_of_ble_eq_true rfl) fun v4 H4 s4 i4 => ?_
      refine q _ [nodeF "s" 1, d1] _ (fun d hd => ?_) ⟨by decide, by decide, by rw [a1]; rfl⟩ (Nat.le_of_ble_eq_true rfl) (b03.trans (But.of s4)) (S3.keep s4) i4
      rcases List.mem_cons.mp hd with z | z
      · rw [z]; exact ⟨1, .f "s" 1 (by decide +kernel) (by decide) (by decide)⟩
      · rw [List.mem_singleton.mp z]; exact n1
    · refine seq_ifN ?_
      refine ⟨_, rfl, rfl, _, rfl, ite2 (fun e2 => ?_) (fun e2 => ?_)⟩
      · refine op_of ?_
        refine op_of ?_
        refine lit_tup (K := K) (ds := [nodeF "." 2]) ?_ (by decide) H1 _ fun v0 H2 t0 i0 => ?_
        · unfold nodeF
          walk_at "lits"
        have S2 := S1.keep t0
        have b2 := b1.trans (But.of t0)
        refine ⟨_, rfl, _, rfl, s, l, wd, rfl, S2, hw, hw2, fun v1 d1 H3 n1 a1 b3 S3 i1 => ?_⟩
        have b03 := b2.trans b3
        refine frs_cat b03 S3 (frs_keep hS b3 (frs_of b1 S1 i0)) (frs_of b2 S2 i1) (Nat.le_of_ble_eq_true rfl) fun v4 H4 s4 i4 => ?_
        have b04 := b03.trans (But.of s4)
        have S4 := S3.keep s4
        refine ⟨_, rfl, _, rfl, s, l, wd, rfl, S4, hw, hw2, fun v5 d5 H5 n5 a5 b5 S5 i5 => ?_⟩
        have b05 := b04.trans b5
        refine frs_cat b05 S5 (frs_keep hS b5 i4) (frs_of b04 S4 i5) (Nat.le_of_ble_eq_true rfl) fun v6 H6 s6 i6 => ?_
        refine q _ [nodeF "." 2, d1, d5] _ (fun d hd => ?_) ⟨by decide, by decide, by rw [a1]; exact ⟨by decide, by rw [a5]; rfl⟩⟩ (Nat.le_of_ble_eq_true rfl) (b05.trans (But.of s6)) (S5.keep s6) i6
        have hd : d ∈ [nodeF "." 2, d1, d5] := hd
        simp only [List.mem_cons, List.not_mem_nil, or_false] at hd
        rcases hd with z | z | z <;> subst z
        · exact ⟨1, .f "." 2 (by decide +kernel) (by decide) (by decide)⟩
        · exact n1
        · exact n5
      · refine ⟨_, rfl, _, rfl, s, l, wd, rfl, S1, hw, hw2, fun v1 d1 H3 n1 a1 b3 S3 i1 => ?_⟩
        exact q _ [d1] _ (fun d hd => by rw [List.mem_singleton.mp hd]; exact n1) ⟨by decide, by rw [a1]; rfl⟩ (by show 1 ≤ 3; decide) (b1.trans b3) S3 (frs_of b1 S1 i1)

theorem ok__law_known {f : Addr} {fd : FuncData} (F : Fun K "_law_known" "_law_known" s__law_known f fd) (E : Bi K mg) (D__law_draw : Has P w K mg base 1 "_law_draw" ["stream", "many"] (sp__law_draw K)) (D__law_atom : Has P w K mg base 2 "_law_atom" ["stream"] (sp__law_atom K)) (D__law_leaf : Has P w K mg base 2 "_law_leaf" ["stream", "widest"] (sp__law_leaf K)) : FnOk P w K mg base CX0 3 f fd ["stream", "which"] (sp__law_known K) := by
  obtain ⟨f__law_draw, fd__law_draw, G__law_draw, g__law_draw, kp__law_draw, b__law_draw⟩ := D__law_draw
  obtain ⟨f__law_atom, fd__law_atom, G__law_atom, g__law_atom, kp__law_atom, b__law_atom⟩ := D__law_atom
  obtain ⟨f__law_leaf, fd__law_leaf, G__law_leaf, g__law_leaf, kp__law_leaf, b__law_leaf⟩ := D__law_leaf
  refine F.ok sc__law_known (fun vs H Q E h => ?_) (fun cdv A outer s H vs Q E' hr h => ?_)
  · obtain ⟨s, l, i, rfl, _⟩ := h
    rfl
  · obtain ⟨s, l, i, rfl, hS, i0, i4, q⟩ := h
    have n9 : (2 : Nat) ^ 8 ≤ 2 ^ 9000 := Nat.pow_le_pow_right (by decide) (by decide)
    refine ⟨_, (pss_cons (ps_set (i := 2) sc__law_known.nd rfl (Or.inl rfl) (pe_tup (pa_cons (pe_tup (pa_cons pe_str (pa_cons pe_int pa_nil))) pa_nil)))
      (pss_cons (ps_set (i := 3) sc__law_known.nd rfl (Or.inl rfl) (pe_tup (pa_cons (pe_tup (pa_cons pe_str (pa_cons pe_int pa_nil))) pa_nil)))
      (pss_cons (ps_set (i := 4) sc__law_known.nd rfl (Or.inl rfl) (pe_tup (pa_cons (pe_tup (pa_cons pe_str (pa_cons pe_int pa_nil))) pa_nil)))
      (pss_cons (ps_set (i := 5) sc__law_known.nd rfl (Or.inr rfl) (pe_tup (pa_cons (pe_tup (pa_cons pe_str (pa_cons pe_str (pa_cons pe_int pa_nil)))) pa_nil)))
      (pss_cons (ps_set (i := 6) sc__law_known.nd rfl (Or.inl rfl) (pe_tup (pa_cons (pe_tup (pa_cons pe_str (pa_cons pe_str (pa_cons pe_int pa_nil)))) pa_nil)))
      (pss_cons (ps_set (i := 7) sc__law_known.nd rfl (Or.inl rfl) (pe_tup (pa_cons (pe_tup (pa_cons pe_str (pa_cons pe_str (pa_cons pe_int pa_nil)))) pa_nil)))
      (pss_cons (ps_set (i := 8) sc__law_known.nd rfl (Or.inl rfl) (pe_tup (pa_cons (pe_tup (pa_cons pe_str (pa_cons pe_str (pa_cons pe_int pa_nil)))) pa_nil)))
      (pss_cons (ps_if (pt_cmpR op_eq (pv 1) pe_int (nomark _)) (pss_cons (ps_setLc (i := 9) (own := [("k", 10)]) (g := gName 10) (tt := tYes) rfl sc__law_known.nd rfl rfl (by rfl) (pi_range1 (by rfl) E.b_range (pa_cons (pe_op op_add pe_int (pe_call G__law_draw (hr.mono (by decide)) (by rfl) g__law_draw kp__law_draw b__law_draw .nil pass0 (pa_cons (pv 0) (pa_cons pe_int pa_nil)))) pa_nil)) (blkOk_by (N := N__law_known) (sc := defScope s__law_known) (by decide +kernel)) (fun _ _ _ _ _ => pg_name (i := 10) sc__law_known.nd rfl (Or.inl rfl)) (fun _ _ _ _ _ => pts_nil) (fun _ _ _ _ _ => (pe_op (show OpR _ (binaryOp .Add) (rCatA K) from op_catA) (pe_op (show OpR _ (binaryOp .Add) (rCatA K) from op_catA) (pv 5) (pe_call G__law_atom (hr.mono (by decide)) (by rfl) g__law_atom kp__law_atom b__law_atom .nil pass0 (pa_cons (pv 0) pa_nil))) (pe_call G__law_atom (hr.mono (by decide)) (by rfl) g__law_atom kp__law_atom b__law_atom .nil pass0 (pa_cons (pv 0) pa_nil)))))
      (pss_cons (ps_set (i := 11) sc__law_known.nd rfl (Or.inl rfl) (pe_op op_catA (pe_op op_catA (pe_op op_catA (pe_op op_catA (pe_op op_catA (pe_op op_catA (pv 8) (pv 6)) (pv 2)) (pv 3)) (pv 5)) (pv 3)) (pv 4)))
      (pss_cons (ps_if (pt_cmpR op_eq (pe_call G__law_draw (hr.mono (by decide)) (by rfl) g__law_draw kp__law_draw b__law_draw .nil pass0 (pa_cons (pv 0) (pa_cons pe_int pa_nil))) pe_int (nomark _)) (pss_one (ps_set (i := 11) sc__law_known.nd rfl (Or.inl rfl) (pe_op op_catA (pe_op op_catA (pe_op op_catA (pe_op op_catA (pe_op op_catA (pe_op op_catA (pv 8) (pv 5)) (pv 2)) (pv 3)) (pv 6)) (pv 3)) (pv 4)))) pss_nil)
      (pss_one (ps_ret (pe_op op_cat (pv 9) (pe_lst (pa_cons (pe_op op_catA (pe_op op_catA (pe_op op_catA (pe_op op_catA (pe_op op_catA (pe_op op_catA (pv 7) (pv 6)) (pv 2)) (pv 3)) (pv 5)) (pv 2)) (pv 3)) (pa_cons (pe_op op_catA (pe_op op_catA (pe_op op_catA (pe_op op_catA (pv 7) (pv 6)) (pv 2)) (pv 4)) (pv 11)) pa_nil))))))))) pss_nil)
      (pss_cons (ps_if (pt_cmpR op_eq (pv 1) pe_int (nomark _)) (pss_one (ps_ret (pe_lst (pa_cons (pe_op op_catA (pe_tup (pa_cons (pe_tup (pa_cons pe_str (pa_cons pe_str (pa_cons pe_int pa_nil)))) pa_nil)) (pe_call G__law_leaf (hr.mono (by decide)) (by rfl) g__law_leaf kp__law_leaf b__law_leaf .nil pass0 (pa_cons (pv 0) (pa_cons pe_int pa_nil)))) (pa_cons (pe_op op_catA (pe_op op_catA (pe_op op_catA (pe_op op_catA (pv 7) (pe_tup (pa_cons (pe_tup (pa_cons pe_str (pa_cons pe_str (pa_cons pe_int pa_nil)))) (pa_cons (pe_tup (pa_cons pe_str (pa_cons pe_str (pa_cons pe_int pa_nil)))) pa_nil)))) (pv 2)) (pe_tup (pa_cons (pe_tup (pa_cons pe_str (pa_cons pe_str (pa_cons pe_int pa_nil)))) pa_nil))) (pv 2)) pa_nil))))) pss_nil)
      (pss_cons (ps_if (pt_cmpR op_eq (pv 1) pe_int (nomark _)) (pss_cons (ps_set (i := 12) sc__law_known.nd rfl (Or.inl rfl) (pe_op op_catA (pe_op op_catA (pv 6) (pe_tup (pa_cons (pe_tup (pa_cons pe_str (pa_cons pe_str (pa_cons pe_int pa_nil)))) pa_nil))) (pe_call G__law_leaf (hr.mono (by decide)) (by rfl) g__law_leaf kp__law_leaf b__law_leaf .nil pass0 (pa_cons (pv 0) (pa_cons pe_int pa_nil)))))
      (pss_one (ps_ret (pe_lst (pa_cons (pv 12) (pa_cons (pe_op op_catA (pe_op op_catA (pe_op op_catA (pe_op op_catA (pe_op op_catA (pe_op op_catA (pe_op op_catA (pe_op op_catA (pv 7) (pv 6)) (pe_tup (pa_cons (pe_tup (pa_cons pe_str (pa_cons pe_str (pa_cons pe_int pa_nil)))) pa_nil))) (pv 2)) (pv 3)) (pv 4)) (pv 6)) (pv 3)) (pv 4)) pa_nil)))))) pss_nil)
      (pss_cons (ps_set (i := 13) sc__law_known.nd rfl (Or.inl rfl) (pe_op op_catA (pe_op op_catA (pe_op op_catA (pe_op op_catA (pe_op op_catA (pe_op op_catA (pe_op op_catA (pe_op op_catA (pe_op op_catA (pe_op op_catA (pv 7) (pv 6)) (pv 2)) (pv 4)) (pv 8)) (pv 6)) (pv 2)) (pv 3)) (pv 6)) (pv 3)) (pv 4)))
      (pss_one (ps_ret (pe_lst (pa_cons (pe_op op_catA (pe_op op_catA (pv 6) (pe_call G__law_atom (hr.mono (by decide)) (by rfl) g__law_atom kp__law_atom b__law_atom .nil pass0 (pa_cons (pv 0) pa_nil))) (pe_call G__law_atom (hr.mono (by decide)) (by rfl) g__law_atom kp__law_atom b__law_atom .nil pass0 (pa_cons (pv 0) pa_nil))) (pa_cons (pv 13) (pa_cons (pe_op op_catA (pe_op op_catA (pv 6) (pe_call G__law_atom (hr.mono (by decide)) (by rfl) g__law_atom kp__law_atom b__law_atom .nil pass0 (pa_cons (pv 0) pa_nil))) (pe_call G__law_atom (hr.mono (by decide)) (by rfl) g__law_atom kp__law_atom b__law_atom .nil pass0 (pa_cons (pv 0) pa_nil))) pa_nil))))))))))))))))), ?_⟩
    refine st_of (σ := [some _, some _, none, none, none, none, none, none, none, none, none, none, none, none]) rfl ?_
    refine seq_asg ?_
    refine lit_tup (K := K) (ds := [vN 0]) ?_ (by decide) H _ fun x H1 t1 j1 => ?_
    · unfold vN
      walk_at "lits"
    refine gname (seq_asg ?_)
    refine lit_tup (K := K) (ds := [vN 1]) ?_ (by decide) H1 _ fun y H2 t2 j2 => ?_
    · unfold vN
      walk_at "lits"
    refine gname (seq_asg ?_)
    refine lit_tup (K := K) (ds := [vN 2]) ?_ (by decide) H2 _ fun z H3 t3 j3 => ?_
    · unfold vN
      walk_at "lits"
    refine gname (seq_asg ?_)
    refine lit_tup (K := K) (ds := [nodeF "e" 2]) ?_ (by decide) H3 _ fun e H4 t4 j4 => ?_
    · unfold nodeF
      walk_at "lits"
    refine gname (seq_asg ?_)
    refine lit_tup (K := K) (ds := [nodeF "q" 2]) ?_ (by decide) H4 _ fun p H5 t5 j5 => ?_
    · unfold nodeF
      walk_at "lits"
    refine gname (seq_asg ?_)
    refine lit_tup (K := K) (ds := [clN]) ?_ (by decide) H5 _ fun c H6 t6 j6 => ?_
    · unfold clN nodeF
      walk_at "lits"
    refine gname (seq_asg ?_)
    refine lit_tup (K := K) (ds := [commaN]) ?_ (by decide) H6 _ fun b H7 t7 j7 => ?_
    · unfold commaN nodeF
      walk_at "lits"
    have u6 := t7
    have u5 := t6.trans u6
    have u4 := t5.trans u5
    have u3 := t4.trans u4
    have u2 := t3.trans u3
    have u1 := t2.trans u2
    have s7 := t1.trans u1
    have E : EnvK K H7 x y z e p c b := ⟨dp_same u1 _ _ (Im.dp _ _ j1), dp_same u2 _ _ (Im.dp _ _ j2), dp_same u3 _ _ (Im.dp _ _ j3), dp_same u4 _ _ (Im.dp _ _ j4), dp_same u5 _ _ (Im.dp _ _ j5), dp_same u6 _ _ (Im.dp _ _ j6), Im.dp _ _ j7⟩
    have b7 : But s H H7 := But.of s7
    have S7 := hS.keep s7
    clear j1 j2 j3 j4 j5 j6 j7 t1 t2 t3 t4 t5 t6 t7 u1 u2 u3 u4 u5 u6
    refine gname ?_
    simp only [List.set_cons_succ, List.set_cons_zero]
    walk_at "go"
    refine ite2 (fun k0 => ?_) (fun k0 => ?_)
    · walk_at "go"
      refine ⟨s, l, 3, rfl, S7, by decide, Nat.lt_of_lt_of_le (by decide) n9, fun c8 H8 c80 c81 b8 S8 => ?_⟩
      walk_at "go"
      refine ⟨_, rfl, by omega, by omega, fun D nD => ?_⟩
      have b08 := b7.trans b8
      obtain ⟨fD, Ds⟩ := fresh_but b08 S8.some_s nD
      have lD : l ≠ D := fun z => by
        obtain ⟨o, ho⟩ := S8.some_l
        rw [z, nD] at ho
        cases ho
      have sD := same_upd (o := .lst []) nD
      refine lc_it (n := (2 + c8).toNat) walk_range (fun i H' => ∃ (xs : List V) (ps : List (List PyData)), H' D = some (.lst xs) ∧ DpAll K H' xs (ps.map PyData.tuple) ∧ (∀ r ∈ ps, OkR r ∧ isGr r = true) ∧ ps.length = i ∧ But s H H' ∧ Stm H' s l ∧ EnvK K H' x y z e p c b)
        ⟨[], [], upd_same, .nil, (fun r hr => nomatch hr), rfl, b08.trans (But.of sD), S8.keep sD, (E.but S7 b8).same sD⟩ (fun _ _ _ _ => trivial) ?_ ?_
      · rintro i9 z9 H5 H6 hi ⟨xs, ps, e5, d5, ok5, l5, b5, S5, E5⟩ ⟨rfl, rfl⟩
        have lxs := DpAll.len d5
        rw [List.length_map] at lxs
        have ndp : NdT ps := fun r hr => (ok5 r hr).1.1
        walk_at "wp"
        refine gname ⟨rfl, ?_⟩
        dsimp only [tYes]
        rw [if_pos rfl]
        refine atom2_ev eN_nd rfl rfl E5.e S5 fun v y1 y2 H7 hy1 hy2 b7' S7' d7 => ?_
        have e7 := b7' _ _ Ds e5
        have nt : notTup H7 D := .inl ⟨_, e7⟩
        have okn := row2 okP2.1 (lf_abcd hy1) (lf_abcd hy2)
        refine ⟨xs, e7, Nat.lt_of_le_of_lt (show _ ≤ 100000 by omega) (by decide), xs ++ [v], ps ++ [[nodeF "e" 2, nodeF y1 0, nodeF y2 0]], upd_same, ?_, fun r hr => ?_, by rw [List.length_append, l5]; rfl, fun c o hc e => ?_, S7'.put Ds.symm lD, (E5.but S5 b7').put nt⟩
        · rw [List.map_append]
          exact dpAll_end (dp_putAll nt _ _ ndp.noL (dp_butAll S5 b7' ndp d5)) (dp_put nt _ _ (tup_noL okn.1) d7)
        · rcases List.mem_append.mp hr with hr | hr
          · exact ok5 r hr
          · rw [List.mem_singleton.mp hr]
            exact ⟨okn, isG2.1⟩
        · rw [upd_ne (fun z => by rw [z, fD] at e; cases e)]
          exact b7' c o hc (b5 c o hc e)
      · rintro H5 ⟨xs, ps, e5, d5, ok5, l5, b5, S5, E5⟩
        refine gname (nxp (seq_asg ?_))
        refine ev_do (K := K) (ev_cat (ev_cat (ev_cat (ev_cat (ev_cat (ev_cat (ev_var rfl E5.b) (ev_var rfl E5.q) (Nat.le_of_ble_eq_true rfl)) (ev_var rfl E5.x) (Nat.le_of_ble_eq_true rfl)) (ev_var rfl E5.y) (Nat.le_of_ble_eq_true rfl)) (ev_var rfl E5.e) (Nat.le_of_ble_eq_true rfl)) (ev_var rfl E5.y) (Nat.le_of_ble_eq_true rfl)) (ev_var rfl E5.z) (Nat.le_of_ble_eq_true rfl)) (Same.refl _) fun v1 H6 s6 d6 => ?_
        refine gname ?_
        simp only [List.set_cons_succ, List.set_cons_zero]
        have lf0 := lf_v (n := 0) (by decide)
        have lf1 := lf_v (n := 1) (by decide)
        have lf2 := lf_v (n := 2) (by decide)
        have ndp : NdT ps := fun r hr => (ok5 r hr).1.1
        have E6 := E5.same s6
        have S6 := S5.keep s6
        have e6 := s6 _ _ e5
        have d56 := dp_sameAll s6 _ _ d5
        have b06 := b5.trans (But.of s6)
        walk_at "gs"
        refine nx_via (fun σ H' => ∃ (v : V) (r t : List PyData), σ = [some (.ref s), some (.int i), some x, some y, some z, some e, some p, some c, some b, some (.ref D), none, some v, none, none] ∧ OkR r ∧ isGr r = true ∧ OkR t ∧ isGr t = true ∧ But s H6 H' ∧ Stm H' s l ∧ Dp K H' v (.tuple (commaN :: (r ++ t)))) ?_ fun hu => ?_
        · rintro σ H7 ⟨v, r, t, rfl, okr, gr, okt, gt, b67, S67, d67⟩
          have E7 := E6.but S6 b67
          have l1 := okr.2.2.1
          have l2 := okt.2.2.1
          have lrt : (commaN :: (r ++ t)).length ≤ 100 := by rw [List.length_cons, List.length_append]; omega
          refine op_of ?_
          refine ⟨_, rfl, ?_⟩
          refine lst_of (g_cons ?_)
          refine ev_do (K := K) (ev_cat (ev_cat (ev_cat (ev_cat (ev_cat (ev_cat (ev_var rfl E7.c) (ev_var rfl E7.q) (Nat.le_of_ble_eq_true rfl)) (ev_var rfl E7.x) (Nat.le_of_ble_eq_true rfl)) (ev_var rfl E7.y) (Nat.le_of_ble_eq_true rfl)) (ev_var rfl E7.e) (Nat.le_of_ble_eq_true rfl)) (ev_var rfl E7.x) (Nat.le_of_ble_eq_true rfl)) (ev_var rfl E7.y) (Nat.le_of_ble_eq_true rfl)) (Same.refl _) fun w1 H8 s8 d8 => ?_
          have E8 := E7.same s8
          refine g_cons ?_
          refine ev_do (K := K) (ev_cat (ev_cat (ev_cat (ev_cat (ev_var rfl E8.c) (ev_var rfl E8.q) (Nat.le_of_ble_eq_true rfl)) (ev_var rfl E8.x) (Nat.le_of_ble_eq_true rfl)) (ev_var rfl E8.z) (Nat.le_of_ble_eq_true rfl)) (ev_var rfl (dp_same s8 _ _ d67)) (Nat.le_trans (Nat.add_le_add (Nat.le_refl 4) lrt) (by decide))) (Same.refl _) fun w2 H9 s9 d9 => ?_
          walk_at "go"
          refine newN (n := 2) rfl (by decide) fun R2 nR2 => ?_
          have sR2 := same_upd (o := .lst [w1, w2]) nR2
          have b69 : But s H6 H9 := b67.trans (But.of (s8.trans s9))
          have S9 := S67.keep (s8.trans s9)
          have lps := DpAll.len d56
          rw [List.length_map] at lps
          refine ⟨D, R2, xs, [w1, w2], rfl, rfl, sR2 _ _ (b69 _ _ Ds e6), upd_same, Nat.le_trans (show _ ≤ 100000 by show _ + 2 ≤ _; omega) (by decide), fun P nP => ?_⟩
          have sP := same_upd (o := .lst (xs ++ [w1, w2])) nP
          have sRP := sR2.trans sP
          have b6P : But s H6 (upd (upd H9 R2 (.lst [w1, w2])) P (.lst (xs ++ [w1, w2]))) := b69.trans (But.of sRP)
          obtain ⟨f1, f2⟩ := fresh_but (b06.trans (b69.trans (But.of sR2))) (S9.keep sR2).some_s nP
          have C1 := rule1 (row2 okP2.2.1 lf0 lf1) isG2.2.1 (row2 okP2.1 lf0 lf1) isG2.1
          have C2 := rule2 (row2 okP2.2.1 lf0 lf2) isG2.2.1 okr gr okt gt
          refine q P _ (ps ++ [clN :: ([nodeF "q" 2, vN 0, vN 1] ++ [nodeF "e" 2, vN 0, vN 1]), clN :: ([nodeF "q" 2, vN 0, vN 2] ++ (commaN :: (r ++ t)))]) _ (fun p hp => ?_) (by rw [List.length_append]; show 0 < _ + 2; omega) (by rw [List.length_append]; show _ + 2 ≤ 7; omega) f1 f2 upd_same (b06.trans b6P) (S9.keep sRP) ?_
          · rcases List.mem_append.mp hp with hp | hp
            · exact ⟨_, _, fact_cls (ok5 p hp).1 (ok5 p hp).2⟩
            · simp only [List.mem_cons, List.not_mem_nil, or_false] at hp
              rcases hp with z | z <;> subst z
              · exact ⟨_, _, C1⟩
              · exact ⟨_, _, C2⟩
          · rw [List.map_append]
            exact DpAll.app (dp_butAll S6 b6P ndp d56) (.cons (dp_same (s9.trans sRP) _ _ d8) (.cons (dp_same sRP _ _ d9) .nil))
        · walk_at "go"
          refine ⟨s, l, 3, rfl, S6, by decide, Nat.lt_of_lt_of_le (by decide) n9, fun c9 H7 c90 c91 b7' S7' => ?_⟩
          have E7 := E6.but S6 b7'
          walk_at "go"
          refine ite2 (fun k9 => ?_) (fun k9 => ?_)
          · refine asg1 ?_
            refine ev_do (K := K) (ev_cat (ev_cat (ev_cat (ev_cat (ev_cat (ev_cat (ev_var rfl E7.b) (ev_var rfl E7.e) (Nat.le_of_ble_eq_true rfl)) (ev_var rfl E7.x) (Nat.le_of_ble_eq_true rfl)) (ev_var rfl E7.y) (Nat.le_of_ble_eq_true rfl)) (ev_var rfl E7.q) (Nat.le_of_ble_eq_true rfl)) (ev_var rfl E7.y) (Nat.le_of_ble_eq_true rfl)) (ev_var rfl E7.z) (Nat.le_of_ble_eq_true rfl)) (Same.refl _) fun v2 H8 s8 d8 => ?_
            refine gname ?_
            exact hu _ _ ⟨v2, [nodeF "e" 2, vN 0, vN 1], [nodeF "q" 2, vN 1, vN 2], rfl, row2 okP2.1 lf0 lf1, isG2.1, row2 okP2.2.1 lf1 lf2, isG2.2.1, b7'.trans (But.of s8), S7'.keep s8, d8⟩
          · exact hu _ _ ⟨v1, [nodeF "q" 2, vN 0, vN 1], [nodeF "e" 2, vN 1, vN 2], rfl, row2 okP2.2.1 lf0 lf1, isG2.2.1, row2 okP2.1 lf1 lf2, isG2.1, b7', S7', dp_but S6 b7' (rule1 (row2 okP2.2.1 lf0 lf1) isG2.2.1 (row2 okP2.1 lf1 lf2) isG2.1).nd2 d6⟩
    · walk_at "go"
      refine ite2 (fun k1 => ?_) (fun k1 => ?_)
      · refine lst_of (g_cons ?_)
        refine op_of ?_
        refine ev_do (K := K) (ev_lit (ds := [nodeF "p" 1]) (by unfold nodeF; walk_at "lits")) (Same.refl _) fun v1 H1 s1 d1 => ?_
        walk_at "go"
        refine ⟨s, l, 2, rfl, S7.keep s1, by decide, by decide, fun w d H2 nd ad b2 S2 i2 => ?_⟩
        have b12 : But s H7 H2 := (But.of s1).trans b2
        have okp := row1 okP2.2.2 ⟨nd, ad⟩
        refine cat_dpA (dp_but (S7.keep s1) b2 (one_nd ⟨1, .f "p" 1 (by decide +kernel) (by decide) (by decide)⟩) d1) (Im.dp _ _ i2) (Nat.le_of_ble_eq_true rfl) fun v3 H3 s3 d3 => ?_
        have b13 := b12.trans (But.of s3)
        have S3 := S2.keep s3
        have E3 := E.but S7 b13
        refine g_cons ?_
        refine ev_do (K := K) (ev_cat (ev_cat (ev_cat (ev_cat (ev_var rfl E3.c) (ev_lit (ds := [nodeF "p" 1, nodeF "s" 1]) (by unfold nodeF; walk_at "lits")) (Nat.le_of_ble_eq_true rfl)) (ev_var rfl E3.x) (Nat.le_of_ble_eq_true rfl)) (ev_lit (ds := [nodeF "p" 1]) (by unfold nodeF; walk_at "lits")) (Nat.le_of_ble_eq_true rfl)) (ev_var rfl E3.x) (Nat.le_of_ble_eq_true rfl)) (Same.refl _) fun v4 H4 s4 d4 => ?_
        have b14 := b13.trans (But.of s4)
        have S4 := S3.keep s4
        walk_at "go"
        refine newN (n := 2) rfl (by decide) fun R nR => ?_
        have sR := same_upd (o := .lst [v3, v4]) nR
        obtain ⟨f1, f2⟩ := fresh_but (b7.trans b14) S4.some_s nR
        have okh : OkR [nodeF "p" 1, nodeF "s" 1, vN 0] := okr_of okP2.2.2 (fun d hd => by
          simp only [List.mem_cons, List.not_mem_nil, or_false] at hd
          rcases hd with z | z <;> subst z
          · exact sN_nd
          · exact vN_ndI (by decide)) (show Cls 1 [nodeF "s" 1, vN 0] from ⟨by decide, by decide, rfl⟩) (by show 2 ≤ 8; decide)
        have C2 := rule1 okh isG2.2.2 (row1 okP2.2.2 (lf_v (n := 0) (by decide))) isG2.2.2
        refine q R _ [[nodeF "p" 1, d], clN :: ([nodeF "p" 1, nodeF "s" 1, vN 0] ++ [nodeF "p" 1, vN 0])] _ (fun p hp => ?_) (by show 0 < 2; decide) (by show 2 ≤ 7; decide) f1 f2 upd_same ((b7.trans b14).trans (But.of sR)) (S4.keep sR) (.cons (dp_same (s4.trans sR) _ _ d3) (.cons (dp_same sR _ _ d4) .nil))
        simp only [List.mem_cons, List.not_mem_nil, or_false] at hp
        rcases hp with z | z <;> subst z
        · exact ⟨_, _, fact_cls okp isG2.2.2⟩
        · exact ⟨_, _, C2⟩
      · walk_at "go"
        refine ite2 (fun k2 => ?_) (fun k2 => ?_)
        · refine seq_asg (op_of ?_)
          refine ev_do (K := K) (ev_cat (ev_var rfl E.q) (ev_lit (ds := [nodeF "[]" 0]) (by unfold nodeF; walk_at "lits")) (Nat.le_of_ble_eq_true rfl)) (Same.refl _) fun v1 H1 s1 d1 => ?_
          walk_at "gs"
          refine ⟨s, l, 2, rfl, S7.keep s1, by decide, by decide, fun w d H2 nd ad b2 S2 i2 => ?_⟩
          have b12 : But s H7 H2 := (But.of s1).trans b2
          have lfn : Lf (nodeF "[]" 0) := ⟨⟨1, .f "[]" 0 (by decide +kernel) (by decide) (by decide)⟩, rfl⟩
          have okp := row2 okP2.2.1 lfn ⟨nd, ad⟩
          refine cat_dpA (dp_but (S7.keep s1) b2 (fun d hd => by
            rcases List.mem_cons.mp hd with rfl | hd
            · exact qN_nd
            · rw [List.mem_singleton.mp hd]; exact lfn.1) d1) (Im.dp _ _ i2) (Nat.le_of_ble_eq_true rfl) fun v3 H3 s3 d3 => ?_
          have b13 := b12.trans (But.of s3)
          have S3 := S2.keep s3
          have E3 := E.but S7 b13
          refine gname ?_
          refine lst_of (g_cons ?_)
          refine ev_do (K := K) (ev_var rfl d3) (Same.refl _) fun v5 H5 s5 d5 => ?_
          have E5 := E3.same s5
          refine g_cons ?_
          refine ev_do (K := K) (ev_cat (ev_cat (ev_cat (ev_cat (ev_cat (ev_cat (ev_cat (ev_cat (ev_var rfl E5.c) (ev_var rfl E5.q) (Nat.le_of_ble_eq_true rfl)) (ev_lit (ds := [nodeF "." 2]) (by unfold nodeF; walk_at "lits")) (Nat.le_of_ble_eq_true rfl)) (ev_var rfl E5.x) (Nat.le_of_ble_eq_true rfl)) (ev_var rfl E5.y) (Nat.le_of_ble_eq_true rfl)) (ev_var rfl E5.z) (Nat.le_of_ble_eq_true rfl)) (ev_var rfl E5.q) (Nat.le_of_ble_eq_true rfl)) (ev_var rfl E5.y) (Nat.le_of_ble_eq_true rfl)) (ev_var rfl E5.z) (Nat.le_of_ble_eq_true rfl)) (Same.refl _) fun v4 H4 s4 d4 => ?_
          have b14 := b13.trans (But.of (s5.trans s4))
          have S4 := S3.keep (s5.trans s4)
          walk_at "go"
          refine newN (n := 2) rfl (by decide) fun R nR => ?_
          have sR := same_upd (o := .lst [v5, v4]) nR
          obtain ⟨f1, f2⟩ := fresh_but (b7.trans b14) S4.some_s nR
          have okh : OkR [nodeF "q" 2, nodeF "." 2, vN 0, vN 1, vN 2] := okr_of okP2.2.1 (fun d hd => by
            simp only [List.mem_cons, List.not_mem_nil, or_false] at hd
            rcases hd with z | z | z | z <;> subst z
            · exact ⟨1, .f "." 2 (by decide +kernel) (by decide) (by decide)⟩
            · exact vN_ndI (by decide)
            · exact vN_ndI (by decide)
            · exact vN_ndI (by decide)) (show Cls 2 [nodeF "." 2, vN 0, vN 1, vN 2] from ⟨by decide, by decide, by decide, by decide, rfl⟩) (by show 4 ≤ 8; decide)
          have C2 := rule1 okh isG2.2.1 (row2 okP2.2.1 (lf_v (n := 1) (by decide)) (lf_v (n := 2) (by decide))) isG2.2.1
          refine q R _ [[nodeF "q" 2, nodeF "[]" 0, d], clN :: ([nodeF "q" 2, nodeF "." 2, vN 0, vN 1, vN 2] ++ [nodeF "q" 2, vN 1, vN 2])] _ (fun p hp => ?_) (by show 0 < 2; decide) (by show 2 ≤ 7; decide) f1 f2 upd_same ((b7.trans b14).trans (But.of sR)) (S4.keep sR) (.cons (dp_same (s4.trans sR) _ _ d5) (.cons (dp_same sR _ _ d4) .nil))
          simp only [List.mem_cons, List.not_mem_nil, or_false] at hp
          rcases hp with z | z <;> subst z
          · exact ⟨_, _, fact_cls okp isG2.2.1⟩
          · exact ⟨_, _, C2⟩
        · refine nxp ?_
          refine seq_asg ?_
          refine ev_do (K := K) (ev_cat (ev_cat (ev_cat (ev_cat (ev_cat (ev_cat (ev_cat (ev_cat (ev_cat (ev_cat (ev_var rfl E.c) (ev_var rfl E.q) (Nat.le_of_ble_eq_true rfl)) (ev_var rfl E.x) (Nat.le_of_ble_eq_true rfl)) (ev_var rfl E.z) (Nat.le_of_ble_eq_true rfl)) (ev_var rfl E.b) (Nat.le_of_ble_eq_true rfl)) (ev_var rfl E.q) (Nat.le_of_ble_eq_true rfl)) (ev_var rfl E.x) (Nat.le_of_ble_eq_true rfl)) (ev_var rfl E.y) (Nat.le_of_ble_eq_true rfl)) (ev_var rfl E.q) (Nat.le_of_ble_eq_true rfl)) (ev_var rfl E.y) (Nat.le_of_ble_eq_true rfl)) (ev_var rfl E.z) (Nat.le_of_ble_eq_true rfl)) (Same.refl _) fun v1 H1 s1 d1 => ?_
          refine gname ?_
          have E1 := E.same s1
          have S1 := S7.keep s1
          have lf0 := lf_v (n := 0) (by decide)
          have lf1 := lf_v (n := 1) (by decide)
          have lf2 := lf_v (n := 2) (by decide)
          have C2 := rule2 (row2 okP2.2.1 lf0 lf2) isG2.2.1 (row2 okP2.2.1 lf0 lf1) isG2.2.1 (row2 okP2.2.1 lf1 lf2) isG2.2.1
          refine lst_of (g_cons ?_)
          refine atom2_ev qN_nd rfl rfl E1.q S1 fun w1 y1 y2 H2 hy1 hy2 b2 S2 d2 => ?_
          have ok2 := row2 okP2.2.1 (lf_abcd hy1) (lf_abcd hy2)
          refine g_cons ?_
          refine ev_do (K := K) (ev_var rfl (dp_but S1 b2 C2.nd d1)) (Same.refl _) fun v3 H3 s3 d3 => ?_
          refine g_cons ?_
          refine atom2_ev qN_nd rfl rfl ((E1.but S1 b2).same s3).q (S2.keep s3) fun w4 y3 y4 H4 hy3 hy4 b4 S4 d4 => ?_
          have ok4 := row2 okP2.2.1 (lf_abcd hy3) (lf_abcd hy4)
          have b34 := (But.of (s := s) s3).trans b4
          have b14 := ((But.of (s := s) s1).trans b2).trans b34
          walk_at "go"
          refine newN (n := 3) rfl (by decide) fun R nR => ?_
          have sR := same_upd (o := .lst [w1, v3, w4]) nR
          obtain ⟨f1, f2⟩ := fresh_but (b7.trans b14) S4.some_s nR
          refine q R _ [[nodeF "q" 2, nodeF y1 0, nodeF y2 0], clN :: ([nodeF "q" 2, vN 0, vN 2] ++ (commaN :: ([nodeF "q" 2, vN 0, vN 1] ++ [nodeF "q" 2, vN 1, vN 2]))), [nodeF "q" 2, nodeF y3 0, nodeF y4 0]] _ (fun p hp => ?_) (by show 0 < 3; decide) (by show 3 ≤ 7; decide) f1 f2 upd_same ((b7.trans b14).trans (But.of sR)) (S4.keep sR) (.cons (dp_same sR _ _ (dp_but S2 b34 ok2.1 d2)) (.cons (dp_same sR _ _ (dp_but (S2.keep s3) b4 C2.nd d3)) (.cons (dp_same sR _ _ d4) .nil)))
          simp only [List.mem_cons, List.not_mem_nil, or_false] at hp
          rcases hp with z | z | z <;> subst z
          · exact ⟨_, _, fact_cls ok2 isG2.2.1⟩
          · exact ⟨_, _, C2⟩
          · exact ⟨_, _, fact_cls ok4 isG2.2.1⟩

theorem ok_split_clause {f : Addr} {fd : FuncData} (F : Fun K "split_clause" "split_clause" s_split_clause f fd) (E : Bi K mg) (D_end_of : Has P w K mg base 3 "end_of" ["nodes", "start"] (sp_end_of K)) : FnOk P w K mg base CX0 4 f fd ["clause"] (sp_split_clause K) := by
  obtain ⟨f_end_of, fd_end_of, G_end_of, g_end_of, kp_end_of, b_end_of⟩ := D_end_of
  obtain ⟨u_CLAUSE_SYMBOL, v_CLAUSE_SYMBOL, e_CLAUSE_SYMBOL, r_CLAUSE_SYMBOL, d_CLAUSE_SYMBOL⟩ := E.c_CLAUSE_SYMBOL
  obtain ⟨u_TRUE, v_TRUE, e_TRUE, r_TRUE, d_TRUE⟩ := E.c_TRUE
  refine F.ok sc_split_clause (fun vs H Q E h => ?_) (fun cdv A outer s H vs Q E' hr h => ?_)
  · obtain ⟨x, d, r, rfl, _⟩ := h
    rfl
  · obtain ⟨x, d, r, rfl, hx, hn, hc, hl, q⟩ := h
    refine ⟨_, (pss_cons (ps_if (pt_cmpR (op_neD hr.units) (pe_ix ix_tup (pv 0) pe_int (fun _ _ => rfl)) (pe_glob (by rfl) e_CLAUSE_SYMBOL r_CLAUSE_SYMBOL) (nomark _)) (pss_one (ps_ret (pe_tup (pa_cons (pv 0) (pa_cons (pe_glob (by rfl) e_TRUE r_TRUE) pa_nil))))) pss_nil)
      (pss_cons (ps_set (i := 1) sc_split_clause.nd rfl (Or.inl rfl) (pe_call G_end_of (hr.mono (by decide)) (by rfl) g_end_of kp_end_of b_end_of .nil pass0 (pa_cons (pv 0) (pa_cons pe_int pa_nil))))
      (pss_one (ps_ret (pe_tup (pa_cons (pe_slice sl_tupA (pv 0) (po_some pe_int) (po_some (pv 1))) (pa_cons (pe_slice sl_tupA (pv 0) (po_some (pv 1)) po_none) pa_nil))))))), ?_⟩
    cases id hx with
    | @tup a xs _ hs ha =>
    have hxl := DpAll.len ha
    rw [List.length_cons] at hxl
    obtain ⟨v0, hv0, dv0⟩ := DpAll.get (i := 0) ha rfl
    refine seq_ifN ?_
    refine ⟨_, rfl, _, _, _, _, rfl, rfl, hs, atI_nat (j := 0) hv0, d, clN, dv0, dp_same (none_same _) _ _ d_CLAUSE_SYMBOL, nd_shaped (hn d List.mem_cons_self), nd_shaped cl_nd, _, rfl, ?_⟩
    cases e : PyData.eqv d clN with
    | true =>
      have es : splitM (d :: r) = (r.take (tk 1 r), r.drop (tk 1 r)) := by
        show (if PyData.eqv d clN = true then (r.take (tk 1 r), r.drop (tk 1 r)) else (d :: r, [trueN])) = _
        rw [if_pos e]
      rw [es] at q
      have hk := tk_le r 1
      refine iteF (seq_asg ?_)
      refine ⟨_, rfl, .ref a, d :: r, 1, 1, rfl, hx, hn, hc e, ?_⟩
      refine gname ?_
      refine ⟨_, rfl, _, rfl, _, rfl, _, rfl, ?_⟩
      show rSlA K (.ref a) (some ((1 : Nat) : Int)) (some ((1 + tk 1 r : Nat) : Int)) H _
      refine slA_nat hs (by omega) (by omega) fun b1 H1 s1 t1 _ => ?_
      refine ⟨_, rfl, _, rfl, _, rfl, nopart_of ?_⟩
      show rSlA K (.ref a) (some ((1 + tk 1 r : Nat) : Int)) Option.none H1 _
      refine dp_drop (dp_same s1 _ _ hx) (by rw [List.length_cons]; omega) fun v2 H2 s2 d2 => ?_
      refine ⟨(by show 2 ≤ sizeLine; decide), fun p np => ?_⟩
      have s3 := same_upd (o := .tup [.ref b1, v2]) np
      refine q _ _ ((s1.trans s2).trans s3) (.tup (SqT.of upd_same) (.cons (.tup (same_sqT (s2.trans s3) t1) ?_) (.cons ?_ .nil)))
      · have := DpAll.taket (1 + tk 1 r - 1) (DpAll.dropt 1 (dp_sameAll ((s1.trans s2).trans s3) _ _ ha))
        rw [show 1 + tk 1 r - 1 = tk 1 r by omega, List.drop_succ_cons, List.drop_zero] at this
        show DpAll K _ ((xs.drop 1).take (1 + tk 1 r - 1)) _
        rw [show 1 + tk 1 r - 1 = tk 1 r by omega]
        exact this
      · rw [show (d :: r).drop (1 + tk 1 r) = r.drop (tk 1 r) by rw [Nat.add_comm, List.drop_succ_cons]] at d2
        exact dp_same s3 _ _ d2
    | false =>
      have es : splitM (d :: r) = (d :: r, [trueN]) := by
        show (if PyData.eqv d clN = true then (r.take (tk 1 r), r.drop (tk 1 r)) else (d :: r, [trueN])) = _
        rw [if_neg (by rw [e]; exact Bool.false_ne_true)]
      rw [es] at q
      refine iteT ⟨_, rfl, (by show 2 ≤ sizeLine; decide), fun p np => ?_⟩
      have s3 := same_upd (o := .tup [.ref a, v_TRUE]) np
      exact q _ _ s3 (.tup (SqT.of upd_same) (.cons (dp_same s3 _ _ hx) (.cons (dp_same (none_same _) _ _ d_TRUE) .nil)))

theorem ok_goals_of {f : Addr} {fd : FuncData} (F : Fun K "goals_of" "goals_of" s_goals_of f fd) (E : Bi K mg) (D_end_of : Has P w K mg base 3 "end_of" ["nodes", "start"] (sp_end_of K)) (D_check_goal : HasX P w K mg base 2 "check_goal" ["term"] (sp_check_goal K)) : FnOk P w K mg base (L2.CX P w) 4 f fd ["body"] (sp_goals_of K) := by
  obtain ⟨f_end_of, fd_end_of, G_end_of, g_end_of, kp_end_of, b_end_of⟩ := D_end_of
  obtain ⟨f_check_goal, fd_check_goal, G_check_goal, g_check_goal, kp_check_goal, b_check_goal⟩ := D_check_goal
  obtain ⟨u_CONJUNCTION, v_CONJUNCTION, e_CONJUNCTION, r_CONJUNCTION, d_CONJUNCTION⟩ := E.c_CONJUNCTION
  obtain ⟨u_TRUE, v_TRUE, e_TRUE, r_TRUE, d_TRUE⟩ := E.c_TRUE
  refine F.okX sc_goals_of (fun vs H Q E h => ?_) (fun cdv A outer s H vs Q E' hr h => ?_)
  · obtain ⟨x, ds, rows, m, rfl, _⟩ := h
    rfl
  · obtain ⟨x, ds, rows, m, rfl, hx, hn, hf, hm, hl, hrl, q1, q2⟩ := h
    refine ⟨_, (pss_cons (ps_set (i := 1) sc_goals_of.nd rfl (Or.inl rfl) (pe_lst pa_nil))
      (pss_cons (ps_set (i := 2) sc_goals_of.nd rfl (Or.inl rfl) pe_int)
      (pss_cons (ps_while (passes_of rfl) (pt_cmpR op_lt (pv 2) (pe_callB call_len_seq (by rfl) E.b_len PySem.boot_len (pa_cons (pv 0) pa_nil)) (nomark _)) (pss_cons (ps_set (i := 3) sc_goals_of.nd rfl (Or.inl rfl) (pe_op op_add (pv 2) pe_int))
      (pss_cons (ps_if (pt_cmpR (op_neD hr.units) (pe_ix ix_tup (pv 0) (pv 2) (fun _ _ => rfl)) (pe_glob (by rfl) e_CONJUNCTION r_CONJUNCTION) (nomark _)) (pss_cons (ps_set (i := 3) sc_goals_of.nd rfl (Or.inl rfl) (pe_call G_end_of (hr.mono (by decide)) (by rfl) g_end_of kp_end_of b_end_of .nil pass0 (pa_cons (pv 0) (pa_cons (pv 2) pa_nil))))
      (pss_one (ps_if (pt_cmpR (op_neD hr.units) (pe_slice sl_tupA (pv 0) (po_some (pv 2)) (po_some (pv 3))) (pe_glob (by rfl) e_TRUE r_TRUE) (nomark _)) (pss_cons (ps_expr (pe_callS G_check_goal (hr.mono (by decide)) (by rfl) g_check_goal kp_check_goal b_check_goal (fun σ => passAt (takes_of rfl rfl rfl rfl) σ) (pa_cons (pe_slice sl_tupA (pv 0) (po_some (pv 2)) (po_some (pv 3))) pa_nil)))
      (pss_one (ps_expr (pe_bm PySem.F.plainAttrs_list PySem.F.slot_list_append PySem.F.type_list_append mt_append (pv 1) (pa_cons (pe_slice sl_tupA (pv 0) (po_some (pv 2)) (po_some (pv 3))) pa_nil))))) pss_nil))) pss_nil)
      (pss_one (ps_set (i := 2) sc_goals_of.nd rfl (Or.inl rfl) (pv 3))))))
      (pss_one (ps_ret (pv 1)))))), ?_⟩
    cases id hx with
    | @tup a xs _ hs ha =>
    have hxl := DpAll.len ha
    refine seq_asg ?_
    refine ⟨Nat.zero_le _, fun r nr => ?_⟩
    refine gname (seq_asg (gname (seq_any ?_)))
    have s0 : Same H (upd H r (.lst [])) := same_upd nr
    have put : ∀ {H1 : Hp} {o : HO}, Same H H1 → Same H (upd H1 r o) := fun {H1 o} s1 b u e => by rw [upd_ne (ne_of_none e nr)]; exact s1 b u e
    refine ⟨fun k σ H' => ∃ (at' m : Nat) (ve : Option V) (done rest : List (List PyData)) (ys : List V), σ = [some (.ref a), some (.ref r), some (.int (at' : Int)), ve] ∧ at' ≤ ds.length ∧ rows = done ++ rest ∧ Flat rest (ds.drop at') ∧ Cls m (ds.drop at') ∧ (goalsM done).all isGr = true ∧ H' r = some (.lst ys) ∧ DpAll K H' ys ((goalsM done).map PyData.tuple) ∧ (∀ q ∈ goalsM done, ∀ d ∈ q, NdA d) ∧ ys.length ≤ done.length ∧ Same H H' ∧ k = ds.length - at',
      ⟨_, 0, m, _, [], rows, [], rfl, Nat.zero_le _, rfl, hf, hm, rfl, upd_same, .nil, (fun q h => nomatch h), Nat.le_refl _, s0, rfl⟩, ?_⟩
    rintro k σ H1 ⟨at', m, ve, done, rest, ys, rfl, h0, h1, h2, h3, h4, h5, h6, h7, h8, h9, rfl⟩
    have hs1 := same_sqT h9 hs
    refine ⟨_, rfl, _, rfl, _, _, rfl, .inr hs1, _, _, rfl, rfl, _, rfl, ite2 (fun e => ?_) (fun e => ?_)⟩
    · have hlt : at' < ds.length := by
        have := of_decide_eq_true e
        omega
      have hd : ds[at']? = some ds[at'] := List.getElem?_eq_getElem hlt
      have hT : ds.drop at' = ds[at'] :: ds.drop (at' + 1) := List.drop_eq_getElem_cons hlt
      generalize ds[at'] = d0 at hd hT
      obtain ⟨v0, hv0, dv0⟩ := DpAll.get ha hd
      have nd0 := hn d0 (List.mem_of_getElem? hd)
      rw [hT] at h2 h3
      have hlen : done.length ≤ 200 := by
        have : rows.length = done.length + rest.length := by rw [h1, List.length_append]
        omega
      refine ⟨fun σ' H' => ∃ (at2 m : Nat) (ve : Option V) (done rest : List (List PyData)) (ys : List V), σ' = [some (.ref a), some (.ref r), some (.int (at2 : Int)), ve] ∧ at2 ≤ ds.length ∧ rows = done ++ rest ∧ Flat rest (ds.drop at2) ∧ Cls m (ds.drop at2) ∧ (goalsM done).all isGr = true ∧ H' r = some (.lst ys) ∧ DpAll K H' ys ((goalsM done).map PyData.tuple) ∧ (∀ q ∈ goalsM done, ∀ d ∈ q, NdA d) ∧ ys.length ≤ done.length ∧ Same H H' ∧ at' < at2,
        fun σ' H' ⟨at2, m, ve, done, rest, ys, g0, g1, g2, g3, g4, g5, g6, g7, g8, g9, g10, g11⟩ => ⟨ds.length - at2, by omega, at2, m, ve, done, rest, ys, g0, g1, g2, g3, g4, g5, g6, g7, g8, g9, g10, rfl⟩, ?_⟩
      refine seq_asg ?_
      refine ⟨_, rfl, _, _, rfl, rfl, ?_⟩
      refine gname ?_
      refine seq_via (fun σ' H' => ∃ (at2 m : Nat) (done rest : List (List PyData)) (ys : List V), σ' = [some (.ref a), some (.ref r), some (.int (at' : Int)), some (.int (at2 : Int))] ∧ at2 ≤ ds.length ∧ rows = done ++ rest ∧ Flat rest (ds.drop at2) ∧ Cls m (ds.drop at2) ∧ (goalsM done).all isGr = true ∧ H' r = some (.lst ys) ∧ DpAll K H' ys ((goalsM done).map PyData.tuple) ∧ (∀ q ∈ goalsM done, ∀ d ∈ q, NdA d) ∧ ys.length ≤ done.length ∧ Same H H' ∧ at' < at2) ?_ (fun go => ?_)
      · rintro σ' H' ⟨at2, m, done, rest, ys, rfl, g⟩
        refine asg1 ?_
        refine ⟨_, rfl, ?_⟩
        exact gname ⟨at2, m, _, done, rest, ys, rfl, g⟩
      · refine ⟨_, rfl, _, rfl, _, _, _, _, rfl, rfl, hs1, atI_nat (j := at') hv0, d0, commaN, dp_same h9 _ _ dv0, dp_same (none_same _) _ _ d_CONJUNCTION, nd_shaped nd0, nd_shaped comma_nd, _, rfl, ?_⟩
        generalize hU : ds.drop (at' + 1) = U at h2 h3 hT
        generalize hTT : d0 :: U = TT at h2
        cases h2 with
        | nil => cases hTT
        | comma f1 =>
          injection hTT with hd0 hU2
          rw [hd0, show PyData.eqv commaN commaN = true by decide +kernel]
          refine iteF (go _ _ ⟨at' + 1, m - 1 + arN d0, done, rest, ys, by rw [show ((at' + 1 : Nat) : Int) = (at' : Int) + 1 by omega]; rfl, hlt, h1, ?_, ?_, h4, h5, h6, h7, h8, h9, Nat.lt_succ_self _⟩)
          · rw [hU, hU2]; exact f1
          · rw [hU]; exact h3.2
        | @row rr rs U2 okr f1 =>
          obtain ⟨on, oc, ol, oh⟩ := okr
          cases rr with
          | nil => exact absurd oc (by show ¬ (1 = 0); decide)
          | cons d1 r1 =>
            rw [List.cons_append] at hTT
            injection hTT with hd0 hU2
            subst hd0
            rw [(oh d0 rfl).1]
            refine iteT ?_
            have hm0 := h3.1
            have h3' : Cls m (d0 :: r1 ++ U2) := by rw [List.cons_append, ← hU2]; exact h3
            have htk : tk 1 (ds.drop at') = (d0 :: r1).length := by
              rw [hT, hU2, ← List.cons_append]
              exact tk_app _ _ 1 oc
            have hend : at' + (d0 :: r1).length ≤ ds.length := by
              have := tk_le (ds.drop at') 1
              rw [htk, List.length_drop] at this
              omega
            have hcut : (ds.drop at').take (d0 :: r1).length = d0 :: r1 := by
              rw [hT, hU2, ← List.cons_append, List.take_left']
              rfl
            have hrest : ds.drop (at' + (d0 :: r1).length) = U2 := by
              rw [← List.drop_drop, hT, hU2, ← List.cons_append, List.drop_left']
              rfl
            refine seq_asg ?_
            refine ⟨_, rfl, _, rfl, .ref a, ds, at', m - 1, rfl, dp_same h9 _ _ hx, hn, ?_, ?_⟩
            · rw [hT, show m - 1 + 1 = m by omega]; exact h3
            rw [htk]
            refine gname ?_
            have sl : ∀ (H2 : Hp) (Q2 : VK), Same H H2 → (∀ v H3, Same H2 H3 → Dp K H3 v (.tuple (d0 :: r1)) → Q2 v H3) → rSlA K (.ref a) (some (at' : Int)) (some ((at' + (d0 :: r1).length : Nat) : Int)) H2 Q2 := fun H2 Q2 s2 hq => by
              refine slA_nat (same_sqT s2 hs) (by omega) (by omega) fun b1 H3 s3 t3 _ => ?_
              refine hq _ _ s3 (.tup t3 ?_)
              have := DpAll.taket (at' + (d0 :: r1).length - at') (DpAll.dropt at' (dp_sameAll (s2.trans s3) _ _ ha))
              rw [show at' + (d0 :: r1).length - at' = (d0 :: r1).length by omega, hcut] at this
              show DpAll K _ ((xs.drop at').take (at' + (d0 :: r1).length - at')) _
              rw [show at' + (d0 :: r1).length - at' = (d0 :: r1).length by omega]
              exact this
            have hrows : rows = (done ++ [d0 :: r1]) ++ rs := by rw [h1, List.append_assoc]; rfl
            have clsr : Cls (m - 1) (ds.drop (at' + (d0 :: r1).length)) := by
              rw [hrest]
              exact cls_rest _ _ m 1 oc h3' (by omega)
            have gm : goalsM (done ++ [d0 :: r1]) = goalsM done ++ (if isTr (d0 :: r1) = true then [] else [d0 :: r1]) := by
              unfold goalsM
              rw [List.filter_append]
              congr 1
              cases tr : isTr (d0 :: r1) with
              | true => simp [tr]
              | false => simp [tr]
            refine ⟨_, rfl, _, rfl, _, rfl, _, rfl, _, rfl, ?_⟩
            show rSlA K (.ref a) (some (at' : Int)) (some ((at' + (d0 :: r1).length : Nat) : Int)) H1 _
            refine sl _ _ h9 fun v2 H2 s2 d2 => ?_
            have s02 := h9.trans s2
            refine ⟨.tuple (d0 :: r1), .tuple [trueN], d2, dp_same (none_same _) _ _ d_TRUE, tup_shaped on, tup_shaped (ds := [trueN]) (fun d hd => by rw [List.mem_singleton.mp hd]; exact true_nd), _, rfl, ?_⟩
            cases tr : isTr (d0 :: r1) with
            | true =>
              rw [show PyData.eqv (.tuple (d0 :: r1)) (.tuple [trueN]) = true from tr]
              rw [tr, if_pos rfl, List.append_nil] at gm
              refine iteF (go _ _ ⟨at' + (d0 :: r1).length, m - 1, done ++ [d0 :: r1], rs, ys, rfl, hend, hrows, by rw [hrest]; exact f1, clsr, by rw [gm]; exact h4, s2 _ _ h5, by rw [gm]; exact dp_sameAll s2 _ _ h6, by rw [gm]; exact h7, by rw [List.length_append]; omega, s02, by rw [List.length_cons]; omega⟩)
            | false =>
              rw [show PyData.eqv (.tuple (d0 :: r1)) (.tuple [trueN]) = false from tr]
              rw [tr, if_neg Bool.false_ne_true] at gm
              refine iteT (seq_any ?_)
              refine ⟨_, rfl, _, rfl, _, rfl, _, rfl, _, rfl, ?_⟩
              show rSlA K (.ref a) (some (at' : Int)) (some ((at' + (d0 :: r1).length : Nat) : Int)) H2 _
              refine sl _ _ s02 fun v3 H3 s3 d3 => ?_
              have s03 := s02.trans s3
              refine ⟨v3, d0, r1, rfl, d3, on d0 List.mem_cons_self, fun hg H4 s4 => ?_, fun hg H4 s4 => q2 (rowsP (r := d0 :: r1) (by rw [h1]; exact List.mem_append_right _ List.mem_cons_self) tr hg) _ (s03.trans s4)⟩
              have s04 := s03.trans s4
              have s14 := (s2.trans s3).trans s4
              refine nxp ?_
              refine ⟨_, rfl, .inl ⟨rfl, _, SqL.of (s14 _ _ h5)⟩, _, rfl, _, rfl, _, rfl, _, rfl, _, rfl, ?_⟩
              show rSlA K (.ref a) (some (at' : Int)) (some ((at' + (d0 :: r1).length : Nat) : Int)) H4 _
              refine sl _ _ s04 fun v5 H5 s5 d5 => ?_
              have e5 := s5 _ _ (s14 _ _ h5)
              refine ⟨_, _, _, rfl, rfl, e5, small1000 (by omega), ?_⟩
              have nt : notTup H5 r := .inl ⟨_, e5⟩
              have noA : ∀ l : List (List PyData), (∀ q ∈ l, ∀ d ∈ q, NdA d) → noLA (l.map PyData.tuple) = true := fun l => by
                induction l with
                | nil => intro _; simp [noLA]
                | cons q l ih =>
                  intro h
                  rw [List.map_cons, noLA, tup_noL (h q List.mem_cons_self), ih fun x hx => h x (List.mem_cons_of_mem _ hx)]
                  rfl
              refine go _ _ ⟨at' + (d0 :: r1).length, m - 1, done ++ [d0 :: r1], rs, ys ++ [v5], rfl, hend, hrows, by rw [hrest]; exact f1, clsr, ?_, upd_same, ?_, ?_, by rw [List.length_append, List.length_append]; exact Nat.add_le_add_right h8 1, put (s04.trans s5), by rw [List.length_cons]; omega⟩
              · rw [gm, List.all_append, h4, Bool.true_and]
                show (isG d0 && true) = true
                rw [hg]; rfl
              · rw [gm, List.map_append]
                exact DpAll.app (dp_putAll nt _ _ (noA _ h7) (dp_sameAll (s14.trans s5) _ _ h6)) (.cons (dp_put nt _ _ (tup_noL on) d5) .nil)
              · rw [gm]
                intro q hq
                rcases List.mem_append.mp hq with z | z
                · exact h7 q z
                · rw [List.mem_singleton.mp z]; exact on
    · refine nxp ?_
      have hat : at' = ds.length := by
        have : ¬ (at' : Int) < (xs.length : Int) := fun z => e (decide_eq_true z)
        omega
      rw [hat, List.drop_length] at h2
      have hr : rest = [] := flat_nil h2 rfl
      subst hr
      rw [List.append_nil] at h1
      subst h1
      exact ⟨_, rfl, q1 h4 r ys H1 h9 nr h5 h6⟩

theorem ok_renamed {f : Addr} {fd : FuncData} (F : Fun K "renamed" "renamed" s_renamed f fd) (E : Bi K mg) (D_renumber_together : HasD P w K mg base 3 "renumber_together" ["terms", "first"] [V.int 0] (sp_renumber_together K)) : FnOk P w K mg base CX0 4 f fd ["clause", "first"] (sp_renamed K) := by
  obtain ⟨f_renumber_together, fd_renumber_together, G_renumber_together, g_renumber_together, kp_renumber_together, ⟨ds_renumber_together, v_renumber_together, b_renumber_together⟩, ⟨df_renumber_together, vf_renumber_together, bf_renumber_together⟩⟩ := D_renumber_together
  refine F.ok sc_renamed (fun vs H Q E h => ?_) (fun cdv A outer s H vs Q E' hr h => ?_)
  · obtain ⟨c, g, hv, hd, gs, f, rfl, _⟩ := h
    rfl
  · obtain ⟨c, g, hv, hd, gs, f, rfl, sc, dh, ⟨xs, hs, ha⟩, nd, sz, hl, q⟩ := h
    refine ⟨_, (pss_cons (ps_asg (pv 0) (pg_tup rfl (pgs_cons (pg_name (i := 2) sc_renamed.nd rfl (Or.inl rfl)) (pgs_cons (pg_name (i := 3) sc_renamed.nd rfl (Or.inl rfl)) pgs_nil))))
      (pss_cons (ps_set (i := 4) sc_renamed.nd rfl (Or.inl rfl) (pe_call G_renumber_together (hr.mono (by decide)) (by rfl) g_renumber_together kp_renumber_together bf_renumber_together vf_renumber_together pass0 (pa_cons (pe_lst (pa_cons (pv 2) (pa_star (pv 3) pa_nil))) (pa_cons (pv 1) pa_nil))))
      (pss_one (ps_ret (pe_tup (pa_cons (pe_ix ix_list (pv 4) pe_int (fun _ _ => rfl)) (pa_cons (pe_slice sl_list (pv 4) (po_some pe_int) po_none) pa_nil))))))), ?_⟩
    refine st_of (σ := [some _, some _, none, none, none]) rfl ?_
    walk_at "go"
    refine g_gtup (K := K) sc rfl ?_
    walk_at "go"
    refine g_star ?_
    walk_at "go"
    have lx := DpAll.len ha
    rw [List.length_map] at lx
    refine ⟨g, xs, rfl, .inr hs, ?_⟩
    walk_at "go"
    refine newN (n := gs.length + 1) (by rw [List.append_nil, List.length_cons, lx]) (by omega) fun R nR => ?_
    have sR := same_upd (o := .lst (hv :: (xs ++ []))) nR
    walk_at "go"
    refine ⟨R, hd :: gs, f, rfl, ⟨_, SqL.of upd_same, ?_⟩, nd, sz, by rw [List.length_cons]; omega, fun R2 H2 ys s2 nR2 e2 d2 => ?_⟩
    · refine .cons (dp_same sR _ _ dh) ?_
      rw [List.append_nil] at sR ⊢
      exact dp_sameAll sR _ _ ha
    · walk_at "go"
      have e3 : renT f (hd :: gs) = hd.map (mapD (gN f (hd :: gs).flatten)) :: (renT f (hd :: gs)).tail := rfl
      rw [e3, List.map_cons] at d2
      obtain ⟨v0, vr, rfl, dv, dr⟩ : ∃ v0 vr, ys = v0 :: vr ∧ Dp K H2 v0 (.tuple (hd.map (mapD (gN f (hd :: gs).flatten)))) ∧ DpAll K H2 vr ((renT f (hd :: gs)).tail.map PyData.tuple) := by
        cases d2 with
        | cons a b => exact ⟨_, _, rfl, a, b⟩
      refine ixL (j := 0) (SqL.of e2) rfl ?_
      walk_at "go"
      refine ⟨R2, _, rfl, SqL.of e2, fun p np => ?_⟩
      walk_at "go"
      refine newN (n := 2) rfl (by decide) fun p2 np2 => ?_
      have lr := DpAll.len dr
      have sp := same_upd (o := .lst (cutV (v0 :: vr) (some (1 : Int)) Option.none)) np
      have sp2 := same_upd (o := .tup [v0, .ref p]) np2
      have pp2 : p ≠ p2 := fun z => by rw [← z, upd_same] at np2; cases np2
      have s02 := (sR.trans s2).trans (sp.trans sp2)
      refine q _ p v0 _ s02 (none_back (sR.trans s2) np) upd_same (dp_same (sp.trans sp2) _ _ dv) ⟨vr, ?_, dp_sameAll (sp.trans sp2) _ _ dr⟩
      rw [upd_ne pp2, upd_same]
      show some (HO.lst (cutV (v0 :: vr) (some ((1 : Nat) : Int)) Option.none)) = _
      rw [cut_drop (v0 :: vr) 1 (by rw [List.length_cons]; omega)]
      rfl

theorem ok__law_row {f : Addr} {fd : FuncData} (F : Fun K "_law_row" "_law_row" s__law_row f fd) (E : Bi K mg) (D__law_parts : Has P w K mg base 2 "_law_parts" ["term"] (sp__law_parts K)) (D__law_conjuncts : Has P w K mg base 3 "_law_conjuncts" ["body"] (sp__law_conjuncts K)) : FnOk P w K mg base CX0 4 f fd ["clause"] (sp__law_row K) := by
  obtain ⟨f__law_parts, fd__law_parts, G__law_parts, g__law_parts, kp__law_parts, b__law_parts⟩ := D__law_parts
  obtain ⟨f__law_conjuncts, fd__law_conjuncts, G__law_conjuncts, g__law_conjuncts, kp__law_conjuncts, b__law_conjuncts⟩ := D__law_conjuncts
  refine F.ok sc__law_row (fun vs H Q E h => ?_) (fun cdv A outer s H vs Q E' hr h => ?_)
  · obtain ⟨x, ds, hd, rows, rfl, _⟩ := h
    rfl
  · obtain ⟨x, ds, hd, rows, rfl, dx, C, q⟩ := h
    refine ⟨_, (pss_cons (ps_if (pt_cmpR (op_eqD hr.units) (pe_ix ix_tup (pv 0) pe_int (fun _ _ => rfl)) (pe_tup (pa_cons pe_str (pa_cons pe_str (pa_cons pe_int pa_nil)))) (nomark _)) (pss_cons (ps_set (i := 1) sc__law_row.nd rfl (Or.inl rfl) (pe_call G__law_parts (hr.mono (by decide)) (by rfl) g__law_parts kp__law_parts b__law_parts .nil pass0 (pa_cons (pv 0) pa_nil)))
      (pss_one (ps_ret (pe_op op_cat (pe_lst (pa_cons (pe_ix ix_list (pv 1) pe_int (fun _ _ => rfl)) pa_nil)) (pe_call G__law_conjuncts (hr.mono (by decide)) (by rfl) g__law_conjuncts kp__law_conjuncts b__law_conjuncts .nil pass0 (pa_cons (pe_ix ix_list (pv 1) pe_int (fun _ _ => rfl)) pa_nil)))))) pss_nil)
      (pss_one (ps_ret (pe_lst (pa_cons (pv 0) pa_nil))))), ?_⟩
    refine st_of (σ := [some _, none]) rfl ?_
    walk_at "go"
    have hh := C.sh
    obtain ⟨h0, h1, eh, nh, hc, hcl⟩ := C.h.cons
    obtain ⟨ax, xs, rfl, sx, axs⟩ := dp_tup dx
    rcases hh with ⟨rfl, rfl⟩ | rfl
    · subst eh
      obtain ⟨w0, hw0, dw0⟩ := DpAll.get (i := 0) axs rfl
      refine ixT (j := 0) sx hw0 ?_
      walk_at "go"
      refine newN (n := 3) rfl (by decide) fun P nP => ?_
      have sP := same_upd (o := .tup [V.str (Str.ofString "f"), V.str (Str.ofString ":-"), V.int 2]) nP
      refine ⟨h0, clN, dp_same sP _ _ dw0, .tup (SqT.of upd_same) (.cons (.str _) (.cons (.str _) (.cons (.int _) .nil))), nd_shaped nh, nd_shaped cl_nd, _, rfl, ?_⟩
      rw [hcl]
      walk_at "go"
      refine newN (n := 1) rfl (by decide) fun R nR => ?_
      have sR := same_upd (o := .lst [V.ref ax]) nR
      refine q R _ _ (sP.trans sR) (none_back sP nR) upd_same ?_
      rw [goals_true]
      exact .cons (dp_same (sP.trans sR) _ _ dx) .nil
    · obtain ⟨w0, hw0, dw0⟩ := DpAll.get (i := 0) axs rfl
      refine ixT (j := 0) sx hw0 ?_
      walk_at "go"
      refine newN (n := 3) rfl (by decide) fun P nP => ?_
      have sP := same_upd (o := .tup [V.str (Str.ofString "f"), V.str (Str.ofString ":-"), V.int 2]) nP
      refine ⟨clN, clN, dp_same sP _ _ dw0, .tup (SqT.of upd_same) (.cons (.str _) (.cons (.str _) (.cons (.int _) .nil))), nd_shaped cl_nd, nd_shaped cl_nd, _, rfl, ?_⟩
      rw [nd_refl cl_nd]
      refine iteT ?_
      have jt := join_tms C.r C.ne
      have jl := join_len C.r
      have cl := C.len
      have hl9 := C.h.2.2.1
      walk_at "go"
      have fl : hd ++ joinM rows = [hd, joinM rows].flatten := by simp
      rw [fl] at dx
      refine ⟨.ref ax, clN, [hd, joinM rows], rfl, dp_same sP _ _ dx, cl_nd, fun r hr => ?_, by show 2 ≤ 9; decide, by rw [← fl, List.length_append]; omega, fun R1 ys H1 s1 nR1 e1 d1 => ?_⟩
      · rcases List.mem_cons.mp hr with rfl | hr
        · exact ⟨C.h.2.1, C.h.1⟩
        · rw [List.mem_singleton.mp hr]
          exact jt
      walk_at "go"
      obtain ⟨v0, v1, rfl, dv0, dv1⟩ : ∃ v0 v1, ys = [v0, v1] ∧ Dp K H1 v0 (.tuple hd) ∧ Dp K H1 v1 (.tuple (joinM rows)) := by
        cases d1 with
        | cons a b => cases b with
          | cons b c => cases c; exact ⟨_, _, rfl, a, b⟩
      refine ixL (j := 0) (SqL.of e1) rfl ?_
      walk_at "go"
      refine newN (n := 1) rfl (by decide) fun P2 nP2 => ?_
      have sP2 := same_upd (o := .lst [v0]) nP2
      walk_at "go"
      refine ixL (j := 1) (SqL.of (sP2 _ _ e1)) rfl ?_
      walk_at "go"
      refine ⟨v1, rows, rfl, dp_same sP2 _ _ dv1, C.r, C.ne, C.len, fun R3 zs H3 s3 nR3 e3 d3 => ?_⟩
      have lz := DpAll.len d3
      rw [List.length_map] at lz
      have lg : (goalsM rows).length ≤ rows.length := List.length_filter_le _ _
      walk_at "go"
      refine ⟨P2, R3, [v0], zs, rfl, rfl, s3 _ _ upd_same, e3, Nat.le_trans (show _ ≤ 100000 by rw [List.length_singleton]; omega) (by decide), fun P4 nP4 => ?_⟩
      have sP4 := same_upd (o := .lst ([v0] ++ zs)) nP4
      have sA := sP.trans s1
      have sB := (sP2.trans s3).trans sP4
      refine q P4 _ _ (sA.trans sB) (none_back (sA.trans (sP2.trans s3)) nP4) upd_same (.cons (dp_same sB _ _ dv0) (dp_sameAll sP4 _ _ d3))

theorem ok__law_resolve {f : Addr} {fd : FuncData} (F : Fun K "_law_resolve" "_law_resolve" s__law_resolve f fd) (E : Bi K mg) (D__law_numbered : Has P w K mg base 3 "_law_numbered" ["terms", "first"] (sp__law_numbered K)) (D__law_fresh : Has P w K mg base 2 "_law_fresh" ["terms"] (sp__law_fresh K)) (D__law_unify : Has P w K mg base 3 "_law_unify" ["left", "right"] (sp__law_unify K)) (D__law_put : Has P w K mg base 2 "_law_put" ["table", "term"] (sp__law_put K)) : FnOk P w K mg base CX0 4 f fd ["terms", "goal", "row"] (sp__law_resolve K) := by
  obtain ⟨f__law_numbered, fd__law_numbered, G__law_numbered, g__law_numbered, kp__law_numbered, b__law_numbered⟩ := D__law_numbered
  obtain ⟨f__law_fresh, fd__law_fresh, G__law_fresh, g__law_fresh, kp__law_fresh, b__law_fresh⟩ := D__law_fresh
  obtain ⟨f__law_unify, fd__law_unify, G__law_unify, g__law_unify, kp__law_unify, b__law_unify⟩ := D__law_unify
  obtain ⟨f__law_put, fd__law_put, G__law_put, g__law_put, kp__law_put, b__law_put⟩ := D__law_put
  refine F.ok sc__law_resolve (fun vs H Q E h => ?_) (fun cdv A outer s H vs Q E' hr h => ?_)
  · obtain ⟨t, ts, x, g, w, hd, os, h, k, s, rfl, _⟩ := h
    rfl
  · obtain ⟨t, ts, x, g, w, hd, os, h, k, s, rfl, ⟨xs, et, ha⟩, dx, ⟨us, hu, au⟩, I, q⟩ := h
    refine ⟨_, (pss_cons (ps_set (i := 3) sc__law_resolve.nd rfl (Or.inl rfl) (pe_call G__law_numbered (hr.mono (by decide)) (by rfl) g__law_numbered kp__law_numbered b__law_numbered .nil pass0 (pa_cons (pv 2) (pa_cons (pe_call G__law_fresh (hr.mono (by decide)) (by rfl) g__law_fresh kp__law_fresh b__law_fresh .nil pass0 (pa_cons (pe_op op_cat (pv 0) (pe_lst (pa_cons (pv 1) pa_nil))) pa_nil)) pa_nil))))
      (pss_cons (ps_set (i := 4) sc__law_resolve.nd rfl (Or.inr rfl) (pe_call G__law_unify (hr.mono (by decide)) (by rfl) g__law_unify kp__law_unify b__law_unify .nil pass0 (pa_cons (pv 1) (pa_cons (pe_ix ix_list (pv 3) pe_int (fun _ _ => rfl)) pa_nil))))
      (pss_cons (ps_if (pw_or (pt_cmpR op_isN (pv 4) pe_non (nomark _)) (pw_or1 (pt_cmpR (op_eqX (Nat.lt_of_le_of_lt (Nat.le_add_right _ 64) hr.units)) (pv 4) pe_str (nomark _)))).pt (pss_one (ps_ret (pv 4))) pss_nil)
      (pss_cons (ps_setLc (i := 5) (own := [("term", 6)]) (g := gName 6) (tt := tYes) rfl sc__law_resolve.nd rfl rfl (by rfl) (pi_list (pe_op op_cat (pv 0) (pe_slice sl_list (pv 3) (po_some pe_int) po_none))) (blkOk_by (N := N__law_resolve) (sc := defScope s__law_resolve) (by decide +kernel)) (fun _ _ _ _ _ => pg_name (i := 6) sc__law_resolve.nd rfl (Or.inl rfl)) (fun _ _ _ _ _ => pts_nil) (fun _ _ _ _ _ => (pe_call G__law_put (hr.mono (by decide)) (by rfl) g__law_put kp__law_put b__law_put .nil pass0 (pa_cons (pv 4) (pa_cons (pv 6) pa_nil)))))
      (pss_cons (ps_for PassesOwn.never rfl (pi_list (pv 5)) (pg_name (i := 6) sc__law_resolve.nd rfl (Or.inl rfl)) (pss_one (ps_if (pt_cmpR op_gt (pe_callB call_len_seq (by rfl) E.b_len PySem.boot_len (pa_cons (pv 6) pa_nil)) pe_int (nomark _)) (pss_one (ps_ret pe_str)) pss_nil)))
      (pss_one (ps_ret (pe_call G__law_numbered (hr.mono (by decide)) (by rfl) g__law_numbered kp__law_numbered b__law_numbered .nil pass0 (pa_cons (pv 5) (pa_cons pe_int pa_nil)))))))))), ?_⟩
    refine st_of (σ := [some _, some _, some _, none, none, none, none]) rfl ?_
    walk_at "go"
    have lx := DpAll.len ha
    have lu := DpAll.len au
    rw [List.length_map] at lx
    rw [List.length_map, List.length_cons] at lu
    refine newN (n := 1) rfl (by decide) fun G nG => ?_
    walk_at "go"
    have sG := same_upd (o := .lst [x]) nG
    have it := I.lt
    have io := I.lo
    refine ⟨t, G, xs, [x], rfl, rfl, sG _ _ et, upd_same, Nat.le_trans (show _ ≤ 100000 by rw [List.length_singleton]; omega) (by decide), fun P nP => ?_⟩
    have sP := same_upd (o := .lst (xs ++ [x])) nP
    walk_at "go"
    have s01 := sG.trans sP
    have dP : DpAll K (upd (upd H G (.lst [x])) P (.lst (xs ++ [x]))) (xs ++ [x]) ((ts ++ [g]).map PyData.tuple) := by
      rw [List.map_append]
      exact dpAll_end (dp_sameAll s01 _ _ ha) (dp_same s01 _ _ dx)
    refine ⟨P, ts ++ [g], rfl, ⟨_, SqL.of upd_same, dP⟩, I.nd, szT_mul (m := 31) (fun t ht => I.sz t (List.mem_append_left _ ht)) (by rw [List.length_append, List.length_singleton]; omega), by rw [List.length_append, List.length_singleton]; omega, fun H2 s2 => ?_⟩
    walk_at "go"
    have s02 := s01.trans s2
    refine ⟨w, hd :: os, _, rfl, ⟨us, same_sqL s02 hu, dp_sameAll s02 _ _ au⟩, I.ndr, nxt_pos I.nd.flat, szT_mul (m := 201) (fun t ht => I.sz t (List.mem_append_right _ ht)) (by rw [List.length_cons]; omega), by rw [List.length_cons]; omega, fun R3 H3 ys s3 nR3 e3 d3 => ?_⟩
    walk_at "go"
    have s03 := s02.trans s3
    have hh := I.hh
    have SZ := I.sizes
    have qq := q
    unfold lresQ FT at qq
    have tgl : g.length ≤ 200 := I.sz _ (List.mem_append_left _ (List.mem_append_right _ (.head _)))
    generalize hW : renT (nxt (ts ++ [g]).flatten) (hd :: os) = W at d3 hh SZ qq
    have hWl : ∀ t ∈ W, t.length ≤ 200 := fun t ht => by
      rw [← hW] at ht
      obtain ⟨u, hu, rfl⟩ := List.mem_map.mp ht
      rw [List.length_map]
      exact I.sz _ (List.mem_append_right _ hu)
    obtain ⟨W1, rfl⟩ : ∃ W1, W = h :: W1 := by
      cases W with
      | nil => cases hh
      | cons a b => cases hh; exact ⟨_, rfl⟩
    rw [List.map_cons] at d3
    obtain ⟨v0, vr, rfl, dv, dr⟩ : ∃ v0 vr, ys = v0 :: vr ∧ Dp K H3 v0 (.tuple h) ∧ DpAll K H3 vr (W1.map PyData.tuple) := by
      cases d3 with
      | cons a b => exact ⟨_, _, rfl, a, b⟩
    rw [List.tail_cons] at SZ qq
    have lvr := DpAll.len dr
    rw [List.length_map] at lvr
    have hl200 := hWl _ (.head _)
    refine ixL (j := 0) (SqL.of e3) rfl ?_
    walk_at "go"
    refine ⟨x, v0, g, h, k, s, rfl, dp_same s03 _ _ dx, dv, I.tg, I.th, by omega, by omega, I.eg, I.k1, ?_⟩
    cases s with
    | non =>
      intro H4 s4
      walk_at "go"
      refine ⟨rfl, ?_⟩
      walk_at "go"
      refine iteT ?_
      walk_at "go"
      exact qq _ (s03.trans s4)
    | big =>
      intro H4 s4
      walk_at "go"
      refine ⟨rfl, ?_⟩
      walk_at "go"
      refine iteF ?_
      walk_at "go"
      refine .inl ⟨rfl, _, rfl, iteT ?_⟩
      walk_at "go"
      exact qq _ (s03.trans s4)
    | tab T =>
      intro d H4 s4 nd4 f4
      walk_at "go"
      refine ⟨rfl, ?_⟩
      walk_at "go"
      refine iteF ?_
      walk_at "go"
      obtain ⟨kvs, ekv, tkv⟩ := f4.at_
      refine .inr ⟨d, kvs, _, rfl, rfl, ekv, _, rfl, iteF ?_⟩
      walk_at "go"
      have s04 := s03.trans s4
      refine ⟨R3, _, rfl, SqL.of (s4 _ _ e3), fun P5 nP5 => ?_⟩
      walk_at "go"
      have sP5 := same_upd (o := .lst (cutV (v0 :: vr) (some (1 : Int)) Option.none)) nP5
      have e5 : cutV (v0 :: vr) (some (1 : Int)) Option.none = vr := by
        show cutV (v0 :: vr) (some ((1 : Nat) : Int)) Option.none = _
        rw [cut_drop (v0 :: vr) 1 (by rw [List.length_cons]; omega)]
        rfl
      rw [e5] at sP5 ⊢
      have lW1 : W1.length ≤ 300 := by have := SZ.1; rw [List.length_append] at this; omega
      refine ⟨t, P5, xs, vr, rfl, rfl, sP5 _ _ (s04 _ _ et), upd_same, Nat.le_trans (show _ ≤ 100000 by omega) (by decide), fun P6 nP6 => ?_⟩
      have sP6 := same_upd (o := .lst (xs ++ vr)) nP6
      have s46 := sP5.trans sP6
      have s06 := s04.trans s46
      walk_at "go"
      have dall : DpAll K (upd (upd H4 P5 (.lst vr)) P6 (.lst (xs ++ vr))) (xs ++ vr) ((ts ++ W1).map PyData.tuple) := by
        rw [List.map_append]
        exact DpAll.app (dp_sameAll s06 _ _ ha) (dp_sameAll (s4.trans s46) _ _ dr)
      have tab := eg_tab I.eg (sol_zero I.tg I.th) T rfl
      have hB : max 200 (max g.length h.length) = 200 := by omega
      have tsm : ∀ q ∈ T, q.2.length ≤ 200 := by
        have := eg_small I.eg (sol_zero I.tg I.th) (by omega) (by omega) T rfl
        rw [hB] at this
        exact this
      have f6 := f4.same' tab.1.nd s46
      have e6 : (upd (upd H4 P5 (.lst vr)) P6 (.lst (xs ++ vr))) P6 = some (.lst (xs ++ vr)) := upd_same
      obtain ⟨sz1, sz2, sz3⟩ := SZ
      generalize ts ++ W1 = TS at dall sz1 sz2 sz3 qq
      generalize xs ++ vr = ws at dall e6 f6 s06 ⊢
      have lws := DpAll.len dall
      rw [List.length_map] at lws
      generalize (upd (upd H4 P5 (.lst vr)) P6 (.lst ws)) = H6 at dall f6 s06 e6 ⊢
      refine ⟨P6, rfl, ⟨_, SqL.of e6⟩, fun D nD => ?_⟩
      refine lc_it walk_list (fun i H' => Same H6 H' ∧ ∃ ys, H' D = some (.lst ys) ∧ DpAll K H' ys (((TS.map (appM T)).take i).map PyData.tuple)) ⟨same_upd nD, [], upd_same, .nil⟩ (fun i H' _ h => same_sqL h.1 (SqL.of e6)) ?_ ?_
      · rintro i z H8 H9 hi ⟨s8, ys, e8, d8⟩ ⟨rfl, hz⟩
        obtain ⟨dd, hd', dz0⟩ := DpAll.getV dall hz
        rw [List.getElem?_map] at hd'
        obtain ⟨t, ht, rfl⟩ := Option.map_eq_some_iff.mp hd'
        walk_at "wp"
        walk_at "go"
        refine ⟨rfl, ?_⟩
        walk_at "go"
        refine ⟨d, T, z, t, rfl, f6.same' tab.1.nd s8, tab.1.nd, dp_same s8 _ _ dz0, sz3 t (List.mem_of_getElem? ht), Nat.le_trans (app_le (by decide) tsm t) (Nat.le_trans (Nat.mul_le_mul (sz2 t (List.mem_of_getElem? ht)) (Nat.le_refl 200)) (by decide)), fun v H10 s10 d10 => ?_⟩
        have e10 := s10 _ _ e8
        have ly := DpAll.len d8
        rw [List.length_map, List.length_take, List.length_map] at ly
        have nt : notTup H10 D := .inl ⟨_, e10⟩
        have g2 : (TS.map (appM T))[i]? = some (appM T t) := by rw [List.getElem?_map, ht]; rfl
        have ndN : NdT (TS.map (appM T)) := fun u hu => by
          obtain ⟨t, ht, rfl⟩ := List.mem_map.mp hu
          exact appM_nd tab.1.nd (sz3 t ht)
        refine ⟨ys, e10, Nat.lt_of_le_of_lt (show _ ≤ 100000 by omega) (by decide), same_new nD (s8.trans s10), ys ++ [v], upd_same, ?_⟩
        rw [List.take_add_one, g2, List.map_append]
        exact dpAll_end (dp_putAll nt _ _ (NdT.noL fun x hx => ndN x (List.mem_of_mem_take hx)) (dp_sameAll s10 _ _ d8)) (dp_put nt _ _ (tup_noL (ndN _ (List.mem_of_getElem? g2))) d10)
      · rintro H8 ⟨s8, ys, e8, d8⟩
        rw [lws, ← List.length_map (appM T), List.take_length] at d8
        have ndN := (show NdT (TS.map (appM T)) from fun u hu => by
          obtain ⟨t, ht, rfl⟩ := List.mem_map.mp hu
          exact appM_nd tab.1.nd (sz3 t ht))
        have lN : (TS.map (appM T)).length ≤ 300 := by rw [List.length_map]; exact sz1
        obtain ⟨NS, hNS⟩ : ∃ NS, NS = TS.map (appM T) := ⟨_, rfl⟩
        simp only [← hNS] at d8 qq ndN lN
        have s08 := s06.trans s8
        clear dall
        have ly := DpAll.len d8
        rw [List.length_map] at ly
        walk_at "go"
        refine ⟨D, rfl, ⟨_, SqL.of e8⟩, for_list (K := K) (a := D) (xs := ys) (fun i σ H' => ∃ (v6 : Option V), σ = [some (.ref t), some x, some (.ref w), some (.ref R3), some (.ref d), some (.ref D), v6] ∧ H' = H8 ∧ ∀ u ∈ NS.take i, u.length ≤ 200)
          ⟨_, rfl, rfl, fun u hu => nomatch hu⟩ (fun i σ H' _ ⟨_, _, e, _⟩ => by rw [e]; exact SqL.of e8) ?_ ?_⟩
        · rintro i z σ H9 hz ⟨v6, rfl, rfl, small⟩
          obtain ⟨dd, hd', dz0⟩ := DpAll.getV d8 hz
          rw [List.getElem?_map] at hd'
          obtain ⟨u, hu2, rfl⟩ := Option.map_eq_some_iff.mp hd'
          obtain ⟨az, zs, rfl, sz, az2⟩ := dp_tup dz0
          have lz := DpAll.len az2
          walk_at "go"
          refine ⟨az, zs, rfl, .inr sz, ?_⟩
          walk_at "go"
          refine ite2 (fun c => ?_) (fun c => ?_)
          · have c := of_decide_eq_true c
            walk_at "go"
            exact qq.1 ⟨u, List.mem_of_getElem? hu2, by omega⟩ _ s08
          · have c : ¬ ((200 : Int) < zs.length) := fun z => c (decide_eq_true z)
            walk_at "go"
            refine ⟨_, rfl, rfl, fun y hy => ?_⟩
            rw [List.take_add_one, hu2] at hy
            rcases List.mem_append.mp hy with hy | hy
            · exact small y hy
            · rw [show y = u from List.mem_singleton.mp hy]
              omega
        · rintro σ H9 ⟨v6, rfl, rfl, small⟩
          rw [ly, List.take_length] at small
          walk_at "go"
          refine ⟨D, NS, 0, rfl, ⟨ys, SqL.of e8, d8⟩, ndN, Int.le_refl 0, szT_mul (m := 300) small lN, by omega, fun R7 H10 ys2 s10 nR7 e10 d10 => ?_⟩
          walk_at "go"
          exact qq.2 (fun ⟨u, hu, w⟩ => absurd (small u hu) (by omega)) R7 ys2 _ (s08.trans s10) (none_back s08 nR7) e10 d10

theorem ok__law_atom_of {f : Addr} {fd : FuncData} (F : Fun K "_law_atom_of" "_law_atom_of" s__law_atom_of f fd) (E : Bi K mg) (D__law_draw : Has P w K mg base 1 "_law_draw" ["stream", "many"] (sp__law_draw K)) (D__law_argument : Has P w K mg base 3 "_law_argument" ["stream", "widest"] (sp__law_argument K)) (D__law_leaf : Has P w K mg base 2 "_law_leaf" ["stream", "widest"] (sp__law_leaf K)) : FnOk P w K mg base CX0 4 f fd ["stream", "widest"] (sp__law_atom_of K) := by
  obtain ⟨f__law_draw, fd__law_draw, G__law_draw, g__law_draw, kp__law_draw, b__law_draw⟩ := D__law_draw
  obtain ⟨f__law_argument, fd__law_argument, G__law_argument, g__law_argument, kp__law_argument, b__law_argument⟩ := D__law_argument
  obtain ⟨f__law_leaf, fd__law_leaf, G__law_leaf, g__law_leaf, kp__law_leaf, b__law_leaf⟩ := D__law_leaf
  refine F.ok sc__law_atom_of (fun vs H Q E h => ?_) (fun cdv A outer s H vs Q E' hr h => ?_)
  · obtain ⟨s, l, wd, rfl, _⟩ := h
    rfl
  · obtain ⟨s, l, wd, rfl, hS, hw, hw2, q⟩ := h
    have n9 : (2 : Nat) ^ 8 ≤ 2 ^ 9000 := Nat.pow_le_pow_right (by decide) (by decide)
    refine ⟨_, (pss_cons (ps_set (i := 2) sc__law_atom_of.nd rfl (Or.inl rfl) (pe_call G__law_draw (hr.mono (by decide)) (by rfl) g__law_draw kp__law_draw b__law_draw .nil pass0 (pa_cons (pv 0) (pa_cons pe_int pa_nil))))
      (pss_cons (ps_if (pt_cmpR op_lt (pv 2) pe_int (nomark _)) (pss_one (ps_ret (pe_tup (pa_cons (pe_tup (pa_cons pe_str (pa_cons pe_str (pa_cons pe_int pa_nil)))) pa_nil)))) pss_nil)
      (pss_cons (ps_if (pt_cmpR op_lt (pv 2) pe_int (nomark _)) (pss_one (ps_ret (pe_op op_catA (pe_tup (pa_cons (pe_tup (pa_cons pe_str (pa_cons (pe_ix ix_list (pe_lst (pa_cons pe_str (pa_cons pe_str (pa_cons pe_str pa_nil)))) (pe_call G__law_draw (hr.mono (by decide)) (by rfl) g__law_draw kp__law_draw b__law_draw .nil pass0 (pa_cons (pv 0) (pa_cons pe_int pa_nil))) (fun _ _ => rfl)) (pa_cons pe_int pa_nil)))) pa_nil)) (pe_call G__law_argument (hr.mono (by decide)) (by rfl) g__law_argument kp__law_argument b__law_argument .nil pass0 (pa_cons (pv 0) (pa_cons (pv 1) pa_nil)))))) pss_nil)
      (pss_cons (ps_if (pt_cmpR op_eq (pv 2) pe_int (nomark _)) (pss_cons (ps_set (i := 3) sc__law_atom_of.nd rfl (Or.inl rfl) (pe_op op_catA (pe_op op_catA (pe_tup (pa_cons (pe_tup (pa_cons pe_str (pa_cons pe_str (pa_cons pe_int pa_nil)))) pa_nil)) (pe_call G__law_leaf (hr.mono (by decide)) (by rfl) g__law_leaf kp__law_leaf b__law_leaf .nil pass0 (pa_cons (pv 0) (pa_cons (pv 1) pa_nil)))) (pe_call G__law_leaf (hr.mono (by decide)) (by rfl) g__law_leaf kp__law_leaf b__law_leaf .nil pass0 (pa_cons (pv 0) (pa_cons (pv 1) pa_nil)))))
      (pss_one (ps_ret (pe_op op_catA (pe_op op_catA (pv 3) (pe_call G__law_leaf (hr.mono (by decide)) (by rfl) g__law_leaf kp__law_leaf b__law_leaf .nil pass0 (pa_cons (pv 0) (pa_cons (pv 1) pa_nil)))) (pe_call G__law_leaf (hr.mono (by decide)) (by rfl) g__law_leaf kp__law_leaf b__law_leaf .nil pass0 (pa_cons (pv 0) (pa_cons (pv 1) pa_nil))))))) pss_nil)
      (pss_one (ps_ret (pe_op op_catA (pe_op op_catA (pe_tup (pa_cons (pe_tup (pa_cons pe_str (pa_cons pe_str (pa_cons pe_int pa_nil)))) pa_nil)) (pe_call G__law_argument (hr.mono (by decide)) (by rfl) g__law_argument kp__law_argument b__law_argument .nil pass0 (pa_cons (pv 0) (pa_cons (pv 1) pa_nil)))) (pe_call G__law_argument (hr.mono (by decide)) (by rfl) g__law_argument kp__law_argument b__law_argument .nil pass0 (pa_cons (pv 0) (pa_cons (pv 1) pa_nil)))))))))), ?_⟩
    refine seq_asg ?_
    refine ⟨_, rfl, s, l, 12, rfl, hS, by decide, Nat.lt_of_lt_of_le (by decide) n9, fun pick H1 _ _ b1 S1 => ?_⟩
    refine gname (seq_ifN ?_)
    refine ⟨_, rfl, _, _, rfl, rfl, _, rfl, ite2 (fun e => ?_) (fun e => ?_)⟩
    · refine lit_tup (K := K) (ds := [nodeF "r" 0]) ?_ (by decide) H1 _ fun v0 H2 t0 i0 => ?_
      · unfold nodeF
        walk_at "lits"
      exact q _ _ _ (okr_of (x := "r") (n := 0) (ds := []) (by decide +kernel) (fun d hd => nomatch hd) rfl (by decide)) (show isG (nodeF "r" 0) = true by decide +kernel) (b1.trans (But.of t0)) (S1.keep t0) (frs_of b1 S1 i0)
    · refine seq_ifN ?_
      refine ⟨_, rfl, _, _, rfl, rfl, _, rfl, ite2 (fun e2 => ?_) (fun e2 => ?_)⟩
      · refine op_of (tup_of (args1 (tup_of (args1 (const_of (args1 (op_of ?_)))))))
        refine lit_lst (K := K) (ds := ppp.map PyData.str) ?_ (by decide) H1 _ fun v0 H0 t0 i0 => ?_
        · unfold ppp
          simp only [List.map_cons, List.map_nil]
          walk_at "lits"
        cases i0 with
        | @lst p0 xs0 _ g0 e0 a0 =>
        obtain ⟨os1, hos1⟩ := S1.at_s
        have np0 : p0 ≠ s := fun z => by
          rw [z, hos1] at g0
          cases g0
        refine ⟨_, rfl, s, l, 3, rfl, S1.keep t0, by decide, Nat.lt_of_lt_of_le (by decide) n9, fun r H2 r0 r1 b2 S2 => ?_⟩
        obtain ⟨y, hy, hat⟩ := lit_pick a0 r0 r1
        refine ⟨_, _, _, _, rfl, rfl, SqL.of (b2 _ _ np0 e0), hat, ?_⟩
        refine ⟨(by show 3 ≤ sizeLine; decide), fun p np => ⟨(by show 1 ≤ sizeLine; decide), fun p2 np2 => ?_⟩⟩
        have sp := same_upd (o := .tup [.str "f", .str y, .int 1]) np
        have sp2 := same_upd (o := .tup [.ref p]) np2
        have bb := (b1.trans (But.of t0)).trans b2
        have bb3 := bb.trans (But.of (sp.trans sp2))
        have S3 := S2.keep (sp.trans sp2)
        have i3 : Im K (fun b => H b = Option.none) (upd (upd H2 p (.tup [.str "f", .str y, .int 1])) p2 (.tup [.ref p])) (.ref p2) (.tuple [nodeF y 1]) := .tup (fr_of (bb.trans (But.of sp)) (S2.keep sp) _ np2) upd_same (.cons (.tup (fr_of bb S2 _ np) (sp2 _ _ upd_same) (.cons (.str _) (.cons (.str _) (.cons (.int _) .nil)))) .nil)
        refine ⟨_, rfl, _, rfl, s, l, wd, rfl, S3, hw, hw2, fun v4 ds4 H4 n4 c4 l4 b4 S4 i4 => ?_⟩
        have b04 := bb3.trans b4
        refine frs_cat b04 S4 (frs_keep hS b4 i3) (frs_of bb3 S3 i4) (by rw [List.length_singleton]; omega) fun v5 H5 s5 i5 => ?_
        have hyo : okP (y, 1) = true := List.all_eq_true.mp (show ppp.all (fun y => okP (y, 1)) = true by decide +kernel) y hy
        exact q _ _ _ (okr_of hyo n4 c4 (by omega)) (show isG (nodeF y 1) = true from List.all_eq_true.mp (show ppp.all (fun y => isG (nodeF y 1)) = true by decide +kernel) y hy) (b04.trans (But.of s5)) (S4.keep s5) i5
      · refine seq_ifN ?_
        refine ⟨_, rfl, rfl, _, rfl, ite2 (fun e3 => ?_) (fun e3 => ?_)⟩
        · refine seq_asg ?_
          refine op_of ?_
          refine op_of ?_
          refine lit_tup (K := K) (ds := [nodeF "q_p" 4]) ?_ (by decide) H1 _ fun v0 H2 t0 i0 => ?_
          · unfold nodeF
            walk_at "lits"
          have S2 := S1.keep t0
          have b2 := b1.trans (But.of t0)
          refine ⟨_, rfl, _, rfl, s, l, wd, rfl, S2, hw, hw2, fun v1 d1 H3 n1 a1 b3 S3 i1 => ?_⟩
          have b03 := b2.trans b3
          refine frs_cat b03 S3 (frs_keep hS b3 (frs_of b1 S1 i0)) (frs_of b2 S2 i1) (Nat.le_of_ble_eq_true rfl) fun v4 H4 s4 i4 => ?_
          have b04 := b03.trans (But.of s4)
          have S4 := S3.keep s4
          refine ⟨_, rfl, _, rfl, s, l, wd, rfl, S4, hw, hw2, fun v5 d5 H5 n5 a5 b5 S5 i5 => ?_⟩
          have b05 := b04.trans b5
          refine frs_cat b05 S5 (frs_keep hS b5 i4) (frs_of b04 S4 i5) (Nat.le_of_ble_eq_true rfl) fun v6 H6 s6 i6 => ?_
          have b06 := b05.trans (But.of s6)
          have S6 := S5.keep s6
          refine gname ?_
          refine ⟨_, rfl, _, rfl, _, rfl, s, l, wd, rfl, S6, hw, hw2, fun v7 d7 H7 n7 a7 b7 S7 i7 => ?_⟩
          have b07 := b06.trans b7
          refine frs_cat b07 S7 (frs_keep hS b7 i6) (frs_of b06 S6 i7) (Nat.le_of_ble_eq_true rfl) fun v8 H8 s8 i8 => ?_
          have b08 := b07.trans (But.of s8)
          have S8 := S7.keep s8
          refine ⟨_, rfl, _, rfl, s, l, wd, rfl, S8, hw, hw2, fun v9 d9 H9 n9' a9 b9 S9 i9 => ?_⟩
          have b09 := b08.trans b9
          refine frs_cat b09 S9 (frs_keep hS b9 i8) (frs_of b08 S8 i9) (Nat.le_of_ble_eq_true rfl) fun v10 H10 s10 i10 => ?_
          refine q _ _ _ (okr_of (x := "q_p") (n := 4) (ds := [d1, d5, d7, d9]) (by decide +kernel) (fun d hd => ?_) ⟨by decide, by rw [a1]; exact ⟨by decide, by rw [a5]; exact ⟨by decide, by rw [a7]; exact ⟨by decide, by rw [a9]; rfl⟩⟩⟩⟩ (Nat.le_of_ble_eq_true rfl)) (show isG (nodeF "q_p" 4) = true by decide +kernel) (b09.trans (But.of s10)) (S9.keep s10) i10
          simp only [List.mem_cons, List.not_mem_nil, or_false] at hd
          rcases hd with z | z | z | z <;> subst z <;> assumption
        · refine op_of ?_
          refine op_of ?_
          refine lit_tup (K := K) (ds := [nodeF "q" 2]) ?_ (by decide) H1 _ fun v0 H2 t0 i0 => ?_
          · unfold nodeF
            walk_at "lits"
          have S2 := S1.keep t0
          have b2 := b1.trans (But.of t0)
          refine ⟨_, rfl, _, rfl, s, l, wd, rfl, S2, hw, hw2, fun v1 d1 H3 n1 c1 l1 b3 S3 i1 => ?_⟩
          have b03 := b2.trans b3
          refine frs_cat b03 S3 (frs_keep hS b3 (frs_of b1 S1 i0)) (frs_of b2 S2 i1) (by rw [List.length_singleton]; omega) fun v4 H4 s4 i4 => ?_
          have b04 := b03.trans (But.of s4)
          have S4 := S3.keep s4
          refine ⟨_, rfl, _, rfl, s, l, wd, rfl, S4, hw, hw2, fun v5 d5 H5 n5 c5 l5 b5 S5 i5 => ?_⟩
          have b05 := b04.trans b5
          refine frs_cat b05 S5 (frs_keep hS b5 i4) (frs_of b04 S4 i5) (by rw [List.length_append, List.length_singleton]; omega) fun v6 H6 s6 i6 => ?_
          refine q _ (nodeF "q" 2 :: (d1 ++ d5)) _ (okr_of (by decide +kernel) (fun d hd => ?_) (cls_app _ _ 1 1 c1 c5) (by rw [List.length_append]; omega)) (show isG (nodeF "q" 2) = true by decide +kernel) (b05.trans (But.of s6)) (S5.keep s6) i6
          rcases List.mem_append.mp hd with z | z
          · exact n1 d z
          · exact n5 d z

theorem ok_unify_within {f : Addr} {fd : FuncData} (F : Fun K "unify_within" "unify_within" s_unify_within f fd) (E : Bi K mg) (D_Side___init__ : HasI P w K mg base 3 "Side" ["self", "term"] (sp_Side___init__ K)) (D_Side_take : HasM P w K mg base 2 "Side" "take" ["self", "found"] (sp_Side_take K)) (D_is_variable : Has P w K mg base 1 "is_variable" ["node"] (sp_is_variable K)) (D_Side_take_rest : HasM P w K mg base 3 "Side" "take_rest" ["self", "node", "found"] (sp_Side_take_rest K)) (D_Side_bind : HasM P w K mg base 3 "Side" "bind" ["self", "number", "value"] (sp_Side_bind K)) (D_settle : Has P w K mg base 3 "settle" ["found"] (sp_settle K)) : FnOk P w K mg base (L2.CX P w) 5 f fd ["left", "right", "most"] (sp_unify_within K) := by
  obtain ⟨f_Side___init__, fd_Side___init__, G_Side___init__, M_Side___init__, g_Side___init__, b_Side___init__⟩ := D_Side___init__
  obtain ⟨f_Side_take, fd_Side_take, G_Side_take, M_Side_take, b_Side_take⟩ := D_Side_take
  obtain ⟨f_is_variable, fd_is_variable, G_is_variable, g_is_variable, kp_is_variable, b_is_variable⟩ := D_is_variable
  obtain ⟨f_Side_take_rest, fd_Side_take_rest, G_Side_take_rest, M_Side_take_rest, b_Side_take_rest⟩ := D_Side_take_rest
  obtain ⟨f_Side_bind, fd_Side_bind, G_Side_bind, M_Side_bind, b_Side_bind⟩ := D_Side_bind
  obtain ⟨f_settle, fd_settle, G_settle, g_settle, kp_settle, b_settle⟩ := D_settle
  refine F.okX sc_unify_within (fun vs H Q E h => ?_) (fun cdv A outer s H vs Q E' hr h => ?_)
  · obtain ⟨x, y, L, R, m, k, s, rfl, _⟩ := h
    rfl
  · obtain ⟨x, y, L, R, m, k, s, rfl, dx, dy, tl, tr, l1, l2, m0, m1, eg, k1, q⟩ := h
    refine ⟨_, (pss_cons (ps_set (i := 3) sc_unify_within.nd rfl (Or.inl rfl) (pe_callB (call_max3Nu rfl) (by rfl) E.b_max (by decide +kernel) (pa_cons (pv 2) (pa_cons (pe_callB call_len_seq (by rfl) E.b_len PySem.boot_len (pa_cons (pv 0) pa_nil)) (pa_cons (pe_callB call_len_seq (by rfl) E.b_len PySem.boot_len (pa_cons (pv 1) pa_nil)) pa_nil)))))
      (pss_cons (ps_par (i := 4) (j := 5) rfl sc_unify_within.nd rfl rfl (by decide) rfl rfl (pa_cons (pe_make M_Side___init__ G_Side___init__ (hr.mono (by decide)) (by rfl) g_Side___init__ b_Side___init__ .nil pass0 (pa_cons (pv 0) pa_nil)) (pa_cons (pe_make M_Side___init__ G_Side___init__ (hr.mono (by decide)) (by rfl) g_Side___init__ b_Side___init__ .nil pass0 (pa_cons (pv 1) pa_nil)) pa_nil)) (by rfl))
      (pss_cons (ps_set (i := 6) sc_unify_within.nd rfl (Or.inl rfl) pe_dnewK)
      (pss_cons (ps_while (passes_of rfl) (pt_cmpR op_gt (pe_callB call_len_seq (by rfl) E.b_len PySem.boot_len (pa_cons (pe_fld (pv 4) rfl) pa_nil)) pe_int (nomark _)) (pss_cons (ps_par (i := 7) (j := 8) rfl sc_unify_within.nd rfl rfl (by decide) rfl rfl (pa_cons (pe_meth (pv 4) E.cl_Side M_Side_take G_Side_take (hr.mono (by decide)) b_Side_take .nil pass0 (pa_cons (pv 6) pa_nil)) (pa_cons (pe_meth (pv 5) E.cl_Side M_Side_take G_Side_take (hr.mono (by decide)) b_Side_take .nil pass0 (pa_cons (pv 6) pa_nil)) pa_nil)) (by rfl))
      (pss_cons (ps_if (pt_cmpR (op_eqD hr.units) (pv 7) (pv 8) (nomark _)) (pss_one ps_continue) pss_nil)
      (pss_cons (ps_if (pw_and (pt_val (pe_call G_is_variable (hr.mono (by decide)) (by rfl) g_is_variable kp_is_variable b_is_variable .nil pass0 (pa_cons (pv 7) pa_nil))) (pw_and1 (pt_not (pw_and (pt_val (pe_call G_is_variable (hr.mono (by decide)) (by rfl) g_is_variable kp_is_variable b_is_variable .nil pass0 (pa_cons (pv 8) pa_nil))) (pw_and1 (pt_cmpR op_gt (pe_ix ix_tup (pv 8) pe_int (fun _ _ => rfl)) (pe_ix ix_tup (pv 7) pe_int (fun _ _ => rfl)) (nomark _)))).pt))).pt (pss_one (ps_par (i := 9) (j := 10) rfl sc_unify_within.nd rfl rfl (by decide) rfl rfl (pa_cons (pe_ix ix_tup (pv 7) pe_int (fun _ _ => rfl)) (pa_cons (pe_meth (pv 5) E.cl_Side M_Side_take_rest G_Side_take_rest (hr.mono (by decide)) b_Side_take_rest .nil pass0 (pa_cons (pv 8) (pa_cons (pv 6) pa_nil))) pa_nil)) (by rfl))) (pss_one (ps_if (pt_val (pe_call G_is_variable (hr.mono (by decide)) (by rfl) g_is_variable kp_is_variable b_is_variable .nil pass0 (pa_cons (pv 8) pa_nil))) (pss_one (ps_par (i := 9) (j := 10) rfl sc_unify_within.nd rfl rfl (by decide) rfl rfl (pa_cons (pe_ix ix_tup (pv 8) pe_int (fun _ _ => rfl)) (pa_cons (pe_meth (pv 4) E.cl_Side M_Side_take_rest G_Side_take_rest (hr.mono (by decide)) b_Side_take_rest .nil pass0 (pa_cons (pv 7) (pa_cons (pv 6) pa_nil))) pa_nil)) (by rfl))) (pss_one (ps_ret pe_non)))))
      (pss_cons (ps_if (pt_cmpR (op_inT (units65 hr)) (pe_tup (pa_cons pe_str (pa_cons (pv 9) pa_nil))) (pv 10) (by rfl)) (pss_one (ps_ret pe_non)) pss_nil)
      (pss_cons (ps_dput (hu_of hr) (pv 6) (pv 9) (pv 10) (by rfl))
      (pss_cons (ps_expr (pe_meth (pv 4) E.cl_Side M_Side_bind G_Side_bind (hr.mono (by decide)) b_Side_bind .nil pass0 (pa_cons (pv 9) (pa_cons (pv 10) pa_nil))))
      (pss_cons (ps_expr (pe_meth (pv 5) E.cl_Side M_Side_bind G_Side_bind (hr.mono (by decide)) b_Side_bind .nil pass0 (pa_cons (pv 9) (pa_cons (pv 10) pa_nil))))
      (pss_one (ps_if (pt_cmpR op_gt (pe_callB (call_max2 rfl) (by rfl) E.b_max (by decide +kernel) (pa_cons (pe_fld (pv 4) rfl) (pa_cons (pe_fld (pv 5) rfl) pa_nil))) (pv 3) (nomark _)) (pss_one (ps_raise rfl (takes_of rfl rfl rfl rfl) (pmk_own PySem.F.excBase_ValueError E.x_TooLarge.xC E.x_TooLarge.gC E.x_TooLarge.kC (raises_own E.x_TooLarge.bC E.x_TooLarge.tC) rfl))) pss_nil))))))))))
      (pss_one (ps_ret (pe_call G_settle (hr.mono (by decide)) (by rfl) g_settle kp_settle b_settle .nil pass0 (pa_cons (pv 6) pa_nil)))))))), ?_⟩
    refine st_of (σ := [some _, some _, some _, none, none, none, none, none, none, none, none]) rfl ?_
    walk_at "go"
    obtain ⟨ax, xs, rfl, sx, axs⟩ := dp_tup dx
    obtain ⟨ay, ys, rfl, sy, ays⟩ := dp_tup dy
    have lx := DpAll.len axs
    have ly := DpAll.len ays
    refine ⟨_, _, rfl, .inr sx, ?_⟩
    walk_at "go"
    refine ⟨_, _, rfl, .inr sy, ?_⟩
    walk_at "go"
    refine ⟨_, _, _, _, rfl, max3_int _ _ _, ?_⟩
    walk_at "go"
    have eB : max (max m (xs.length : Int)) (ys.length : Int) = ((max m.toNat (max L.length R.length) : Nat) : Int) := by omega
    rw [eB]
    have Bl : max m.toNat (max L.length R.length) ≤ 1000 := by omega
    have Bx : L.length ≤ max m.toNat (max L.length R.length) := by omega
    have By : R.length ≤ max m.toNat (max L.length R.length) := by omega
    generalize max m.toNat (max L.length R.length) = B at eg Bl eB Bx By
    intro o1 dx1 no1 nd1 d1o
    have sA : Same H (upd (upd H dx1 (.own o1)) o1 (.ins (clsA K "Side") dx1 [])) := (same_upd nd1).trans (same_upd (by rw [upd_ne d1o.symm]; exact no1))
    have hA : (upd (upd H dx1 (.own o1)) o1 (.ins (clsA K "Side") dx1 [])) o1 = some (.ins (clsA K "Side") dx1 []) := upd_same
    generalize (upd (upd H dx1 (.own o1)) o1 (.ins (clsA K "Side") dx1 [])) = HA at sA hA
    refine ⟨o1, dx1, .ref ax, L, rfl, hA, dp_same sA _ _ dx, tl.2, by omega, fun r1 c1 HB nr1 nc1 sd1 st1 ct1 ro1 co1 rc1 b1 => ⟨rfl, ?_⟩⟩
    have sB : Same H HB := fun b o e => b1 b o (ne_of_none e no1) (sA b o e)
    walk_at "go"
    intro o2 dx2 no2 nd2 d2o
    have sC : Same HB (upd (upd HB dx2 (.own o2)) o2 (.ins (clsA K "Side") dx2 [])) := (same_upd nd2).trans (same_upd (by rw [upd_ne d2o.symm]; exact no2))
    have hC : (upd (upd HB dx2 (.own o2)) o2 (.ins (clsA K "Side") dx2 [])) o2 = some (.ins (clsA K "Side") dx2 []) := upd_same
    generalize (upd (upd HB dx2 (.own o2)) o2 (.ins (clsA K "Side") dx2 [])) = HC at sC hC
    refine ⟨o2, dx2, .ref ay, R, rfl, hC, dp_same (sB.trans sC) _ _ dy, tr.2, by omega, fun r2 c2 HD nr2 nc2 sd2 st2 ct2 ro2 co2 rc2 b2 => ⟨rfl, ?_⟩⟩
    walk_at "go"
    intro z nz
    walk_at "go"
    have sD : Same H HD := fun b o e => b2 b o (ne_of_none (sB b o e) no2) (sC _ _ (sB b o e))
    have sE := same_upd (o := .dK []) nz
    have keep : ∀ x o, HB x = some o → HD x = some o := fun x o e => b2 x o (ne_of_none e no2) (sC _ _ e)
    have u0 : UH K (upd HD z (.dK [])) o1 r1 c1 o2 r2 c2 z (L.length : Int) (R.length : Int) L R (fun n => cntN n L) (fun n => cntN n R) L.length R.length [] := by
      obtain ⟨i1, e1⟩ := sd1.ob
      obtain ⟨i2, e2⟩ := sd2.ob
      obtain ⟨x1, g1, m1⟩ := st1.at_
      obtain ⟨x2, g2, m2⟩ := st2.at_
      obtain ⟨y1, k1, w1⟩ := ct1.at_
      obtain ⟨y2, k2, w2⟩ := ct2.at_
      have sBD : Same HB HD := keep
      exact ⟨⟨i1, sE _ _ (keep _ _ e1)⟩, ⟨i2, sE _ _ e2⟩, ⟨⟨x1, sE _ _ (keep _ _ g1), dp_sameAll (sBD.trans sE) _ _ m1⟩, st1.nd⟩, ⟨⟨x2, sE _ _ g2, dp_sameAll sE _ _ m2⟩, st2.nd⟩, ⟨y1, sE _ _ (keep _ _ k1), w1⟩, ⟨y2, sE _ _ k2, w2⟩, ⟨[], upd_same, True.intro⟩, (fun _ w => (nomatch w)), ne_of_none e1 no2, (fun w => by rw [← w, sC _ _ g1] at nr2; cases nr2), (fun w => by rw [← w, sC _ _ k1] at nc2; cases nc2), (ne_of_none (keep _ _ k1) nz).symm, (ne_of_none k2 nz).symm⟩
    have sF := sD.trans sE
    have fz : H z = Option.none := none_back sD nz
    have fr1 : H r1 = Option.none := none_back sA nr1
    have fc1 : H c1 = Option.none := none_back sA nc1
    have fr2 : H r2 = Option.none := none_back (sB.trans sC) nr2
    have fc2 : H c2 = Option.none := none_back (sB.trans sC) nc2
    have fo2 : H o2 = Option.none := none_back sB no2
    generalize upd HD z (.dK []) = HE at u0 sF
    refine while_m (fun j σ H' => ∃ (k : Nat) (L' R' : List PyData) (T F : Tab) (p ds1 ds2 : List PyData) (M1 M2 : Nat) (v7 v8 v9 v10 : Option V),
        σ = [some (.ref ax), some (.ref ay), some (.int m), some (.int (B : Nat)), some (.ref o1), some (.ref o2), some (.ref z), v7, v8, v9, v10] ∧ Same H H' ∧
        UH K H' o1 r1 c1 o2 r2 c2 z (L'.length : Int) (R'.length : Int) ds1 ds2 (fun n => cntN n L') (fun n => cntN n R') M1 M2 F ∧
        Eg B k L' R' T s ∧ Sol L' R' T ∧ Tri F T ∧ L'.length ≤ B ∧ R'.length ≤ B ∧ M1 + k * 1000 ≤ 2001000 ∧ M2 + k * 1000 ≤ 2001000 ∧ F.length + k ≤ 2000 ∧
        L' = p ++ appM T ds1 ∧ R' = p ++ appM T ds2 ∧ j = k * 1001 + (appM T ds1).length)
      ⟨_, k, L, R, [], [], [], L, R, _, _, _, _, _, _, rfl, sF, u0, eg, sol_zero tl tr, tri_zero, Bx, By, by omega, by omega, by rw [List.length_nil]; omega, (appM_none L).symm, (appM_none R).symm, rfl⟩ ?_
    rintro j σ H1 ⟨k, L', R', T, F, p, ds1, ds2, M1, M2, v7, v8, v9, v10, rfl, s1, u, eg, S, tri, bl, br, w1, w2, fl, eL, eR, rfl⟩
    walk_at "go"
    obtain ⟨i1, p1⟩ := u.s1.ob
    obtain ⟨xs1, g1, m1'⟩ := u.k1.at_
    have lx1 := DpAll.len m1'
    rw [List.length_reverse] at lx1
    refine ⟨o1, _, _, _, _, rfl, p1, E.cl_Side, E.nA_Side_rest, fs_Side_rest, ?_⟩
    walk_at "go"
    refine ⟨_, _, rfl, .inl (SqL.of g1), ?_⟩
    walk_at "go"
    have dr1 : (appM T ds1).length ≤ L'.length := by rw [eL, List.length_append]; omega
    have dr2 : (appM T ds2).length ≤ R'.length := by rw [eR, List.length_append]; omega
    have tT := S.t
    have hl := S.l
    have hr := S.r
    rw [eL] at hl
    rw [eR] at hr
    refine ite2 (fun hm => ?_) (fun hm => ?_)
    · have hm : (0 : Int) < xs1.length := of_decide_eq_true hm
      refine while_n ?_
      have ne1 : ds1 ≠ [] := fun w => by rw [w] at lx1; rw [List.length_nil] at lx1; omega
      have ne2 : ds2 ≠ [] := fun w => by
        rw [w] at hr
        have := same_len hl hr rfl
        have := appM_len tT ds1
        rw [‹appM T ds1 = []›, List.length_nil] at this
        exact ne1 (List.eq_nil_of_length_eq_zero (by omega))
      walk_at "go"
      obtain ⟨i2, p2⟩ := u.s2.ob
      refine ⟨o1, i1, _, rfl, p1, fs_Side_no_take, ?_⟩
      walk_at "go"
      refine ⟨o1, r1, c1, z, _, ds1, F, T, rfl, u.s1, u.k1, u.fd, tri, tT, ne1, by omega, fun v1 e1 ds1' H2 nn1 nk1 ap1 k1' d1 b1' => ?_⟩
      have u1 := u.stk1 b1' k1'
      have s2 : Same H H2 := fun b o e => b1' b o (ne_of_none e fr1) (s1 b o e)
      walk_at "go"
      obtain ⟨i3, p3⟩ := u1.s2.ob
      refine ⟨o2, i3, _, rfl, p3, fs_Side_no_take, ?_⟩
      walk_at "go"
      refine ⟨o2, r2, c2, z, _, ds2, F, T, rfl, u1.s2, u1.k2, u1.fd, tri, tT, ne2, by omega, fun v2 e2 ds2' H3 nn2 nk2 ap2 k2' d2 b2' => ?_⟩
      have u2 := u1.stk2 b2' k2'
      have s3 : Same H H3 := fun b o e => b2' b o (ne_of_none e fr2) (s2 b o e)
      have d1 : Dp K H3 v1 e1 := dp_map (fun _ _ q => (KpP.sqL b2').sqT u1.k2.nt u1.k2.nt q) _ _ (nd_noL nn1) d1
      clear u u1 s1 s2 b1' b2' k1' k2' p1 p2 p3 g1 m1' lx1 hm ne1 ne2
      rw [ap1] at eL hl dr1
      rw [ap2] at eR hr dr2
      walk_at "go"
      refine ⟨e1, e2, d1, d2, nd_shaped nn1, nd_shaped nn2, _, rfl, ite2 (fun he => ?_) (fun he => ?_)⟩
      · obtain rfl := (eq_nd nn1 nn2).mp he
        walk_at "go"
        exact ⟨_, by rw [ap1, List.length_cons]; omega, k, L', R', T, F, p ++ [e1], ds1', ds2', M1, M2, _, _, _, _, rfl, s3, u2, eg, S, tri, bl, br, w1, w2, fl, by rw [List.append_assoc]; exact eL, by rw [List.append_assoc]; exact eR, rfl⟩
      · have ne : e1 ≠ e2 := fun w => he ((eq_nd nn1 nn2).mpr w)
        have dif := eg_dif eg ne eL eR
        walk_at "gs"
        refine nx_via (fun σ H' => ∃ (n : Int) (v : List PyData) (vv : V) (es1 es2 x y : List PyData), σ = [some (.ref ax), some (.ref ay), some (.int m), some (.int (B : Nat)), some (.ref o1), some (.ref o2), some (.ref z), some v1, some v2, some (.int n), some vv] ∧ Same H H' ∧
          UH K H' o1 r1 c1 o2 r2 c2 z (L'.length : Int) (R'.length : Int) es1 es2 (fun n => cntN n L') (fun n => cntN n R') M1 M2 F ∧
          bindM (e1 :: appM T ds1') (e2 :: appM T ds2') = some (n, v) ∧ NdA (vN n) ∧ (∀ d ∈ v, NdA d) ∧ Dp K H' vv (.tuple v) ∧ L' = p ++ (x ++ appM T es1) ∧ R' = p ++ (y ++ appM T es2) ∧ (vN n ∉ v → appM [(n, v)] x = v ∧ appM [(n, v)] y = v)) ?_ fun hu => ?_
        · rintro σ H4 ⟨n, v, vv, es1, es2, x, y, rfl, s4, u4, bm, nn, nv, dv, eL', eR', xy⟩
          walk_at "go"
          refine ⟨by show 2 ≤ sizeLine; decide, fun tp ntp => ?_⟩
          have st := same_upd (o := .tup [V.str (Str.ofString "v"), V.int n]) ntp
          have dn : Dp K (upd H4 tp (.tup [V.str (Str.ofString "v"), V.int n])) (.ref tp) (vN n) := .tup (SqT.of upd_same) (.cons (.str _) (.cons (.int _) .nil))
          have u5 := u4.same st
          have s5 := s4.trans st
          have dv5 := dp_same st _ _ dv
          clear u4 s4 dv
          generalize (upd H4 tp (.tup [V.str (Str.ofString "v"), V.int n])) = H5 at dn u5 s5 dv5
          walk_at "go"
          refine ⟨vN n, v, dn, dv5, nd_shaped nn, tup_shaped nv, _, rfl, ite2 (fun hin => ?_) (fun hin => ?_)⟩
          · have own := (any_nd nv nn).mp hin
            walk_at "go"
            rcases dif with ⟨e, _⟩ | ⟨n', v', e, ⟨_, es⟩ | ⟨no, _⟩⟩
            · rw [bm] at e; cases e
            · subst es
              exact q _ s5
            · rw [bm] at e; cases e; exact absurd own no
          have own : vN n ∉ v := fun w => hin ((any_nd nv nn).mpr w)
          obtain ⟨xv, yv⟩ := xy own
          have bnd : Bnd L' R' T n v := by
            have := bind_ok (T := T) hl hr bm own
            rw [← eL, ← eR] at this
            exact this
          have nF : n ∉ F.map (·.1) := fun w => by
            rw [tri.keys] at w
            exact bnd.at_.elim (fun x => free_keys.mp S.fl n w x) fun x => free_keys.mp S.fr n w x
          obtain ⟨kvs, hz, tk⟩ := u5.fd.at_
          have lkv := TabK.len tk
          walk_at "go"
          refine ⟨z, _, rfl, DPut.k (k := Sum.inl n) hz (Nat.lt_of_le_of_lt (show _ ≤ 100000 by omega) (by decide)), ?_⟩
          have u6 := u5.put hz nF nv dv5
          have ntz : notTup H5 z := .inr (.inl ⟨_, hz⟩)
          have dv6 := dp_put (o := .dK (putK kvs (Sum.inl n) vv)) ntz _ _ (tup_noL nv) dv5
          have s6 : Same H (upd H5 z (.dK (putK kvs (Sum.inl n) vv))) := fun b o e => by rw [upd_ne (ne_of_none e fz)]; exact s5 _ _ e
          clear u5 s5 dv5 tk
          generalize (upd H5 z (.dK (putK kvs (Sum.inl n) vv))) = H6 at u6 s6 dv6
          walk_at "go"
          have vl : v.length ≤ 1000 := by
            exact bnd.inf.elim (fun w => by have := w.length_le; omega) (fun w => by have := w.length_le; omega)
          have cl := cnt_le n L'
          have cr := cnt_le n R'
          obtain ⟨i6, p6⟩ := u6.s1.ob
          refine ⟨o1, i6, _, rfl, p6, fs_Side_no_bind, ?_⟩
          walk_at "go"
          refine ⟨o1, r1, c1, _, vv, v, n, _, M1, rfl, u6.s1, u6.t1, dv6, nv, by omega, by show cntN n L' ≤ _; omega, by omega, fun H7 s7 t7 k7 => ?_⟩
          have u7 := u6.bnd1 k7 s7 t7
          have ss7 : Same H H7 := fun b o e => k7 b o (ne_of_none e no1) (ne_of_none e fc1) (s6 b o e)
          have dv7 : Dp K H7 vv (.tuple v) := dp_map (fun _ _ q => KpP.sqT k7 u6.s1.nt u6.t1.nt q) _ _ (tup_noL nv) dv6
          clear u6 s6 dv6 p6
          walk_at "go"
          obtain ⟨i7, p7⟩ := u7.s2.ob
          refine ⟨o2, i7, _, rfl, p7, fs_Side_no_bind, ?_⟩
          walk_at "go"
          refine ⟨o2, r2, c2, _, vv, v, n, _, M2, rfl, u7.s2, u7.t2, dv7, nv, by omega, by show cntN n R' ≤ _; omega, by omega, fun H8 s8 t8 k8 => ?_⟩
          have u8 := u7.bnd2 k8 s8 t8
          have ss8 : Same H H8 := fun b o e => k8 b o (ne_of_none e fo2) (ne_of_none e fc2) (ss7 b o e)
          clear u7 dv7 p7 ss7
          have lL : (L'.length : Int) + (cntN n L' : Int) * ((v.length : Int) - 1) = ((appM [(n, v)] L').length : Int) := (len_bind S.l.2).symm
          have lR : (R'.length : Int) + (cntN n R' : Int) * ((v.length : Int) - 1) = ((appM [(n, v)] R').length : Int) := (len_bind S.r.2).symm
          rw [lL, lR] at u8
          walk_at "go"
          obtain ⟨i8, p8⟩ := u8.s1.ob
          refine ⟨o1, _, _, _, _, rfl, p8, E.cl_Side, E.nA_Side_total, fs_Side_total, ?_⟩
          walk_at "go"
          obtain ⟨i9, p9⟩ := u8.s2.ob
          refine ⟨o2, _, _, _, _, rfl, p9, E.cl_Side, E.nA_Side_total, fs_Side_total, ?_⟩
          walk_at "go"
          refine ⟨_, _, rfl, ?_⟩
          walk_at "go"
          have T1 := app_up1 (n := n) (v := v) (T := T) u8.k1.nd
          have T2 := app_up1 (n := n) (v := v) (T := T) u8.k2.nd
          rcases dif with ⟨e, _⟩ | ⟨n', v', e, ⟨no, _⟩ | ⟨_, ⟨big, es⟩ | ⟨fit, j, ek, eg'⟩⟩⟩
          · rw [bm] at e; cases e
          · rw [bm] at e; cases e; exact absurd no own
          · rw [bm] at e; cases e
            subst es
            refine ite2 (fun _ => q _ ss8) (fun w => absurd (decide_eq_true ?_) w)
            split <;> omega
          · rw [bm] at e; cases e
            refine ite2 (fun w => absurd (of_decide_eq_true w) (by split <;> omega)) (fun _ => ?_)
            walk_at "go"
            have eL2 : appM [(n, v)] L' = appM [(n, v)] p ++ v ++ appM (up1 n v T) es1 := by rw [T1, eL', appM_app, appM_app, xv, List.append_assoc]
            have eR2 : appM [(n, v)] R' = appM [(n, v)] p ++ v ++ appM (up1 n v T) es2 := by rw [T2, eR', appM_app, appM_app, yv, List.append_assoc]
            have lm := congrArg List.length eL2
            rw [List.length_append] at lm
            exact ⟨_, by omega, j, _, _, _, _, appM [(n, v)] p ++ v, es1, es2, M1 + v.length, M2 + v.length, _, _, _, _, rfl, ss8, ⟨u8.s1, u8.s2, u8.k1, u8.k2, u8.t1.cong fun z => cnt_after nv S.l.2 own z, u8.t2.cong fun z => cnt_after nv S.r.2 own z, u8.fd, u8.fn, u8.oo, u8.rr, u8.cc, u8.z1, u8.z2⟩, eg', S.next bnd, tri.next S bnd, by omega, by omega, by omega, by omega, by rw [List.length_append, List.length_singleton]; omega, eL2, eR2, rfl⟩
        · refine ifc (toA e1 e2) (fun QT hQ => ?_) (fun hA => ?_) (fun hB => ?_)
          · walk_at "go"
            refine ⟨v1, e1, rfl, d1, nn1, ?_⟩
            unfold toA at hQ
            by_cases va : isVarN e1 = true
            · rw [va, Bool.true_and] at hQ
              rw [va]
              walk_at "go"
              refine ⟨v2, e2, rfl, d2, nn2, ?_⟩
              by_cases vb : isVarN e2 = true
              · rw [vb, Bool.true_and] at hQ
                rw [vb]
                have ea := var_vN nn1 va
                have eb := var_vN nn2 vb
                rw [ea] at d1
                rw [eb] at d2
                obtain ⟨t1, xs1, rfl, q1, y1⟩ := dp_tup d1
                obtain ⟨t2, xs2, rfl, q2, y2⟩ := dp_tup d2
                obtain ⟨w1, hw1, dw1⟩ := DpAll.get (i := 1) y1 rfl
                obtain ⟨w2, hw2, dw2⟩ := DpAll.get (i := 1) y2 rfl
                cases dw1
                cases dw2
                walk_at "go"
                refine ixT (j := 1) q2 hw2 ?_
                walk_at "go"
                refine ixT (j := 1) q1 hw1 ?_
                walk_at "go"
                exact hQ
              · have vb : isVarN e2 = false := Bool.eq_false_iff.mpr vb
                rw [vb, Bool.false_and] at hQ
                rw [vb]
                walk_at "go"
                exact hQ
            · have va : isVarN e1 = false := Bool.eq_false_iff.mpr va
              rw [va, Bool.false_and] at hQ
              rw [va]
              walk_at "go"
              exact hQ
          · have bm := bind_A (l := appM T ds1') (r := appM T ds2') nn1 nn2 ne hA
            have va : isVarN e1 = true := by
              unfold toA at hA
              rw [Bool.and_eq_true] at hA
              exact hA.1
            have ea := var_vN nn1 va
            have d1' := d1
            rw [ea] at d1'
            obtain ⟨t1, xs1, rfl, q1, y1⟩ := dp_tup d1'
            obtain ⟨w1, hw1, dw1⟩ := DpAll.get (i := 1) y1 rfl
            cases dw1
            walk_at "go"
            refine ixT (j := 1) q1 hw1 ?_
            obtain ⟨i3, p3⟩ := u2.s2.ob
            walk_at "go"
            refine ⟨o2, i3, _, rfl, p3, fs_Side_no_take_rest, ?_⟩
            walk_at "go"
            obtain ⟨kk, tm⟩ := tms_mid hr
            refine ⟨o2, r2, c2, z, _, v2, e2, ds2', F, T, kk, rfl, u2.s2, u2.k2, u2.fd, tri, tT, d2, nn2, tm, by rw [List.length_cons] at dr2; omega, fun vv es2 H4 ae k4 dv b4 => ?_⟩
            have u4 := u2.stk2 b4 k4
            have s4 : Same H H4 := fun b o e => b4 b o (ne_of_none e fr2) (s3 b o e)
            have sub := tms_sub tm
            refine ⟨_, _, rfl, ?_⟩
            refine hu _ _ ⟨numN e1, sub1 (e2 :: appM T ds2'), vv, ds1', es2, [e1], sub1 (e2 :: appM T ds2'), rfl, s4, u4, bm, by rw [← ea]; exact nn1, sub.1.2, dv, eL, ?_, fun own => ⟨?_, app_self sub.1.2 own⟩⟩
            · rw [ae, ← sub.2.2]; exact eR
            · rw [ea]; exact app_sing _ _
          · walk_at "gs"
            refine ifc (isVarN e2) (fun QT hQ => ?_) (fun vb => ?_) (fun vb => ?_)
            · walk_at "go"
              exact ⟨v2, e2, rfl, d2, nn2, _, rfl, hQ⟩
            · have bm := bind_B (l := appM T ds1') (r := appM T ds2') nn1 nn2 hB vb
              have eb := var_vN nn2 vb
              have d2' := d2
              rw [eb] at d2'
              obtain ⟨t1, xs1, rfl, q1, y1⟩ := dp_tup d2'
              obtain ⟨w1, hw1, dw1⟩ := DpAll.get (i := 1) y1 rfl
              cases dw1
              walk_at "go"
              refine ixT (j := 1) q1 hw1 ?_
              obtain ⟨i3, p3⟩ := u2.s1.ob
              walk_at "go"
              refine ⟨o1, i3, _, rfl, p3, fs_Side_no_take_rest, ?_⟩
              walk_at "go"
              obtain ⟨kk, tm⟩ := tms_mid hl
              refine ⟨o1, r1, c1, z, _, v1, e1, ds1', F, T, kk, rfl, u2.s1, u2.k1, u2.fd, tri, tT, d1, nn1, tm, by rw [List.length_cons] at dr1; omega, fun vv es1 H4 ae k4 dv b4 => ?_⟩
              have u4 := u2.stk1 b4 k4
              have s4 : Same H H4 := fun b o e => b4 b o (ne_of_none e fr1) (s3 b o e)
              have sub := tms_sub tm
              refine ⟨_, _, rfl, ?_⟩
              refine hu _ _ ⟨numN e2, sub1 (e1 :: appM T ds1'), vv, es1, ds2', sub1 (e1 :: appM T ds1'), [e2], rfl, s4, u4, bm, by rw [← eb]; exact nn2, sub.1.2, dv, ?_, eR, fun own => ⟨app_self sub.1.2 own, ?_⟩⟩
              · rw [ae, ← sub.2.2]; exact eL
              · rw [eb]; exact app_sing _ _
            · have bm := bind_C (l := appM T ds1') (r := appM T ds2') hB vb
              walk_at "go"
              rcases dif with ⟨_, es⟩ | ⟨n', v', e, _⟩
              · subst es
                exact q _ s3
              · rw [bm] at e; cases e
    · have e0 : ds1 = [] := List.eq_nil_of_length_eq_zero (by
        have : ¬ (0 : Int) < xs1.length := fun w => hm (decide_eq_true w)
        omega)
      subst e0
      have e3 : appM T ds2 = [] := same_len hr hl rfl
      rw [e3] at eR
      rw [show appM T [] = [] from rfl] at eL
      obtain rfl := eL.trans eR.symm
      have es := eg_same eg rfl
      subst es
      walk_at "go"
      refine ⟨z, F, T, rfl, u.fd, tri, S.nd, tT, fun q hq => ?_, by omega, fun d H' sH nd fd => q d H' (s1.trans sH) ?_ fd⟩
      · exact (S.inf q hq).elim (fun w => by have := w.length_le; omega) (fun w => by have := w.length_le; omega)
      · cases e : H d with
        | none => rfl
        | some o => rw [s1 _ _ e] at nd; cases nd

theorem ok_head_and_goals {f : Addr} {fd : FuncData} (F : Fun K "head_and_goals" "head_and_goals" s_head_and_goals f fd) (E : Bi K mg) (D_split_clause : Has P w K mg base 4 "split_clause" ["clause"] (sp_split_clause K)) (D_check_goal : HasX P w K mg base 2 "check_goal" ["term"] (sp_check_goal K)) (D_goals_of : HasX P w K mg base 4 "goals_of" ["body"] (sp_goals_of K)) : FnOk P w K mg base (L2.CX P w) 5 f fd ["clause"] (sp_head_and_goals K) := by
  obtain ⟨f_split_clause, fd_split_clause, G_split_clause, g_split_clause, kp_split_clause, b_split_clause⟩ := D_split_clause
  obtain ⟨f_check_goal, fd_check_goal, G_check_goal, g_check_goal, kp_check_goal, b_check_goal⟩ := D_check_goal
  obtain ⟨f_goals_of, fd_goals_of, G_goals_of, g_goals_of, kp_goals_of, b_goals_of⟩ := D_goals_of
  refine F.okX sc_head_and_goals (fun vs H Q E h => ?_) (fun cdv A outer s H vs Q E' hr h => ?_)
  · obtain ⟨x, d, r, rows, m, rfl, _⟩ := h
    rfl
  · obtain ⟨x, d, r, rows, m, rfl, hx, hn, hc, hl, h1, hf, hm, hrl, q1, q2⟩ := h
    refine ⟨_, (pss_cons (ps_if (pt_cmpR op_gt (pe_callB call_len_seq (by rfl) E.b_len PySem.boot_len (pa_cons (pv 0) pa_nil)) (pe_gC (by rfl) E.c_MOST_CLAUSE_NODES) (nomark _)) (pss_one (ps_raise rfl (takes_of rfl rfl rfl rfl) (pmk_own PySem.F.excBase_ValueError E.x_NotDefinite.xC E.x_NotDefinite.gC E.x_NotDefinite.kC (raises_own E.x_NotDefinite.bC E.x_NotDefinite.tC) rfl))) pss_nil)
      (pss_cons (ps_asg (pe_call G_split_clause (hr.mono (by decide)) (by rfl) g_split_clause kp_split_clause b_split_clause .nil pass0 (pa_cons (pv 0) pa_nil)) (pg_tup rfl (pgs_cons (pg_name (i := 1) sc_head_and_goals.nd rfl (Or.inl rfl)) (pgs_cons (pg_name (i := 2) sc_head_and_goals.nd rfl (Or.inl rfl)) pgs_nil))))
      (pss_cons (ps_expr (pe_callS G_check_goal (hr.mono (by decide)) (by rfl) g_check_goal kp_check_goal b_check_goal (fun σ => passAt (takes_of rfl rfl rfl rfl) σ) (pa_cons (pv 1) pa_nil)))
      (pss_one (ps_ret (pe_tup (pa_cons (pv 1) (pa_cons (pe_callS G_goals_of (hr.mono (by decide)) (by rfl) g_goals_of kp_goals_of b_goals_of (fun σ => passAt (takes_of rfl rfl rfl rfl) σ) (pa_cons (pv 2) pa_nil)) pa_nil)))))))), ?_⟩
    cases id hx with
    | @tup a xs _ hs ha =>
    have hxl := DpAll.len ha
    rw [List.length_cons] at hxl
    refine seq_ifN ?_
    refine ⟨_, rfl, _, _, rfl, .inr hs, _, _, rfl, rfl, _, rfl, ite2 (fun e => ?_) (fun _ => ?_)⟩
    · have := of_decide_eq_true e
      omega
    · refine seq_asg ?_
      refine ⟨_, rfl, .ref a, d, r, rfl, hx, hn, hc, by omega, fun v H1 s1 d1 => ?_⟩
      obtain ⟨n1, n2, n3⟩ := split_facts hn
      generalize splitM (d :: r) = S at h1 hf hm q1 q2 d1 n1 n2 n3
      obtain ⟨hd, bd⟩ := S
      cases hd with
      | nil => exact absurd rfl h1
      | cons d0 hd =>
      cases d1 with
      | @tup c zs _ hz az =>
      cases az with
      | @cons hv _ _ _ e1 az =>
      cases az with
      | @cons bv _ _ _ e2 az =>
      cases az
      refine ⟨c, _, rfl, hz, rfl, _, _, rfl, gname ⟨_, [], rfl, gname ⟨rfl, ?_⟩⟩⟩
      refine seq_any ?_
      refine ⟨_, rfl, hv, d0, hd, rfl, e1, n1 d0 List.mem_cons_self, fun hg H2 s2 => ?_, fun hg H2 s2 => q2 (by show (isG d0 && _) = false; rw [hg]; rfl) _ (s1.trans s2)⟩
      refine nxp ?_
      refine ⟨_, rfl, _, rfl, bv, bd, rows, m, rfl, dp_same s2 _ _ e2, n2, hf, hm, by show bd.length ≤ 200; have n3 : bd.length ≤ r.length + 1 := n3; omega, hrl, fun hgood g ys H3 s3 ng eg Y => ?_, fun hbad H3 s3 => q2 (by rw [hbad, Bool.and_false]) _ ((s1.trans s2).trans s3)⟩
      refine ⟨(by show 2 ≤ sizeLine; decide), fun p np => ?_⟩
      have sp := same_upd (o := .tup [hv, .ref g]) np
      have hgs : (isGr (d0 :: hd) && goodM rows) = true := by show (isG d0 && _) = true; rw [hg, hgood]; rfl
      exact q1 hgs p hv g ys _ (((s1.trans s2).trans s3).trans sp) ((s1.trans s2).free ng) upd_same (dp_same ((s2.trans s3).trans sp) _ _ e1) (sp _ _ eg) (dp_sameAll sp _ _ Y) (fun z => by rw [z, eg] at np; cases np)

theorem ok__law_clause {f : Addr} {fd : FuncData} (F : Fun K "_law_clause" "_law_clause" s__law_clause f fd) (E : Bi K mg) (D__law_atom_of : Has P w K mg base 4 "_law_atom_of" ["stream", "widest"] (sp__law_atom_of K)) (D__law_draw : Has P w K mg base 1 "_law_draw" ["stream", "many"] (sp__law_draw K)) (D__law_joined : Has P w K mg base 1 "_law_joined" ["goals"] (sp__law_joined K)) : FnOk P w K mg base CX0 5 f fd ["stream"] (sp__law_clause K) := by
  obtain ⟨f__law_atom_of, fd__law_atom_of, G__law_atom_of, g__law_atom_of, kp__law_atom_of, b__law_atom_of⟩ := D__law_atom_of
  obtain ⟨f__law_draw, fd__law_draw, G__law_draw, g__law_draw, kp__law_draw, b__law_draw⟩ := D__law_draw
  obtain ⟨f__law_joined, fd__law_joined, G__law_joined, g__law_joined, kp__law_joined, b__law_joined⟩ := D__law_joined
  refine F.ok sc__law_clause (fun vs H Q E h => ?_) (fun cdv A outer s H vs Q E' hr h => ?_)
  · obtain ⟨s, l, rfl, _⟩ := h
    rfl
  · obtain ⟨s, l, rfl, hS, q⟩ := h
    have n9 : (2 : Nat) ^ 8 ≤ 2 ^ 9000 := Nat.pow_le_pow_right (by decide) (by decide)
    refine ⟨_, (pss_cons (ps_set (i := 1) sc__law_clause.nd rfl (Or.inl rfl) (pe_call G__law_atom_of (hr.mono (by decide)) (by rfl) g__law_atom_of kp__law_atom_of b__law_atom_of .nil pass0 (pa_cons (pv 0) (pa_cons pe_int pa_nil))))
      (pss_cons (ps_set (i := 2) sc__law_clause.nd rfl (Or.inl rfl) (pe_ix ix_list (pe_lst (pa_cons pe_int (pa_cons pe_int (pa_cons pe_int (pa_cons pe_int (pa_cons pe_int (pa_cons pe_int pa_nil))))))) (pe_call G__law_draw (hr.mono (by decide)) (by rfl) g__law_draw kp__law_draw b__law_draw .nil pass0 (pa_cons (pv 0) (pa_cons pe_int pa_nil))) (fun _ _ => rfl)))
      (pss_cons (ps_if (pt_cmpR op_eq (pe_call G__law_draw (hr.mono (by decide)) (by rfl) g__law_draw kp__law_draw b__law_draw .nil pass0 (pa_cons (pv 0) (pa_cons pe_int pa_nil))) pe_int (nomark _)) (pss_one (ps_set (i := 2) sc__law_clause.nd rfl (Or.inl rfl) (pe_op op_add pe_int (pe_call G__law_draw (hr.mono (by decide)) (by rfl) g__law_draw kp__law_draw b__law_draw .nil pass0 (pa_cons (pv 0) (pa_cons pe_int pa_nil)))))) pss_nil)
      (pss_cons (ps_if (pw_and (pt_cmpR op_eq (pv 2) pe_int (nomark _)) (pw_and1 (pt_cmpR op_gt (pe_call G__law_draw (hr.mono (by decide)) (by rfl) g__law_draw kp__law_draw b__law_draw .nil pass0 (pa_cons (pv 0) (pa_cons pe_int pa_nil))) pe_int (nomark _)))).pt (pss_one (ps_ret (pv 1))) pss_nil)
      (pss_cons (ps_setLc (i := 3) (own := [("k", 4)]) (g := gName 4) (tt := tYes) rfl sc__law_clause.nd rfl rfl (by rfl) (pi_range1 (by rfl) E.b_range (pa_cons (pv 2) pa_nil)) (blkOk_by (N := N__law_clause) (sc := defScope s__law_clause) (by decide +kernel)) (fun _ _ _ _ _ => pg_name (i := 4) sc__law_clause.nd rfl (Or.inl rfl)) (fun _ _ _ _ _ => pts_nil) (fun _ _ _ _ _ => (pe_call G__law_atom_of (hr.mono (by decide)) (by rfl) g__law_atom_of kp__law_atom_of b__law_atom_of .nil pass0 (pa_cons (pv 0) (pa_cons pe_int pa_nil)))))
      (pss_cons (ps_if (pw_or (pt_cmpR op_eq (pv 2) pe_int (nomark _)) (pw_or1 (pt_cmpR op_eq (pe_call G__law_draw (hr.mono (by decide)) (by rfl) g__law_draw kp__law_draw b__law_draw .nil pass0 (pa_cons (pv 0) (pa_cons pe_int pa_nil))) pe_int (nomark _)))).pt (pss_one (ps_expr (pe_bm PySem.F.plainAttrs_list PySem.F.slot_list_append PySem.F.type_list_append mt_append (pv 3) (pa_cons (pe_tup (pa_cons (pe_tup (pa_cons pe_str (pa_cons pe_str (pa_cons pe_int pa_nil)))) pa_nil)) pa_nil)))) pss_nil)
      (pss_one (ps_ret (pe_op op_catA (pe_op op_catA (pe_tup (pa_cons (pe_tup (pa_cons pe_str (pa_cons pe_str (pa_cons pe_int pa_nil)))) pa_nil)) (pv 1)) (pe_call G__law_joined (hr.mono (by decide)) (by rfl) g__law_joined kp__law_joined b__law_joined .nil pass0 (pa_cons (pv 3) pa_nil))))))))))), ?_⟩
    refine st_of (σ := [some _, none, none, none, none]) rfl ?_
    walk_at "go"
    refine ⟨s, l, 3, rfl, hS, by decide, by decide, fun v1 hd H1 ok1 g1 b1 S1 i1 => ?_⟩
    walk_at "go"
    have d1 : Dp K H1 v1 (.tuple hd) := Im.dp _ _ i1
    refine newN (n := 6) rfl (by decide) fun P nP => ?_
    obtain ⟨os1, hos1⟩ := S1.at_s
    have Ps : P ≠ s := fun z => by rw [z, hos1] at nP; cases nP
    have sP := same_upd (o := .lst [V.int 0, V.int 0, V.int 1, V.int 1, V.int 2, V.int 3]) nP
    walk_at "go"
    refine ⟨s, l, 6, rfl, S1.keep sP, by decide, Nat.lt_of_lt_of_le (by decide) n9, fun r H2 r0 r1 b2 S2 => ?_⟩
    have pick : ∃ m : Int, 0 ≤ m ∧ m ≤ 3 ∧ atI [V.int 0, V.int 0, V.int 1, V.int 1, V.int 2, V.int 3] r = some (.int m) := by
      have : r = 0 ∨ r = 1 ∨ r = 2 ∨ r = 3 ∨ r = 4 ∨ r = 5 := by omega
      rcases this with rfl | rfl | rfl | rfl | rfl | rfl
      · exact ⟨0, by decide, by decide, rfl⟩
      · exact ⟨0, by decide, by decide, rfl⟩
      · exact ⟨1, by decide, by decide, rfl⟩
      · exact ⟨1, by decide, by decide, rfl⟩
      · exact ⟨2, by decide, by decide, rfl⟩
      · exact ⟨3, by decide, by decide, rfl⟩
    obtain ⟨m, m0, m3, hm⟩ := pick
    have d2 := dp_but (S1.keep sP) b2 ok1.1 (dp_same sP _ _ d1)
    have b02 := (b1.trans (But.of sP)).trans b2
    refine ⟨_, _, _, _, rfl, rfl, SqL.of (b2 _ _ Ps upd_same), hm, ?_⟩
    walk_at "gs"
    refine nx_via (fun σ H' => ∃ (m : Int), 0 ≤ m ∧ m ≤ 6 ∧ σ = [some (.ref s), some v1, some (.int m), none, none] ∧ But s H H' ∧ Stm H' s l ∧ Dp K H' v1 (.tuple hd)) ?_ fun hu => ?_
    · rintro σ H3 ⟨m, m0, m6, rfl, b3, S3, d3⟩
      walk_at "gs"
      refine nx_via (fun σ H' => σ = [some (.ref s), some v1, some (.int m), none, none] ∧ But s H H' ∧ Stm H' s l ∧ Dp K H' v1 (.tuple hd)) ?_ fun hu => ?_
      · rintro σ H4 ⟨rfl, b4, S4, d4⟩
        walk_at "go"
        refine ⟨_, rfl, by omega, by omega, fun D nD => ?_⟩
        obtain ⟨os4, hos4⟩ := S4.at_s
        have Ds : D ≠ s := fun z => by rw [z, hos4] at nD; cases nD
        obtain ⟨ol4, hol4⟩ := S4.at_l
        have lD : l ≠ D := ne_of_none hol4 nD
        have hDH : H D = Option.none := by
          cases hh : H D with
          | none => rfl
          | some o => rw [b4 D o Ds hh] at nD; cases nD
        have sD := same_upd (o := .lst []) nD
        refine lc_it (n := m.toNat) walk_range (fun i H' => ∃ (xs : List V) (rs : List (List PyData)), H' D = some (.lst xs) ∧ DpAll K H' xs (rs.map PyData.tuple) ∧ OkRs rs ∧ (∀ r ∈ rs, isGr r = true) ∧ rs.length = i ∧ But s H H' ∧ Stm H' s l ∧ Dp K H' v1 (.tuple hd))
          ⟨[], [], upd_same, .nil, (fun r hr => nomatch hr), (fun r hr => nomatch hr), rfl, b4.trans (But.of sD), S4.keep sD, dp_same sD _ _ d4⟩ (fun _ _ _ _ => trivial) ?_ ?_
        · rintro i z H5 H6 hi ⟨xs, rs, e5, d5, ok5, gr5, l5, b5, S5, dh5⟩ ⟨rfl, rfl⟩
          have lxs := DpAll.len d5
          rw [List.length_map] at lxs
          walk_at "wp"
          show gName 4 (V.int ((0 : Int) + (i : Int))) _ _ _
          rw [Int.zero_add]
          walk_at "go"
          refine ⟨rfl, ?_⟩
          walk_at "go"
          refine ⟨s, l, 3, rfl, S5, by decide, by decide, fun y ds H7 ok7 g7 b7 S7 i7 => ?_⟩
          have e7 := b7 _ _ Ds e5
          have nt : notTup H7 D := .inl ⟨_, e7⟩
          have ndr : NdT rs := fun r hr => (ok5 r hr).1
          refine ⟨xs, e7, Nat.lt_of_le_of_lt (show _ ≤ 100000 by omega) (by decide), xs ++ [y], rs ++ [ds], upd_same, ?_, fun r hr => ?_, fun r hr => ?_, by rw [List.length_append, l5]; rfl, ?_, ?_, ?_⟩
          · rw [List.map_append]
            exact dpAll_end (dp_putAll nt _ _ ndr.noL (dp_butAll S5 b7 ndr d5)) (dp_put nt _ _ (tup_noL ok7.1) (Im.dp _ _ i7))
          · rcases List.mem_append.mp hr with hr | hr
            · exact ok5 r hr
            · rw [List.mem_singleton.mp hr]
              exact ok7
          · rcases List.mem_append.mp hr with hr | hr
            · exact gr5 r hr
            · rw [List.mem_singleton.mp hr]
              exact g7
          · exact fun c o hc e => by rw [upd_ne (fun z => by rw [z, hDH] at e; cases e)]; exact b7 c o hc (b5 c o hc e)
          · exact S7.put Ds.symm lD
          · exact dp_put nt _ _ (tup_noL ok1.1) (dp_but S5 b7 ok1.1 dh5)
        · rintro H5 ⟨xs, rs, e5, d5, ok5, gr5, l5, b5, S5, dh5⟩
          walk_at "gs"
          refine nx_via (fun σ H' => ∃ (xs : List V) (rows : List (List PyData)), σ = [some (.ref s), some v1, some (.int m), some (.ref D), none] ∧ H' D = some (.lst xs) ∧ DpAll K H' xs (rows.map PyData.tuple) ∧ OkRs rows ∧ goodM rows = true ∧ rows ≠ [] ∧ rows.length ≤ 7 ∧ But s H H' ∧ Stm H' s l ∧ Dp K H' v1 (.tuple hd)) ?_ fun hu => ?_
          · rintro σ H6 ⟨xs, rows, rfl, e6, d6, ok6, g6, ne6, l6, b6, S6, dh6⟩
            refine op_of (op_of ?_)
            refine lit_tup (K := K) (ds := [clN]) ?_ (by decide) H6 _ fun v8 H8 t8 i8 => ?_
            · unfold clN nodeF
              walk_at "lits"
            walk_at "go"
            have l6' : hd.length ≤ 9 := ok1.2.2.1
            refine cat_dpA (Im.dp _ _ i8) (dp_same t8 _ _ dh6) (by show 1 + _ ≤ _; omega) fun v9 H9 s9 d9 => ?_
            have t89 := t8.trans s9
            walk_at "go"
            refine ⟨D, xs, rows, rfl, t89 _ _ e6, dp_sameAll t89 _ _ d6, ok6, ne6, by omega, fun v10 H10 s10 d10 => ?_⟩
            have lj := join_len ok6
            refine cat_dpA (dp_same s10 _ _ d9) d10 (by rw [List.length_append]; show 1 + _ + _ ≤ _; omega) fun v11 H11 s11 d11 => ?_
            have sC := t89.trans (s10.trans s11)
            exact q v11 _ hd rows H11 ⟨ok1, g1, ok6, g6, ne6, by omega, .inr (by rw [List.append_assoc]; rfl)⟩ (b6.trans (But.of sC)) (S6.keep sC) d11
          · have goD : ∀ H6, But s H H6 → Stm H6 s l → H6 D = some (.lst xs) → DpAll K H6 xs (rs.map PyData.tuple) → Dp K H6 v1 (.tuple hd) → ∀ v H7, Same H6 H7 → Dp K H7 v (.tuple [trueN]) → ∃ (xs' : List V) (rows : List (List PyData)), H7 D = some (.lst xs) ∧ xs.length < sizeLine ∧ xs' = xs ++ [v] ∧ (upd H7 D (.lst xs')) D = some (.lst xs') ∧ DpAll K (upd H7 D (.lst xs')) xs' (rows.map PyData.tuple) ∧ OkRs rows ∧ goodM rows = true ∧ rows ≠ [] ∧ rows.length ≤ 7 ∧ But s H (upd H7 D (.lst xs')) ∧ Stm (upd H7 D (.lst xs')) s l ∧ Dp K (upd H7 D (.lst xs')) v1 (.tuple hd) := fun H6 b6 S6 e6 d6 dh6 v H7 s7 dv => by
              have e7 := s7 _ _ e6
              have nt : notTup H7 D := .inl ⟨_, e7⟩
              have lxs := DpAll.len d5
              rw [List.length_map] at lxs
              have ndr : NdT rs := fun r hr => (ok5 r hr).1
              have S7 := S6.keep s7
              refine ⟨_, rs ++ [[trueN]], e7, Nat.lt_of_le_of_lt (show _ ≤ 100000 by omega) (by decide), rfl, upd_same, ?_, fun r hr => ?_, good_snoc (good_all gr5), by simp, by rw [List.length_append, l5]; show _ + 1 ≤ 7; omega, ?_, S7.put Ds.symm lD, dp_put nt _ _ (tup_noL ok1.1) (dp_same s7 _ _ dh6)⟩
              · rw [List.map_append]
                exact dpAll_end (dp_putAll nt _ _ ndr.noL (dp_sameAll s7 _ _ d6)) (dp_put nt _ _ (tup_noL true_row.1) dv)
              · rcases List.mem_append.mp hr with hr | hr
                · exact ok5 r hr
                · rw [List.mem_singleton.mp hr]
                  exact true_row
              · exact fun c o hc e => by rw [upd_ne (fun z => by rw [z, hDH] at e; cases e)]; exact s7 _ _ (b6 c o hc e)
            have ndr : NdT rs := fun r hr => (ok5 r hr).1
            walk_at "go"
            refine ite2 (fun e => ?_) (fun e => ?_)
            · refine iteT ?_
              walk_at "gs"
              refine tyl (SqL.of e5) ?_
              walk_at "gs"
              refine ⟨(by show 3 ≤ sizeLine; decide), fun p np => ?_⟩
              walk_at "gs"
              refine ⟨(by show 1 ≤ sizeLine; decide), fun p2 np2 => ?_⟩
              have sp := same_upd (o := .tup [V.str (Str.ofString "f"), V.str (Str.ofString "true"), V.int 0]) np
              have sp2 := same_upd (o := .tup [V.ref p]) np2
              obtain ⟨xs', rows, q1, q2, rfl, q3⟩ := goD H5 b5 S5 e5 d5 dh5 (.ref p2) _ (sp.trans sp2) (.tup (SqT.of upd_same) (.cons (.tup (SqT.of (sp2 _ _ upd_same)) (.cons (.str _) (.cons (.str _) (.cons (.int _) .nil)))) .nil))
              walk_at "gs"
              refine ⟨_, _, _, rfl, rfl, q1, q2, ?_⟩
              exact hu _ _ ⟨_, rows, rfl, q3⟩
            · walk_at "gs"
              refine ⟨s, l, 8, rfl, S5, by decide, Nat.lt_of_lt_of_le (by decide) n9, fun c6 H6 c60 c61 b6 S6 => ?_⟩
              walk_at "gs"
              refine ite2 (fun e2 => ?_) (fun e2 => ?_)
              · walk_at "gs"
                refine tyl (SqL.of (b6 _ _ Ds e5)) ?_
                walk_at "gs"
                refine ⟨(by show 3 ≤ sizeLine; decide), fun p np => ?_⟩
                walk_at "gs"
                refine ⟨(by show 1 ≤ sizeLine; decide), fun p2 np2 => ?_⟩
                have sp := same_upd (o := .tup [V.str (Str.ofString "f"), V.str (Str.ofString "true"), V.int 0]) np
                have sp2 := same_upd (o := .tup [V.ref p]) np2
                obtain ⟨xs', rows, q1, q2, rfl, q3⟩ := goD H6 (b5.trans b6) S6 (b6 _ _ Ds e5) (dp_butAll S5 b6 ndr d5) (dp_but S5 b6 ok1.1 dh5) (.ref p2) _ (sp.trans sp2) (.tup (SqT.of upd_same) (.cons (.tup (SqT.of (sp2 _ _ upd_same)) (.cons (.str _) (.cons (.str _) (.cons (.int _) .nil)))) .nil))
                walk_at "gs"
                refine ⟨_, _, _, rfl, rfl, q1, q2, ?_⟩
                exact hu _ _ ⟨_, rows, rfl, q3⟩
              · have m1 : m ≠ 0 := fun z => e (decide_eq_true z)
                exact hu _ _ ⟨xs, rs, rfl, b6 _ _ Ds e5, dp_butAll S5 b6 ndr d5, ok5, good_all gr5, fun z => by rw [z] at l5; rw [List.length_nil] at l5; omega, by omega, b5.trans b6, S6, dp_but S5 b6 ok1.1 dh5⟩
      · walk_at "go"
        refine ite2 (fun e => ?_) (fun e => ?_)
        · walk_at "go"
          refine ⟨s, l, 4, rfl, S3, by decide, Nat.lt_of_lt_of_le (by decide) n9, fun c4 H4 c40 c41 b4 S4 => ?_⟩
          have d4 := dp_but S3 b4 ok1.1 d3
          walk_at "gs"
          refine ite2 (fun e2 => ?_) (fun e2 => ?_)
          · walk_at "go"
            exact q v1 hd hd [[trueN]] H4 ⟨ok1, g1, fun r hr => by rw [List.mem_singleton.mp hr]; exact true_row, by decide +kernel, List.cons_ne_nil _ _, by decide, .inl ⟨rfl, rfl⟩⟩ (b3.trans b4) S4 d4
          · exact hu _ _ ⟨rfl, b3.trans b4, S4, d4⟩
        · exact iteF (hu _ _ ⟨rfl, b3, S3, d3⟩)
    · walk_at "go"
      refine ⟨s, l, 12, rfl, S2, by decide, Nat.lt_of_lt_of_le (by decide) n9, fun c H3 c0 c1 b3 S3 => ?_⟩
      have d3 := dp_but S2 b3 ok1.1 d2
      have b03 := b02.trans b3
      walk_at "gs"
      refine ite2 (fun e => ?_) (fun e => ?_)
      · walk_at "gs"
        refine ⟨s, l, 3, rfl, S3, by decide, Nat.lt_of_lt_of_le (by decide) n9, fun c4 H4 c40 c41 b4 S4 => ?_⟩
        walk_at "gs"
        exact hu _ _ ⟨4 + c4, by omega, by omega, rfl, b03.trans b4, S4, dp_but S3 b4 ok1.1 d3⟩
      · exact hu _ _ ⟨m, m0, by omega, rfl, b03, S3, d3⟩

theorem ok__law_query {f : Addr} {fd : FuncData} (F : Fun K "_law_query" "_law_query" s__law_query f fd) (E : Bi K mg) (D__law_draw : Has P w K mg base 1 "_law_draw" ["stream", "many"] (sp__law_draw K)) (D__law_atom_of : Has P w K mg base 4 "_law_atom_of" ["stream", "widest"] (sp__law_atom_of K)) (D__law_row : Has P w K mg base 4 "_law_row" ["clause"] (sp__law_row K)) : FnOk P w K mg base CX0 5 f fd ["stream", "program"] (sp__law_query K) := by
  obtain ⟨f__law_draw, fd__law_draw, G__law_draw, g__law_draw, kp__law_draw, b__law_draw⟩ := D__law_draw
  obtain ⟨f__law_atom_of, fd__law_atom_of, G__law_atom_of, g__law_atom_of, kp__law_atom_of, b__law_atom_of⟩ := D__law_atom_of
  obtain ⟨f__law_row, fd__law_row, G__law_row, g__law_row, kp__law_row, b__law_row⟩ := D__law_row
  refine F.ok sc__law_query (fun vs H Q E h => ?_) (fun cdv A outer s H vs Q E' hr h => ?_)
  · obtain ⟨s, l, r, ys, ps, rfl, _⟩ := h
    rfl
  · obtain ⟨s, l, r, ys, ps, rfl, hS, rs, er, dy, ok, lp1, lp2, q⟩ := h
    have n9 : (2 : Nat) ^ 8 ≤ 2 ^ 9000 := Nat.pow_le_pow_right (by decide) (by decide)
    refine ⟨_, (pss_cons (ps_if (pt_cmpR op_eq (pe_call G__law_draw (hr.mono (by decide)) (by rfl) g__law_draw kp__law_draw b__law_draw .nil pass0 (pa_cons (pv 0) (pa_cons pe_int pa_nil))) pe_int (nomark _)) (pss_one (ps_ret (pe_call G__law_atom_of (hr.mono (by decide)) (by rfl) g__law_atom_of kp__law_atom_of b__law_atom_of .nil pass0 (pa_cons (pv 0) (pa_cons pe_int pa_nil))))) pss_nil)
      (pss_cons (ps_set (i := 2) sc__law_query.nd rfl (Or.inl rfl) (pe_ix ix_list (pe_call G__law_row (hr.mono (by decide)) (by rfl) g__law_row kp__law_row b__law_row .nil pass0 (pa_cons (pe_ix ix_list (pv 1) (pe_call G__law_draw (hr.mono (by decide)) (by rfl) g__law_draw kp__law_draw b__law_draw .nil pass0 (pa_cons (pv 0) (pa_cons (pe_callB call_len_seq (by rfl) E.b_len PySem.boot_len (pa_cons (pv 1) pa_nil)) pa_nil))) (fun _ _ => rfl)) pa_nil)) pe_int (fun _ _ => rfl)))
      (pss_cons (ps_set (i := 3) sc__law_query.nd rfl (Or.inl rfl) (pe_lst pa_nil))
      (pss_cons (ps_for PassesOwn.never rfl (pi_range1 (by rfl) E.b_range (pa_cons (pe_callB call_len_seq (by rfl) E.b_len PySem.boot_len (pa_cons (pv 2) pa_nil)) pa_nil)) (pg_name (i := 4) sc__law_query.nd rfl (Or.inl rfl)) (pss_cons (ps_set (i := 5) sc__law_query.nd rfl (Or.inl rfl) (pe_ix ix_tup (pv 2) (pv 4) (fun _ _ => rfl)))
      (pss_one (ps_if (pw_or (pt_cmpR op_eq (pv 4) pe_int (nomark _)) (pw_or (pw_and (pt_val (pe_callB call_isi (by rfl) E.b_isinstance (by decide +kernel) (pa_cons (pv 5) (pa_cons (pe_ty "tuple" (by rfl) E.b_tuple (by decide +kernel)) pa_nil)))) (pw_and (pt_cmpR op_eq (pe_ix ix_tup (pv 5) pe_int (fun _ _ => rfl)) pe_str (nomark _)) (pw_and1 (pt_cmpR op_gt (pe_ix ix_tup (pv 5) pe_int (fun _ _ => rfl)) pe_int (nomark _))))).pt (pw_or1 (pt_cmpR op_gt (pe_call G__law_draw (hr.mono (by decide)) (by rfl) g__law_draw kp__law_draw b__law_draw .nil pass0 (pa_cons (pv 0) (pa_cons pe_int pa_nil))) pe_int (nomark _))))).pt (pss_one (ps_expr (pe_bm PySem.F.plainAttrs_list PySem.F.slot_list_append PySem.F.type_list_append mt_append (pv 3) (pa_cons (pv 5) pa_nil)))) (pss_one (ps_expr (pe_bm PySem.F.plainAttrs_list PySem.F.slot_list_append PySem.F.type_list_append mt_append (pv 3) (pa_cons (pe_tup (pa_cons pe_str (pa_cons (pe_call G__law_draw (hr.mono (by decide)) (by rfl) g__law_draw kp__law_draw b__law_draw .nil pass0 (pa_cons (pv 0) (pa_cons pe_int pa_nil))) pa_nil))) pa_nil))))))))
      (pss_one (ps_ret (pe_callTy call_tuple_of (by rfl) E.b_tuple (by decide +kernel) (pa_cons (pv 3) pa_nil)))))))), ?_⟩
    refine st_of (σ := [some _, some _, none, none, none, none]) rfl ?_
    walk_at "go"
    refine ⟨s, l, 3, rfl, hS, by decide, Nat.lt_of_lt_of_le (by decide) n9, fun c0 H1 c00 c01 b1 S1 => ?_⟩
    walk_at "go"
    refine ite2 (fun e => ?_) (fun e => ?_)
    · walk_at "go"
      refine ⟨s, l, 3, rfl, S1, by decide, by decide, fun v ds H2 ok1 g1 b2 S2 i2 => ?_⟩
      exact q v ds H2 ok1 g1 (b1.trans b2) S2 (Im.dp _ _ i2)
    · have ly := DpAll.len dy
      rw [List.length_map] at ly
      walk_at "go"
      refine ⟨r, ys, rfl, .inl (SqL.of (b1 _ _ rs er)), ?_⟩
      walk_at "go"
      refine ⟨s, l, (ys.length : Nat), rfl, S1, by omega, Nat.le_trans (show ((ys.length : Int)).natAbs.succ ≤ 2 ^ 8 by omega) n9, fun c1 H2 c10 c11 b2 S2 => ?_⟩
      obtain ⟨j, rfl⟩ : ∃ j : Nat, c1 = (j : Int) := ⟨c1.toNat, by omega⟩
      have hj := List.getElem?_eq_getElem (l := ps) (i := j) (by omega)
      obtain ⟨vj, hvj, dvj⟩ := DpAll.get (i := j) dy (by rw [List.getElem?_map, hj]; rfl)
      have b02 := b1.trans b2
      have okj := ok _ (List.mem_of_getElem? hj)
      have ndj := ok.nd _ (List.mem_of_getElem? hj)
      generalize ps[j] = pj at hj dvj okj ndj
      obtain ⟨hd, rows, C⟩ := okj
      refine ixL (j := j) (SqL.of (b02 _ _ rs er)) hvj ?_
      walk_at "go"
      refine ⟨vj, pj, hd, rows, rfl, dp_but hS b02 ndj dvj, C, fun R3 zs H3 s3 nR3 e3 d3 => ?_⟩
      walk_at "go"
      obtain ⟨v0, vr, rfl, dv0⟩ : ∃ v0 vr, zs = v0 :: vr ∧ Dp K H3 v0 (.tuple hd) := by
        cases d3 with
        | cons a b => exact ⟨_, _, rfl, a⟩
      refine ixL (j := 0) (SqL.of e3) rfl ?_
      have b3 := b02.trans (But.of s3)
      have S3 := S2.keep s3
      walk_at "go"
      refine newN (n := 0) rfl (by decide) fun N nN => ?_
      have sN := same_upd (o := .lst []) nN
      obtain ⟨fN, Ns⟩ := fresh_but b3 S3.some_s nN
      have lN : l ≠ N := fun z => by
        obtain ⟨o, ho⟩ := S3.some_l
        rw [z, nN] at ho
        cases ho
      walk_at "go"
      obtain ⟨ah, hs, rfl, sh, ahs⟩ := dp_tup dv0
      have lh := DpAll.len ahs
      have h9 := C.h.2.2.1
      refine ⟨ah, hs, rfl, .inr (same_sqT sN sh), ?_⟩
      walk_at "go"
      refine ⟨_, rfl, by omega, by omega, for_range (lo := 0) (n := ((hs.length : Nat) : Int).toNat) (fun i σ H' => ∃ (v4 v5 : Option V) (ys : List V) (es : List PyData), σ = [some (.ref s), some (.ref r), some (.ref ah), some (.ref N), v4, v5] ∧ H' N = some (.lst ys) ∧ DpAll K H' ys es ∧ es.length = i ∧ (∀ d ∈ es, NdA d) ∧ es.map arN = (hd.take i).map arN ∧ (∀ d, es.head? = some d → hd.head? = some d) ∧ But s H H' ∧ Stm H' s l ∧ Dp K H' (.ref ah) (.tuple hd))
        ⟨none, none, [], [], rfl, upd_same, .nil, rfl, (fun d hd => nomatch hd), rfl, (fun d hd => nomatch hd), b3.trans (But.of sN), S3.keep sN, dp_same sN _ _ dv0⟩ ?_ ?_⟩
      · rintro i σ H4 hi ⟨v4, v5, ys, es, rfl, e4, d4, l4, n4, a4, h4, b4, S4, dh4⟩
        rw [Int.toNat_natCast] at hi
        rw [Int.zero_add]
        walk_at "go"
        have hdi := List.getElem?_eq_getElem (l := hd) (i := i) (by omega)
        obtain ⟨vi, hvi, dvi⟩ := DpAll.get (i := i) ahs hdi
        have ndi := C.h.1 _ (List.mem_of_getElem? hdi)
        obtain ⟨ah2, hs2, eqa, sh4, ahs4⟩ := dp_tup dh4
        cases eqa
        obtain ⟨vi4, hvi4, dvi4⟩ := DpAll.get (i := i) ahs4 hdi
        refine ixT (j := i) sh4 hvi4 ?_
        generalize hd[i] = di at hdi dvi dvi4 ndi
        walk_at "gs"
        refine ifw (fun H1 => But s H4 H1 ∧ Stm H1 s l) (fun H1 => But s H4 H1 ∧ Stm H1 s l ∧ i ≠ 0 ∧ arN di = 0) (fun QT h1 h2 => ?_) (fun H5 ⟨b5, S5⟩ => ?_) (fun H5 ⟨b5, S5, i0, a0⟩ => ?_)
        · walk_at "go"
          refine ite2 (fun z => ?_) (fun z => ?_)
          · exact h1 _ ⟨But.refl _ _, S4⟩
          · have i0 : i ≠ 0 := fun w => z (by rw [w]; rfl)
            have drw : arN di = 0 → ∀ σ : L2.St, σ[0]? = some (some (.ref s)) → tTest (tOp (rI0 fun i j => V.bl (decide (j < i))) (tCall (sp__law_draw K) [] E0 (tCons (tVar 0) (tCons (tC (V.int 3)) tNil))) (tC (V.int 0))) σ H4 QT := fun a0 σ hs => by
              refine ⟨_, hs, s, l, 3, rfl, S4, by decide, Nat.lt_of_lt_of_le (by decide) n9, fun c6 H6 c60 c61 b6 S6 => ?_⟩
              refine ⟨_, _, rfl, rfl, _, rfl, ?_⟩
              cases hz : decide ((0 : Int) < c6) with
              | true => exact h1 _ ⟨b6, S6⟩
              | false => exact h2 _ ⟨b6, S6, i0, a0⟩
            walk_at "go"
            refine isi_tup dvi4 ?_
            walk_at "go"
            obtain ⟨wd, nn⟩ := id ndi
            cases nn with
            | i n g1 g2 => exact iteF (iteF (drw rfl _ rfl))
            | f y n g1 g2 g3 =>
              obtain ⟨b9, xs', rfl, sq, ax'⟩ := dp_tup dvi4
              obtain ⟨w0, hw0, dw0⟩ := DpAll.get (i := 0) ax' rfl
              obtain ⟨w2, hw2, dw2⟩ := DpAll.get (i := 2) ax' rfl
              cases dw0
              cases dw2
              refine iteT ?_
              walk_at "go"
              refine ixT (j := 0) sq hw0 ?_
              walk_at "go"
              rw [decide_eq_true (rfl : Str.ofString "f" = Str.ofString "f")]
              refine iteT ?_
              walk_at "go"
              refine ixT (j := 2) sq hw2 ?_
              walk_at "go"
              refine ite2 (fun hz => ?_) (fun hz => ?_)
              · exact h1 _ ⟨But.refl _ _, S4⟩
              · have hz : ¬ (0 : Int) < n := fun w => hz (decide_eq_true w)
                exact drw (show n.toNat = 0 by omega) _ rfl
            | v n g1 g2 =>
              obtain ⟨b9, xs', rfl, sq, ax'⟩ := dp_tup dvi4
              obtain ⟨w0, hw0, dw0⟩ := DpAll.get (i := 0) ax' rfl
              cases dw0
              refine iteT ?_
              walk_at "go"
              refine ixT (j := 0) sq hw0 ?_
              walk_at "go"
              rw [show decide (Str.ofString "v" = Str.ofString "f") = false by decide +kernel]
              exact iteF (iteF (drw rfl _ rfl))
        · have e5 := b5 _ _ Ns e4
          have ly := DpAll.len d4
          have nt : notTup H5 N := .inl ⟨_, e5⟩
          have d5 := dp_sameAll0 S4 b5 n4 d4
          have dh5 := dp_but S4 b5 C.h.1 dh4
          have di5 := dp1B S4 b5 ndi dvi4
          walk_at "go"
          refine tyl (SqL.of e5) ?_
          walk_at "go"
          refine ⟨_, _, _, rfl, rfl, e5, Nat.lt_of_le_of_lt (show _ ≤ 100000 by omega) (by decide), ?_⟩
          refine ⟨_, _, ys ++ [vi4], es ++ [di], rfl, upd_same, dpAll_end (dp_putAll nt _ _ (nds_noL n4) d5) (dp_put nt _ _ (nd_noL ndi) di5), by rw [List.length_append, l4]; rfl, fun d hd => ?_, ?_, fun d hd => ?_, fun c o hc e => ?_, S5.put Ns.symm lN, dp_put nt _ _ (tup_noL C.h.1) dh5⟩
          · rcases List.mem_append.mp hd with hd | hd
            · exact n4 d hd
            · rw [List.mem_singleton.mp hd]
              exact ndi
          · rw [List.take_add_one, hdi, List.map_append, List.map_append, a4]
            rfl
          · cases es with
            | nil =>
              have i0 : i = 0 := l4.symm
              subst i0
              rw [← show some di = some d from hd, List.head?_eq_getElem?]
              exact hdi
            | cons a t => exact h4 d hd
          · rw [upd_ne (fun z => by rw [z, fN] at e; cases e)]
            exact b5 c o hc (b4 c o hc e)
        · walk_at "go"
          refine tyl (SqL.of (b5 _ _ Ns e4)) ?_
          walk_at "go"
          refine ⟨s, l, 3, rfl, S5, by decide, Nat.lt_of_lt_of_le (by decide) n9, fun c7 H7 c70 c71 b7 S7 => ?_⟩
          have b57 := b5.trans b7
          have e7 := b57 _ _ Ns e4
          have ly := DpAll.len d4
          walk_at "go"
          refine newN (n := 2) rfl (by decide) fun P8 nP8 => ?_
          have s8 := same_upd (o := .tup [V.str (Str.ofString "v"), V.int c7]) nP8
          have e8 := s8 _ _ e7
          have nt : notTup (upd H7 P8 (.tup [V.str (Str.ofString "v"), V.int c7])) N := .inl ⟨_, e8⟩
          have d8 := dp_sameAll s8 _ _ (dp_sameAll0 S4 b57 n4 d4)
          have dh8 := dp_same s8 _ _ (dp_but S4 b57 C.h.1 dh4)
          have nv : NdA (vN c7) := vN_ndI c70
          have dv8 : Dp K (upd H7 P8 (.tup [V.str (Str.ofString "v"), V.int c7])) (.ref P8) (vN c7) := .tup (SqT.of upd_same) (.cons (.str _) (.cons (.int _) .nil))
          walk_at "go"
          refine ⟨_, _, _, rfl, rfl, e8, Nat.lt_of_le_of_lt (show _ ≤ 100000 by omega) (by decide), ?_⟩
          refine ⟨_, _, ys ++ [V.ref P8], es ++ [vN c7], rfl, upd_same, dpAll_end (dp_putAll nt _ _ (nds_noL n4) d8) (dp_put nt _ _ (nd_noL nv) dv8), by rw [List.length_append, l4]; rfl, fun d hd => ?_, ?_, fun d hd => ?_, fun c o hc e => ?_, (S7.keep s8).put Ns.symm lN, dp_put nt _ _ (tup_noL C.h.1) dh8⟩
          · rcases List.mem_append.mp hd with hd | hd
            · exact n4 d hd
            · rw [List.mem_singleton.mp hd]
              exact nv
          · rw [List.take_add_one, hdi, List.map_append, List.map_append, a4]
            show _ ++ [0] = _ ++ [arN di]
            rw [a0]
          · cases es with
            | nil => exact absurd l4.symm i0
            | cons a t => exact h4 d hd
          · rw [upd_ne (fun z => by rw [z, fN] at e; cases e)]
            exact s8 _ _ (b57 c o hc (b4 c o hc e))
      · rintro σ H4 ⟨v4, v5, ys, es, rfl, e4, d4, l4, n4, a4, h4, b4, S4, dh4⟩
        rw [Int.toNat_natCast, lh] at a4 l4
        rw [List.take_length] at a4
        walk_at "go"
        refine ⟨N, ys, rfl, .inl ⟨SqL.of e4, fun u nu => ?_⟩⟩
        have su := same_upd (o := .tup ys) nu
        obtain ⟨h0, h1, eh, nh, hc, hcl⟩ := C.h.cons
        have ees : ∃ et, es = h0 :: et := by
          cases es with
          | nil => rw [eh] at l4; cases l4
          | cons a b =>
            have := h4 a rfl
            rw [eh] at this
            cases this
            exact ⟨b, rfl⟩
        obtain ⟨et, rfl⟩ := ees
        have ok : OkR (h0 :: et) := ⟨n4, cls_ar a4 C.h.2.1, by rw [l4]; exact h9, fun d hd2 => by cases hd2; exact ⟨hc, hcl⟩⟩
        have gg : isGr (h0 :: et) = true := by
          have := C.g
          rw [eh] at this
          exact this
        exact q (.ref u) (h0 :: et) _ ok gg (b4.trans (But.of su)) (S4.keep su) (.tup (SqT.of upd_same) (dp_sameAll su _ _ d4))

theorem ok_unify {f : Addr} {fd : FuncData} (F : Fun K "unify" "unify" s_unify f fd) (E : Bi K mg) (D_unify_within : HasX P w K mg base 5 "unify_within" ["left", "right", "most"] (sp_unify_within K)) : FnOk P w K mg base (L2.CX P w) 6 f fd ["left", "right"] (sp_unify K) := by
  obtain ⟨f_unify_within, fd_unify_within, G_unify_within, g_unify_within, kp_unify_within, b_unify_within⟩ := D_unify_within
  refine F.okX sc_unify (fun vs H Q E h => ?_) (fun cdv A outer s H vs Q E' hr h => ?_)
  · obtain ⟨x, y, L, R, k, s, rfl, _⟩ := h
    rfl
  · obtain ⟨x, y, L, R, k, s, rfl, dx, dy, tl, tr, l1, l2, eg, k1, q⟩ := h
    refine ⟨_, (pss_one (ps_ret (pe_callS G_unify_within (hr.mono (by decide)) (by rfl) g_unify_within kp_unify_within b_unify_within (fun σ => passAt (takes_of rfl rfl rfl rfl) σ) (pa_cons (pv 0) (pa_cons (pv 1) (pa_cons (pe_gC (by rfl) E.c_MOST_NODES) pa_nil)))))), ?_⟩
    refine st_of (σ := [some _, some _]) rfl ?_
    walk_at "go"
    exact ⟨x, y, L, R, 200, k, s, rfl, dx, dy, tl, tr, l1, l2, by decide, by decide, eg, k1, q⟩

theorem ok__law_program {f : Addr} {fd : FuncData} (F : Fun K "_law_program" "_law_program" s__law_program f fd) (E : Bi K mg) (D__law_draw : Has P w K mg base 1 "_law_draw" ["stream", "many"] (sp__law_draw K)) (D__law_known : Has P w K mg base 3 "_law_known" ["stream", "which"] (sp__law_known K)) (D__law_clause : Has P w K mg base 5 "_law_clause" ["stream"] (sp__law_clause K)) : FnOk P w K mg base CX0 6 f fd ["stream"] (sp__law_program K) := by
  obtain ⟨f__law_draw, fd__law_draw, G__law_draw, g__law_draw, kp__law_draw, b__law_draw⟩ := D__law_draw
  obtain ⟨f__law_known, fd__law_known, G__law_known, g__law_known, kp__law_known, b__law_known⟩ := D__law_known
  obtain ⟨f__law_clause, fd__law_clause, G__law_clause, g__law_clause, kp__law_clause, b__law_clause⟩ := D__law_clause
  refine F.ok sc__law_program (fun vs H Q E h => ?_) (fun cdv A outer s H vs Q E' hr h => ?_)
  · obtain ⟨s, l, rfl, _⟩ := h
    rfl
  · obtain ⟨s, l, rfl, hS, q⟩ := h
    have n9 : (2 : Nat) ^ 8 ≤ 2 ^ 9000 := Nat.pow_le_pow_right (by decide) (by decide)
    refine ⟨_, (pss_cons (ps_if (pt_cmpR op_eq (pe_call G__law_draw (hr.mono (by decide)) (by rfl) g__law_draw kp__law_draw b__law_draw .nil pass0 (pa_cons (pv 0) (pa_cons pe_int pa_nil))) pe_int (nomark _)) (pss_cons (ps_set (i := 1) sc__law_program.nd rfl (Or.inl rfl) (pe_call G__law_known (hr.mono (by decide)) (by rfl) g__law_known kp__law_known b__law_known .nil pass0 (pa_cons (pv 0) (pa_cons (pe_call G__law_draw (hr.mono (by decide)) (by rfl) g__law_draw kp__law_draw b__law_draw .nil pass0 (pa_cons (pv 0) (pa_cons pe_int pa_nil))) pa_nil))))
      (pss_cons (ps_if (pt_cmpR op_eq (pe_call G__law_draw (hr.mono (by decide)) (by rfl) g__law_draw kp__law_draw b__law_draw .nil pass0 (pa_cons (pv 0) (pa_cons pe_int pa_nil))) pe_int (nomark _)) (pss_one (ps_expr (pe_bm PySem.F.plainAttrs_list PySem.F.slot_list_append PySem.F.type_list_append mt_append (pv 1) (pa_cons (pe_call G__law_clause (hr.mono (by decide)) (by rfl) g__law_clause kp__law_clause b__law_clause .nil pass0 (pa_cons (pv 0) pa_nil)) pa_nil)))) pss_nil)
      (pss_one (ps_ret (pv 1))))) pss_nil)
      (pss_one (ps_ret (pe_lc (own := [("k", 2)]) (g := gName 2) (tt := tYes) rfl sc__law_program.nd (pi_range1 (by rfl) E.b_range (pa_cons (pe_op op_add pe_int (pe_call G__law_draw (hr.mono (by decide)) (by rfl) g__law_draw kp__law_draw b__law_draw .nil pass0 (pa_cons (pv 0) (pa_cons pe_int pa_nil)))) pa_nil)) (blkOk_by (N := N__law_program) (sc := defScope s__law_program) (by decide +kernel)) (fun _ _ _ _ _ => pg_name (i := 2) sc__law_program.nd rfl (Or.inl rfl)) (fun _ _ _ _ _ => pts_nil) (fun _ _ _ _ _ => (pe_call G__law_clause (hr.mono (by decide)) (by rfl) g__law_clause kp__law_clause b__law_clause .nil pass0 (pa_cons (pv 0) pa_nil))))))), ?_⟩
    refine st_of (σ := [some _, none, none]) rfl ?_
    walk_at "go"
    refine ⟨s, l, 3, rfl, hS, by decide, Nat.lt_of_lt_of_le (by decide) n9, fun c0 H1 c00 c01 b1 S1 => ?_⟩
    walk_at "go"
    refine ite2 (fun e => ?_) (fun e => ?_)
    · walk_at "go"
      refine ⟨s, l, 4, rfl, S1, by decide, Nat.lt_of_lt_of_le (by decide) n9, fun c1 H2 c10 c11 b2 S2 => ?_⟩
      walk_at "go"
      refine ⟨s, l, c1, rfl, S2, c10, c11, fun r ys ps H3 ok lp1 lp2 nr rs e3 b3 S3 d3 => ?_⟩
      have b12 := b1.trans b2
      have nrH : H r = Option.none := by
        cases hh : H r with
        | none => rfl
        | some o => rw [b12 r o rs hh] at nr; cases nr
      have b13 := b12.trans b3
      walk_at "go"
      refine ⟨s, l, 2, rfl, S3, by decide, Nat.lt_of_lt_of_le (by decide) n9, fun c2 H4 c20 c21 b4 S4 => ?_⟩
      have e4 := b4 _ _ rs e3
      have d4 := dp_butAll S3 b4 ok.nd d3
      walk_at "go"
      refine ite2 (fun e => ?_) (fun e => ?_)
      · walk_at "go"
        refine tyl (SqL.of e4) ?_
        walk_at "go"
        refine ⟨s, l, rfl, S4, fun v ds hd rows H5 C b5 S5 d5 => ?_⟩
        walk_at "go"
        have e5 := b5 _ _ rs e4
        have nt : notTup H5 r := .inl ⟨_, e5⟩
        have ly := DpAll.len d4
        rw [List.length_map] at ly
        obtain ⟨ol, hol⟩ := S1.at_l
        have lr : l ≠ r := fun z => by
          obtain ⟨ol2, hol2⟩ := (show ∃ o, H2 l = some o from S2.at_l)
          rw [z, nr] at hol2
          cases hol2
        refine ⟨_, _, _, rfl, rfl, e5, Nat.lt_of_le_of_lt (show _ ≤ 100000 by omega) (by decide), ?_⟩
        walk_at "go"
        refine q r _ (ps ++ [ds]) _ (fun p hp => ?_) (by rw [List.length_append]; show 0 < _ + 1; omega) (by rw [List.length_append]; show _ + 1 ≤ 8; omega) nrH rs upd_same (fun b o hb e => ?_) (S5.put rs.symm lr) ?_
        · rcases List.mem_append.mp hp with hp | hp
          · exact ok p hp
          · rw [List.mem_singleton.mp hp]
            exact ⟨hd, rows, C⟩
        · rw [upd_ne (fun z => by rw [z, nrH] at e; cases e)]
          exact b5 _ _ hb (b4 _ _ hb (b13 _ _ hb e))
        · rw [List.map_append]
          exact dpAll_end (dp_putAll nt _ _ ok.nd.noL (dp_butAll S4 b5 ok.nd d4)) (dp_put nt _ _ (tup_noL C.nd) d5)
      · walk_at "go"
        exact q r ys ps H4 ok lp1 (by omega) nrH rs e4 (b13.trans b4) S4 d4
    · walk_at "go"
      refine ⟨s, l, 5, rfl, S1, by decide, Nat.lt_of_lt_of_le (by decide) n9, fun c1 H2 c10 c11 b2 S2 => ?_⟩
      walk_at "go"
      have b02 := b1.trans b2
      refine ⟨_, rfl, by omega, by omega, fun D nD => ?_⟩
      obtain ⟨os4, hos4⟩ := S2.at_s
      have Ds : D ≠ s := fun z => by rw [z, hos4] at nD; cases nD
      obtain ⟨ol4, hol4⟩ := S2.at_l
      have lD : l ≠ D := ne_of_none hol4 nD
      have hDH : H D = Option.none := by
        cases hh : H D with
        | none => rfl
        | some o => rw [b02 D o Ds hh] at nD; cases nD
      have sD := same_upd (o := .lst []) nD
      refine lc_it (n := (1 + c1).toNat) walk_range (fun i H' => ∃ (xs : List V) (ps : List (List PyData)), H' D = some (.lst xs) ∧ DpAll K H' xs (ps.map PyData.tuple) ∧ ClsL ps ∧ ps.length = i ∧ But s H H' ∧ Stm H' s l)
        ⟨[], [], upd_same, .nil, (fun r hr => nomatch hr), rfl, b02.trans (But.of sD), S2.keep sD⟩ (fun _ _ _ _ => trivial) ?_ ?_
      · rintro i z H5 H6 hi ⟨xs, ps, e5, d5, ok5, l5, b5, S5⟩ ⟨rfl, rfl⟩
        have lxs := DpAll.len d5
        rw [List.length_map] at lxs
        walk_at "wp"
        show gName 2 (V.int ((0 : Int) + (i : Int))) _ _ _
        rw [Int.zero_add]
        walk_at "go"
        refine ⟨rfl, ?_⟩
        walk_at "go"
        refine ⟨s, l, rfl, S5, fun v ds hd rows H7 C b7 S7 d7 => ?_⟩
        have e7 := b7 _ _ Ds e5
        have nt : notTup H7 D := .inl ⟨_, e7⟩
        refine ⟨xs, e7, Nat.lt_of_le_of_lt (show _ ≤ 100000 by omega) (by decide), xs ++ [v], ps ++ [ds], upd_same, ?_, fun p hp => ?_, by rw [List.length_append, l5]; rfl, fun c o hc e => ?_, S7.put Ds.symm lD⟩
        · rw [List.map_append]
          exact dpAll_end (dp_putAll nt _ _ ok5.nd.noL (dp_butAll S5 b7 ok5.nd d5)) (dp_put nt _ _ (tup_noL C.nd) d7)
        · rcases List.mem_append.mp hp with hp | hp
          · exact ok5 p hp
          · rw [List.mem_singleton.mp hp]
            exact ⟨hd, rows, C⟩
        · rw [upd_ne (fun z => by rw [z, hDH] at e; cases e)]
          exact b7 c o hc (b5 c o hc e)
      · rintro H5 ⟨xs, ps, e5, d5, ok5, l5, b5, S5⟩
        exact q D xs ps H5 ok5 (by omega) (by omega) hDH Ds e5 b5 S5 d5

theorem ok_resolved {f : Addr} {fd : FuncData} (F : Fun K "resolved" "resolved" s_resolved f fd) (E : Bi K mg) (D_renamed : Has P w K mg base 4 "renamed" ["clause", "first"] (sp_renamed K)) (D_next_number : Has P w K mg base 2 "next_number" ["terms"] (sp_next_number K)) (D_unify : HasX P w K mg base 6 "unify" ["left", "right"] (sp_unify K)) (D_apply : Has P w K mg base 2 "apply" ["substitution", "term"] (sp_apply K)) (D_check_size : HasX P w K mg base 1 "check_size" ["size", "most"] (sp_check_size K)) (D_renumber_together : HasD P w K mg base 3 "renumber_together" ["terms", "first"] [V.int 0] (sp_renumber_together K)) : FnOk P w K mg base (L2.CX P w) 7 f fd ["query", "goals", "pick", "pair"] (sp_resolved K) := by
  obtain ⟨f_renamed, fd_renamed, G_renamed, g_renamed, kp_renamed, b_renamed⟩ := D_renamed
  obtain ⟨f_next_number, fd_next_number, G_next_number, g_next_number, kp_next_number, b_next_number⟩ := D_next_number
  obtain ⟨f_unify, fd_unify, G_unify, g_unify, kp_unify, b_unify⟩ := D_unify
  obtain ⟨f_apply, fd_apply, G_apply, g_apply, kp_apply, b_apply⟩ := D_apply
  obtain ⟨f_check_size, fd_check_size, G_check_size, g_check_size, kp_check_size, b_check_size⟩ := D_check_size
  obtain ⟨f_renumber_together, fd_renumber_together, G_renumber_together, g_renumber_together, kp_renumber_together, ⟨ds_renumber_together, v_renumber_together, b_renumber_together⟩, ⟨df_renumber_together, vf_renumber_together, bf_renumber_together⟩⟩ := D_renumber_together
  refine F.okX sc_resolved (fun vs H Q E h => ?_) (fun cdv A outer s H vs Q E' hr h => ?_)
  · obtain ⟨x, q, a, gs, p, c, b, hv, hd, os, g, h, k, s, rfl, _⟩ := h
    rfl
  · obtain ⟨x, q, a, gs, p, c, b, hv, hd, os, g, h, k, s, rfl, dx, ⟨xs, hs, ha⟩, sc, dh, tb, I, Qq⟩ := h
    refine ⟨_, (pss_cons (ps_if (pt_cmpR (show OpR _ (compareOp .NotEq) (rNeD K) from op_neD hr.units) (pe_ix ix_tup (pe_ix ix_list (pv 1) (pv 2) (fun _ _ => rfl)) pe_int (fun _ _ => rfl)) (pe_ix ix_tup (pe_ix ix_tup (pv 3) pe_int (fun _ _ => rfl)) pe_int (fun _ _ => rfl)) (nomark _)) (pss_one (ps_ret pe_non)) pss_nil)
      (pss_cons (ps_asg (pe_call G_renamed (hr.mono (by decide)) (by rfl) g_renamed kp_renamed b_renamed .nil pass0 (pa_cons (pv 3) (pa_cons (pe_call G_next_number (hr.mono (by decide)) (by rfl) g_next_number kp_next_number b_next_number .nil pass0 (pa_cons (pe_lst (pa_cons (pv 0) (pa_star (pv 1) pa_nil))) pa_nil)) pa_nil))) (pg_tup rfl (pgs_cons (pg_name (i := 4) sc_resolved.nd rfl (Or.inl rfl)) (pgs_cons (pg_name (i := 5) sc_resolved.nd rfl (Or.inl rfl)) pgs_nil))))
      (pss_cons (ps_set (i := 6) sc_resolved.nd rfl (Or.inr rfl) (pe_callS G_unify (hr.mono (by decide)) (by rfl) g_unify kp_unify b_unify (fun σ => passAt (takes_of rfl rfl rfl rfl) σ) (pa_cons (pe_ix ix_list (pv 1) (pv 2) (fun _ _ => rfl)) (pa_cons (pv 4) pa_nil))))
      (pss_cons (ps_if (pt_cmpR op_isN (pv 6) pe_non (nomark _)) (pss_one (ps_ret pe_non)) pss_nil)
      (pss_cons (ps_setLc (i := 7) (own := [("term", 8)]) (g := gName 8) (tt := tYes) rfl sc_resolved.nd rfl rfl (by rfl) (pi_list (pe_lst (pa_cons (pv 0) (pa_star (pe_slice sl_list (pv 1) po_none (po_some (pv 2))) (pa_star (pv 5) (pa_star (pe_slice sl_list (pv 1) (po_some (pe_op op_add (pv 2) pe_int)) po_none) pa_nil)))))) (blkOk_by (N := N_resolved) (sc := defScope s_resolved) (by decide +kernel)) (fun _ _ _ _ _ => pg_name (i := 8) sc_resolved.nd rfl (Or.inl rfl)) (fun _ _ _ _ _ => pts_nil) (fun _ _ _ _ _ => (pe_call G_apply (hr.mono (by decide)) (by rfl) g_apply kp_apply b_apply .nil pass0 (pa_cons (pv 6) (pa_cons (pv 8) pa_nil)))))
      (pss_cons (ps_expr (pe_callS G_check_size (hr.mono (by decide)) (by rfl) g_check_size kp_check_size b_check_size (fun σ => passAt (takes_of rfl rfl rfl rfl) σ) (pa_cons (pe_callB (cr_max rfl) (by rfl) E.b_max (by decide +kernel) (pa_cons (pe_lc (own := [("term", 8)]) (g := gName 8) (tt := tYes) rfl sc_resolved.nd (pi_list (pv 7)) (blkOk_by (N := N_resolved) (sc := defScope s_resolved) (by decide +kernel)) (fun _ _ _ _ _ => pg_name (i := 8) sc_resolved.nd rfl (Or.inl rfl)) (fun _ _ _ _ _ => pts_nil) (fun _ _ _ _ _ => (pe_callB (show CallR _ (.builtin "len") (fun xs H Q => ∃ p ys, xs = [V.ref p] ∧ (SqL K H p ys ∨ SqT K H p ys) ∧ Q (V.int ys.length) H) from call_len_seq) (by rfl) E.b_len PySem.boot_len (pa_cons (pv 8) pa_nil)))) pa_nil)) (pa_cons (pe_gC (by rfl) E.c_MOST_NODES) pa_nil))))
      (pss_cons (ps_set (i := 7) sc_resolved.nd rfl (Or.inl rfl) (pe_call G_renumber_together (hr.mono (by decide)) (by rfl) g_renumber_together kp_renumber_together b_renumber_together v_renumber_together pass0 (pa_cons (pv 7) pa_nil)))
      (pss_one (ps_ret (pe_tup (pa_cons (pe_ix ix_list (pv 7) pe_int (fun _ _ => rfl)) (pa_cons (pe_slice sl_list (pv 7) (po_some pe_int) po_none) pa_nil)))))))))))), ?_⟩
    refine st_of (σ := [some _, some _, some _, some _, none, none, none, none, none]) rfl ?_
    walk_at "go"
    have eh := I.hh
    rw [rowM_head] at eh
    cases eh
    obtain ⟨vg, hvg, dvg⟩ := DpAll.get (i := p) ha (by rw [List.getElem?_map, I.at_]; rfl)
    have lg := DpAll.len ha
    rw [List.length_map] at lg
    obtain ⟨g0, gr, rfl⟩ : ∃ g0 gr, g = g0 :: gr := by
      cases g with
      | nil => exact absurd rfl I.tg.ne
      | cons a b => exact ⟨_, _, rfl⟩
    obtain ⟨h0, hr', rfl⟩ : ∃ h0 hr', hd = h0 :: hr' := by
      cases hd with
      | nil => exact absurd rfl I.th.ne
      | cons a b => exact ⟨_, _, rfl⟩
    have gv := I.gv g0 rfl
    have hv' := I.hv h0 rfl
    have ng : NdA g0 := I.tg.2 _ (.head _)
    have nh : NdA h0 := I.ndr _ (.head _) _ (.head _)
    obtain ⟨ag, ws, rfl, sg, ag2⟩ := dp_tup dvg
    obtain ⟨w0, hw0, dw0⟩ := DpAll.get (i := 0) ag2 rfl
    obtain ⟨ah, us, rfl, sh, ah2⟩ := dp_tup dh
    obtain ⟨u0, hu0, du0⟩ := DpAll.get (i := 0) ah2 rfl
    refine ixL (j := p) hs hvg ?_
    walk_at "go"
    refine ixT (j := 0) sg hw0 ?_
    walk_at "go"
    refine ixT (j := 0) sc rfl ?_
    walk_at "go"
    refine ixT (j := 0) sh hu0 ?_
    walk_at "go"
    have eh0 : mapD (gN (nxt (q :: gs).flatten) ((h0 :: hr') :: os).flatten) h0 = h0 := by unfold mapD; rw [hv']; rfl
    refine ⟨g0, h0, dw0, du0, nd_shaped ng, nd_shaped nh, _, rfl, ite2 (fun e => ?_) (fun e => ?_)⟩
    · have ne : g0 ≠ h0 := fun w => by rw [(eq_nd ng nh).mpr w] at e; cases e
      have eg := I.eg
      rw [List.map_cons, eh0] at eg
      have := eg_clash eg ne gv hv'
      subst this
      walk_at "go"
      exact Qq _ (Same.refl H)
    · walk_at "go"
      refine g_star ?_
      walk_at "go"
      refine ⟨a, xs, rfl, .inr hs, ?_⟩
      walk_at "go"
      refine newN (n := gs.length + 1) (by rw [List.append_nil, List.length_cons, lg]) (by have := I.lg; omega) fun R nR => ?_
      walk_at "go"
      have szq : szT (q :: gs) ≤ 100000 := szT_mul (m := 21) (fun t ht => I.sz t (List.mem_append_left _ ht)) (by have := I.lg; rw [List.length_cons]; omega)
      have sR := same_upd (o := .lst (x :: (xs ++ []))) nR
      refine ⟨R, q :: gs, rfl, ⟨_, SqL.of upd_same, ?_⟩, I.nd, szq, by have := I.lg; rw [List.length_cons]; omega, fun H2 s2 => ?_⟩
      · refine .cons (dp_same sR _ _ dx) ?_
        rw [List.append_nil] at sR ⊢
        exact dp_sameAll sR _ _ ha
      walk_at "go"
      have s02 := sR.trans s2
      have szh : szT ((h0 :: hr') :: os) ≤ 100000 := szT_mul (m := 201) (fun t ht => I.sz t (List.mem_append_right _ ht)) (by have := I.lo; rw [List.length_cons]; omega)
      refine ⟨c, b, .ref ah, h0 :: hr', os, _, rfl, same_sqT s02 sc, dp_same s02 _ _ dh, tb.same s02, I.ndr, szh, by have := I.lo; omega, fun c2 b2 v2 H3 s3 nb2 e3 d3 ⟨zs, e4, d4⟩ => ?_⟩
      refine g_gtup (K := K) (SqT.of e3) rfl ?_
      walk_at "go"
      have s03 := s02.trans s3
      refine ixL (j := p) (same_sqL s03 hs) hvg ?_
      walk_at "go"
      have dg3 := dp_same s03 _ _ dvg
      have lgl : (g0 :: gr).length ≤ 200 := I.sz _ (List.mem_append_left _ (List.mem_cons_of_mem _ (List.mem_of_getElem? I.at_)))
      have lhl : (h0 :: hr').length ≤ 200 := I.sz _ (List.mem_append_right _ (.head _))
      refine ⟨.ref ag, v2, _, _, k, s, rfl, dg3, d3, I.tg, I.th, by omega, by rw [List.length_map]; omega, I.eg, I.k1, ?_⟩
      cases s with
      | non =>
        intro H4 s4
        walk_at "go"
        refine ⟨rfl, ?_⟩
        walk_at "go"
        exact Qq _ (s03.trans s4)
      | big => exact fun H4 s4 => Qq _ (s03.trans s4)
      | tab T =>
        intro d H4 s4 nd4 f4
        have s04 := s03.trans s4
        walk_at "go"
        refine ⟨rfl, ?_⟩
        walk_at "go"
        refine iteF ?_
        walk_at "go"
        refine g_star ?_
        walk_at "go"
        refine ⟨a, xs, rfl, same_sqL s04 hs, fun P1 nP1 => ?_⟩
        have sP1 := same_upd (o := .lst (cutV xs Option.none (some (p : Int)))) nP1
        refine ⟨P1, _, rfl, .inr (SqL.of upd_same), ?_⟩
        refine g_star ?_
        walk_at "go"
        refine ⟨b2, zs, rfl, .inr (SqL.of (sP1 _ _ (s4 _ _ e4))), ?_⟩
        refine g_star ?_
        walk_at "go"
        refine ⟨a, xs, rfl, same_sqL (s04.trans sP1) hs, fun P2 nP2 => ?_⟩
        have sP2 := same_upd (o := .lst (cutV xs (some ((p : Int) + 1)) Option.none)) nP2
        refine ⟨P2, _, rfl, .inr (SqL.of upd_same), ?_⟩
        walk_at "go"
        have hp := (List.getElem?_eq_some_iff.mp hvg).1
        rw [cut_take xs p (by omega)] at sP1 sP2 ⊢
        rw [show ((p : Int) + 1) = ((p + 1 : Nat) : Int) from rfl, cut_drop xs (p + 1) (by omega)] at sP2 ⊢
        rw [List.append_nil]
        have s06 := s04.trans (sP1.trans sP2)
        have s46 := sP1.trans sP2
        have dall : DpAll K (upd (upd H4 P1 (HO.lst (List.take p xs))) P2 (HO.lst (List.drop (p + 1) xs))) (x :: (xs.take p ++ (zs ++ xs.drop (p + 1)))) ((q :: (gs.take p ++ (rowM q gs (h0 :: hr') os).tail ++ gs.drop (p + 1))).map PyData.tuple) := by
          rw [List.map_cons, List.map_append, List.map_append, List.append_assoc, List.map_take, List.map_drop]
          exact .cons (dp_same s06 _ _ dx) (DpAll.app (DpAll.taket _ (dp_sameAll s06 _ _ ha)) (DpAll.app (dp_sameAll (s4.trans s46) _ _ d4) (DpAll.dropt _ (dp_sameAll s06 _ _ ha))))
        have f6 := f4.same' (eg_tab I.eg (sol_zero I.tg I.th) T rfl).1.nd s46
        have ndT : NdT (q :: (gs.take p ++ (rowM q gs (h0 :: hr') os).tail ++ gs.drop (p + 1))) := I.ndAll
        have nall := I.lenAll
        have hB : max 200 (max (g0 :: gr).length (List.map (mapD (gN (nxt (q :: gs).flatten) ((h0 :: hr') :: os).flatten)) (h0 :: hr')).length) = 200 := by rw [List.length_map]; omega
        have tsm : ∀ q ∈ T, q.2.length ≤ 200 := by
          have := eg_small I.eg (sol_zero I.tg I.th) (by omega) (by omega) T rfl
          rw [hB] at this
          exact this
        have neT : q :: (gs.take p ++ (rowM q gs (h0 :: hr') os).tail ++ gs.drop (p + 1)) ≠ [] := List.cons_ne_nil _ _
        have tab := eg_tab I.eg (sol_zero I.tg I.th) T rfl
        have s4b := s4.trans s46
        have e6 := s4b _ _ e3
        unfold resQ at Qq
        unfold nextT at Qq
        generalize q :: (gs.take p ++ (rowM q gs (h0 :: hr') os).tail ++ gs.drop (p + 1)) = TS at dall ndT nall neT Qq
        generalize x :: (xs.take p ++ (zs ++ xs.drop (p + 1))) = ws at dall ⊢
        clear s46 sP1 sP2
        generalize (upd (upd H4 P1 (HO.lst (List.take p xs))) P2 (HO.lst (List.drop (p + 1) xs))) = H6 at dall f6 s06 s4b e6 ⊢
        have lws := DpAll.len dall
        rw [List.length_map] at lws
        refine newN (n := TS.length) lws (by have := nall.1; omega) fun W nW => ?_
        have sW := same_upd (o := .lst ws) nW
        have s0W := s06.trans sW
        have dallW := dp_sameAll sW _ _ dall
        have fW := f6.same' tab.1.nd sW
        have eW : (upd H6 W (.lst ws)) W = some (.lst ws) := upd_same
        generalize upd H6 W (.lst ws) = H7 at sW s0W dallW fW eW ⊢
        refine ⟨W, rfl, ⟨_, SqL.of eW⟩, fun D nD => ?_⟩
        refine lc_it walk_list (fun i H' => Same H7 H' ∧ ∃ ys, H' D = some (.lst ys) ∧ DpAll K H' ys (((TS.map (appM T)).take i).map PyData.tuple)) ⟨same_upd nD, [], upd_same, .nil⟩ (fun i H' _ h => same_sqL h.1 (SqL.of eW)) ?_ ?_
        · rintro i z H8 H9 hi ⟨s8, ys, e8, d8⟩ ⟨rfl, hz⟩
          obtain ⟨dd, hd', dz0⟩ := DpAll.getV dallW hz
          rw [List.getElem?_map] at hd'
          obtain ⟨t, ht, rfl⟩ := Option.map_eq_some_iff.mp hd'
          walk_at "wp"
          walk_at "go"
          refine ⟨rfl, ?_⟩
          walk_at "go"
          refine ⟨d, T, z, t, rfl, fW.same' tab.1.nd s8, tab.1, dp_same s8 _ _ dz0, ndT t (List.mem_of_getElem? ht), Nat.le_trans (app_le (by decide) tsm t) (Nat.le_trans (Nat.mul_le_mul (nall.2 t (List.mem_of_getElem? ht)) (Nat.le_refl 200)) (by decide)), fun v H10 s10 d10 => ?_⟩
          have e10 := s10 _ _ e8
          have ly := DpAll.len d8
          rw [List.length_map, List.length_take, List.length_map] at ly
          have nt : notTup H10 D := .inl ⟨_, e10⟩
          have g2 : (TS.map (appM T))[i]? = some (appM T t) := by rw [List.getElem?_map, ht]; rfl
          have ndN : NdT (TS.map (appM T)) := fun u hu => by
            obtain ⟨t, ht, rfl⟩ := List.mem_map.mp hu
            exact appM_nd tab.1.nd (ndT t ht)
          refine ⟨ys, e10, Nat.lt_of_le_of_lt (show _ ≤ 100000 by have := nall.1; omega) (by decide), same_new nD (s8.trans s10), ys ++ [v], upd_same, ?_⟩
          rw [List.take_add_one, g2, List.map_append]
          exact dpAll_end (dp_putAll nt _ _ (NdT.noL fun x hx => ndN x (List.mem_of_mem_take hx)) (dp_sameAll s10 _ _ d8)) (dp_put nt _ _ (tup_noL (ndN _ (List.mem_of_getElem? g2))) d10)
        · rintro H8 ⟨s8, ys, e8, d8⟩
          rw [lws, ← List.length_map (appM T), List.take_length] at d8
          have ndN := (show NdT (TS.map (appM T)) from fun u hu => by
            obtain ⟨t, ht, rfl⟩ := List.mem_map.mp hu
            exact appM_nd tab.1.nd (ndT t ht))
          have lN : (TS.map (appM T)).length ≤ 300 := by rw [List.length_map]; exact nall.1
          have big : ∀ u ∈ TS.map (appM T), u.length ≤ 40000 := fun u hu => by
            obtain ⟨t, ht, rfl⟩ := List.mem_map.mp hu
            exact Nat.le_trans (app_le (by decide) tsm t) (Nat.mul_le_mul (nall.2 t ht) (Nat.le_refl 200))
          have neN : TS.map (appM T) ≠ [] := by
            rw [ne_eq, List.map_eq_nil_iff]
            exact neT
          obtain ⟨NS, hNS⟩ : ∃ NS, NS = TS.map (appM T) := ⟨_, rfl⟩
          simp only [← hNS] at d8 Qq ndN lN big neN
          have s08 := s0W.trans s8
          clear dall dallW
          have ly := DpAll.len d8
          rw [List.length_map] at ly
          walk_at "go"
          refine ⟨D, rfl, ⟨_, SqL.of e8⟩, fun D2 nD2 => ?_⟩
          refine lc_it walk_list (fun i H' => Same H8 H' ∧ H' D2 = some (.lst ((NS.take i).map fun t => V.int (t.length : Nat)))) ⟨same_upd nD2, upd_same⟩ (fun i H' _ h => same_sqL h.1 (SqL.of e8)) ?_ ?_
          · rintro i z H9 H10 hi ⟨s9, e9⟩ ⟨rfl, hz⟩
            obtain ⟨dd, hd', dz0⟩ := DpAll.getV d8 hz
            rw [List.getElem?_map] at hd'
            obtain ⟨t, ht, rfl⟩ := Option.map_eq_some_iff.mp hd'
            obtain ⟨az, us', rfl, sz, az2⟩ := dp_tup (dp_same s9 _ _ dz0)
            have lz := DpAll.len az2
            walk_at "wp"
            walk_at "go"
            refine ⟨rfl, ?_⟩
            walk_at "go"
            refine ⟨az, us', rfl, .inr sz, ?_⟩
            refine ⟨_, e9, Nat.lt_of_le_of_lt (show _ ≤ 100000 by rw [List.length_map, List.length_take]; omega) (by decide), same_new nD2 s9, ?_⟩
            rw [upd_same, List.take_add_one, ht, List.map_append, lz]
            rfl
          · rintro H9 ⟨s9, e9⟩
            rw [ly, List.take_length] at e9
            walk_at "go"
            have e9' : H9 D2 = some (.lst ((NS.map fun t => ((t.length : Nat) : Int)).map V.int)) := by rw [e9, List.map_map]; rfl
            refine ⟨D2, NS.map fun t => ((t.length : Nat) : Int), rfl, SqL.of e9', by rw [List.length_map]; exact List.length_pos_iff.mpr neN, fun m hm hmax => ?_⟩
            walk_at "go"
            have s89 := s9
            have sH9 := s08.trans s9
            refine ⟨m, 200, rfl, rfl, fun le H10 s10 => ?_, fun gt H10 s10 => ?_⟩
            · have nw : ¬ wide NS := fun ⟨t, ht, w⟩ => by
                have := hmax _ (List.mem_map.mpr ⟨t, ht, rfl⟩)
                omega
              walk_at "go"
              have s8_10 := s9.trans s10
              refine ⟨D, NS, 0, rfl, ⟨ys, SqL.of (s8_10 _ _ e8), dp_sameAll s8_10 _ _ d8⟩, ndN, szT_mul (m := 300) (fun t ht => Nat.le_of_not_lt fun w => nw ⟨t, ht, w⟩) lN, by omega, fun R3 H11 ys3 s11 nR3 e11 d11 => ?_⟩
              walk_at "go"
              obtain ⟨t0, tr, e0⟩ : ∃ t0 tr, renT 0 NS = t0 :: tr := by
                cases hr2 : renT 0 NS with
                | nil => rw [renT, List.map_eq_nil_iff] at hr2; exact absurd hr2 neN
                | cons a b => exact ⟨_, _, rfl⟩
              have Q2 := Qq.2 nw
              rw [e0] at d11 Q2
              rw [List.map_cons] at d11
              obtain ⟨v0, vr, rfl, dv, dr⟩ : ∃ v0 vr, ys3 = v0 :: vr ∧ Dp K H11 v0 (.tuple t0) ∧ DpAll K H11 vr (tr.map PyData.tuple) := by
                cases d11 with
                | cons a b => exact ⟨_, _, rfl, a, b⟩
              refine ixL (j := 0) (SqL.of e11) rfl ?_
              walk_at "go"
              refine ⟨R3, _, rfl, SqL.of e11, fun p3 np3 => ?_⟩
              walk_at "go"
              refine newN (n := 2) rfl (by decide) fun p2 np2 => ?_
              have sp := same_upd (o := .lst (cutV (v0 :: vr) (some (1 : Int)) Option.none)) np3
              have sp2 := same_upd (o := .tup [v0, .ref p3]) np2
              have pp2 : p3 ≠ p2 := fun z => by rw [← z, upd_same] at np2; cases np2
              refine Q2 p2 v0 p3 vr _ (((sH9.trans s10).trans s11).trans (sp.trans sp2)) upd_same (dp_same (sp.trans sp2) _ _ dv) ?_ (dp_sameAll (sp.trans sp2) _ _ dr)
              rw [upd_ne pp2, upd_same]
              show some (HO.lst (cutV (v0 :: vr) (some ((1 : Nat) : Int)) Option.none)) = _
              rw [cut_drop (v0 :: vr) 1 (by rw [List.length_cons]; omega)]
              rfl
            · refine Qq.1 ?_ _ (sH9.trans s10)
              obtain ⟨t, ht, e⟩ := List.mem_map.mp hm
              exact ⟨t, ht, by omega⟩

theorem ok_resolve {f : Addr} {fd : FuncData} (F : Fun K "resolve" "resolve" s_resolve f fd) (E : Bi K mg) (D_check_goal : HasX P w K mg base 2 "check_goal" ["term"] (sp_check_goal K)) (D_resolved : HasX P w K mg base 7 "resolved" ["query", "goals", "pick", "pair"] (sp_resolved K)) (D_head_and_goals : HasX P w K mg base 5 "head_and_goals" ["clause"] (sp_head_and_goals K)) : FnOk P w K mg base (L2.CX P w) 8 f fd ["query", "goals", "pick", "clause"] (sp_resolve K) := by
  obtain ⟨f_check_goal, fd_check_goal, G_check_goal, g_check_goal, kp_check_goal, b_check_goal⟩ := D_check_goal
  obtain ⟨f_resolved, fd_resolved, G_resolved, g_resolved, kp_resolved, b_resolved⟩ := D_resolved
  obtain ⟨f_head_and_goals, fd_head_and_goals, G_head_and_goals, g_head_and_goals, kp_head_and_goals, b_head_and_goals⟩ := D_head_and_goals
  refine F.okX sc_resolve (fun vs H Q E h => ?_) (fun cdv A outer s H vs Q E' hr h => ?_)
  · obtain ⟨x, q, a, gs, p, y, d, r, rows, m, g, h, k, s, rfl, _⟩ := h
    rfl
  · obtain ⟨x, q, a, gs, p, y, d, r, rows, m, g, h, k, s, rfl, dx, ⟨q0, qr, rfl, nq, gq⟩, ⟨xs, hs, ha⟩, hg, dy, nd, hc, hr1, hr2, hf, hcl, hl, g1, g2, I, Qq⟩ := h
    refine ⟨_, (pss_cons (ps_expr (pe_callS G_check_goal (hr.mono (by decide)) (by rfl) g_check_goal kp_check_goal b_check_goal (fun σ => passAt (takes_of rfl rfl rfl rfl) σ) (pa_cons (pv 0) pa_nil)))
      (pss_cons (ps_for (passes_of rfl) rfl (pi_list (pv 1)) (pg_name (i := 4) sc_resolve.nd rfl (Or.inl rfl)) (pss_one (ps_expr (pe_callS G_check_goal (hr.mono (by decide)) (by rfl) g_check_goal kp_check_goal b_check_goal (fun σ => passAt (takes_of rfl rfl rfl rfl) σ) (pa_cons (pv 4) pa_nil)))))
      (pss_one (ps_ret (pe_callS G_resolved (hr.mono (by decide)) (by rfl) g_resolved kp_resolved b_resolved (fun σ => passAt (takes_of rfl rfl rfl rfl) σ) (pa_cons (pv 0) (pa_cons (pv 1) (pa_cons (pv 2) (pa_cons (pe_callS G_head_and_goals (hr.mono (by decide)) (by rfl) g_head_and_goals kp_head_and_goals b_head_and_goals (fun σ => passAt (takes_of rfl rfl rfl rfl) σ) (pa_cons (pv 3) pa_nil)) pa_nil))))))))), ?_⟩
    refine st_of (σ := [some _, some _, some _, some _, none]) rfl ?_
    walk_at "go"
    have lx := DpAll.len ha
    rw [List.length_map] at lx
    refine ⟨x, q0, qr, rfl, dx, nq, fun _ H1 s1 => ?_, fun w => by rw [gq] at w; cases w⟩
    walk_at "go"
    refine ⟨a, rfl, ⟨_, same_sqL s1 hs⟩, for_list (K := K) (a := a) (xs := xs) (fun i σ H' => ∃ (v4 : Option V), σ = [some x, some (.ref a), some (.int p), some y, v4] ∧ Same H H')
      ⟨none, rfl, s1⟩ (fun i σ H' _ ⟨_, _, e⟩ => same_sqL e hs) ?_ ?_⟩
    · rintro i z σ H2 hz ⟨v4, rfl, s2⟩
      obtain ⟨dd, hd, dz0⟩ := DpAll.getV ha hz
      rw [List.getElem?_map] at hd
      obtain ⟨t, ht, rfl⟩ := Option.map_eq_some_iff.mp hd
      obtain ⟨t0, tr, rfl, nt, gt⟩ := hg t (List.mem_of_getElem? ht)
      walk_at "go"
      refine ⟨z, t0, tr, rfl, dp_same s2 _ _ dz0, nt, fun _ H3 s3 => ?_, fun w => by rw [gt] at w; cases w⟩
      walk_at "go"
      exact ⟨_, rfl, s2.trans s3⟩
    · rintro σ H2 ⟨v4, rfl, s2⟩
      walk_at "go"
      refine ⟨y, d, r, rows, m, rfl, dp_same s2 _ _ dy, nd, hc, hr1, hr2, hf, hcl, hl, fun _ c hv b ys H3 s3 nb ec dh eb ab cb => ?_, fun w => by rw [g1, g2] at w; cases w⟩
      walk_at "go"
      have s23 := s2.trans s3
      refine ⟨x, q0 :: qr, a, gs, p, c, b, hv, _, _, g, h, k, s, rfl, dp_same s23 _ _ dx, ⟨xs, same_sqL s23 hs, dp_sameAll s23 _ _ ha⟩, SqT.of ec, dh, ⟨ys, SqL.of eb, ab⟩, I, ?_⟩
      cases s with
      | non => exact fun H4 s4 => Qq _ (s23.trans s4)
      | big => exact fun H4 s4 => Qq _ (s23.trans s4)
      | tab T => exact ⟨fun w H4 s4 => Qq.1 w _ (s23.trans s4), fun w c v r ys H4 s4 => Qq.2 w c v r ys _ (s23.trans s4)⟩

theorem ok_law {f : Addr} {fd : FuncData} (F : Fun K "law" "law" s_law f fd) (E : Bi K mg) (D__law_stream : Has P w K mg base 1 "_law_stream" ["script"] (sp__law_stream K)) (D__law_program : Has P w K mg base 6 "_law_program" ["stream"] (sp__law_program K)) (D__law_query : Has P w K mg base 5 "_law_query" ["stream", "program"] (sp__law_query K)) (D__law_draw : Has P w K mg base 1 "_law_draw" ["stream", "many"] (sp__law_draw K)) (D__law_large : Has P w K mg base 2 "_law_large" ["stream"] (sp__law_large K)) (D__law_put : Has P w K mg base 2 "_law_put" ["table", "term"] (sp__law_put K)) (D__law_row : Has P w K mg base 4 "_law_row" ["clause"] (sp__law_row K)) (D__law_resolve : Has P w K mg base 4 "_law_resolve" ["terms", "goal", "row"] (sp__law_resolve K)) (D__law_numbered : Has P w K mg base 3 "_law_numbered" ["terms", "first"] (sp__law_numbered K)) (D_resolve : HasX P w K mg base 8 "resolve" ["query", "goals", "pick", "clause"] (sp_resolve K)) : FnOk P w K mg base CX0 9 f fd ["script"] (sp_law K) := by
  obtain ⟨f__law_stream, fd__law_stream, G__law_stream, g__law_stream, kp__law_stream, b__law_stream⟩ := D__law_stream
  obtain ⟨f__law_program, fd__law_program, G__law_program, g__law_program, kp__law_program, b__law_program⟩ := D__law_program
  obtain ⟨f__law_query, fd__law_query, G__law_query, g__law_query, kp__law_query, b__law_query⟩ := D__law_query
  obtain ⟨f__law_draw, fd__law_draw, G__law_draw, g__law_draw, kp__law_draw, b__law_draw⟩ := D__law_draw
  obtain ⟨f__law_large, fd__law_large, G__law_large, g__law_large, kp__law_large, b__law_large⟩ := D__law_large
  obtain ⟨f__law_put, fd__law_put, G__law_put, g__law_put, kp__law_put, b__law_put⟩ := D__law_put
  obtain ⟨f__law_row, fd__law_row, G__law_row, g__law_row, kp__law_row, b__law_row⟩ := D__law_row
  obtain ⟨f__law_resolve, fd__law_resolve, G__law_resolve, g__law_resolve, kp__law_resolve, b__law_resolve⟩ := D__law_resolve
  obtain ⟨f__law_numbered, fd__law_numbered, G__law_numbered, g__law_numbered, kp__law_numbered, b__law_numbered⟩ := D__law_numbered
  obtain ⟨f_resolve, fd_resolve, G_resolve, g_resolve, kp_resolve, b_resolve⟩ := D_resolve
  refine F.ok sc_law (fun vs H Q E h => ?_) (fun cdv A outer s H vs Q E' hr h => ?_)
  · obtain ⟨a, ns, rfl, _⟩ := h
    rfl
  · obtain ⟨a, ns, rfl, hs, hl, q⟩ := h
    have n9 : (2 : Nat) ^ 8 ≤ 2 ^ 9000 := Nat.pow_le_pow_right (by decide) (by decide)
    refine ⟨_, (pss_cons (ps_set (i := 1) sc_law.nd rfl (Or.inr rfl) (pe_call G__law_stream (hr.mono (by decide)) (by rfl) g__law_stream kp__law_stream b__law_stream .nil pass0 (pa_cons (pv 0) pa_nil)))
      (pss_cons (ps_set (i := 2) sc_law.nd rfl (Or.inr rfl) (pe_call G__law_program (hr.mono (by decide)) (by rfl) g__law_program kp__law_program b__law_program .nil pass0 (pa_cons (pv 1) pa_nil)))
      (pss_cons (ps_set (i := 3) sc_law.nd rfl (Or.inl rfl) (pe_call G__law_query (hr.mono (by decide)) (by rfl) g__law_query kp__law_query b__law_query .nil pass0 (pa_cons (pv 1) (pa_cons (pv 2) pa_nil))))
      (pss_cons (ps_setLc (i := 4) (own := [("k", 5)]) (g := gName 5) (tt := tYes) rfl sc_law.nd rfl rfl (by rfl) (pi_range1 (by rfl) E.b_range (pa_cons (pe_op op_add pe_int (pe_call G__law_draw (hr.mono (by decide)) (by rfl) g__law_draw kp__law_draw b__law_draw .nil pass0 (pa_cons (pv 1) (pa_cons pe_int pa_nil)))) pa_nil)) (blkOk_by (N := N_law) (sc := defScope s_law) (by decide +kernel)) (fun _ _ _ _ _ => pg_name (i := 5) sc_law.nd rfl (Or.inl rfl)) (fun _ _ _ _ _ => pts_nil) (fun _ _ _ _ _ => (pe_call G__law_query (hr.mono (by decide)) (by rfl) g__law_query kp__law_query b__law_query .nil pass0 (pa_cons (pv 1) (pa_cons (pv 2) pa_nil)))))
      (pss_cons (ps_set (i := 6) sc_law.nd rfl (Or.inl rfl) (pe_ix ix_list (pv 2) (pe_call G__law_draw (hr.mono (by decide)) (by rfl) g__law_draw kp__law_draw b__law_draw .nil pass0 (pa_cons (pv 1) (pa_cons (pe_callB call_len_seq (by rfl) E.b_len PySem.boot_len (pa_cons (pv 2) pa_nil)) pa_nil))) (fun _ _ => rfl)))
      (pss_cons (ps_set (i := 7) sc_law.nd rfl (Or.inl rfl) (pe_call G__law_draw (hr.mono (by decide)) (by rfl) g__law_draw kp__law_draw b__law_draw .nil pass0 (pa_cons (pv 1) (pa_cons (pe_callB call_len_seq (by rfl) E.b_len PySem.boot_len (pa_cons (pv 4) pa_nil)) pa_nil))))
      (pss_cons (ps_if (pt_cmpR op_eq (pe_call G__law_draw (hr.mono (by decide)) (by rfl) g__law_draw kp__law_draw b__law_draw .nil pass0 (pa_cons (pv 1) (pa_cons pe_int pa_nil))) pe_int (nomark _)) (pss_cons (ps_set (i := 8) sc_law.nd rfl (Or.inl rfl) (pe_tup (pa_cons (pe_tup (pa_cons pe_str (pa_cons pe_int pa_nil))) pa_nil)))
      (pss_cons (ps_set (i := 9) sc_law.nd rfl (Or.inl rfl) (pe_tup (pa_cons (pe_tup (pa_cons pe_str (pa_cons pe_int pa_nil))) pa_nil)))
      (pss_cons (ps_asg (pe_call G__law_large (hr.mono (by decide)) (by rfl) g__law_large kp__law_large b__law_large .nil pass0 (pa_cons (pv 1) pa_nil)) (pg_sub (pv 4) (pv 7) set_list))
      (pss_cons (ps_set (i := 10) sc_law.nd rfl (Or.inl rfl) (pe_op op_catA (pe_op op_catA (pe_op op_catA (pe_tup (pa_cons (pe_tup (pa_cons pe_str (pa_cons pe_str (pa_cons pe_int pa_nil)))) (pa_cons (pe_tup (pa_cons pe_str (pa_cons pe_str (pa_cons pe_int pa_nil)))) pa_nil))) (pv 8)) (pv 8)) (pv 9)))
      (pss_one (ps_set (i := 6) sc_law.nd rfl (Or.inl rfl) (pe_op op_catA (pe_op op_catA (pe_op op_catA (pe_op op_catA (pe_op op_catA (pe_tup (pa_cons (pe_tup (pa_cons pe_str (pa_cons pe_str (pa_cons pe_int pa_nil)))) (pa_cons (pe_tup (pa_cons pe_str (pa_cons pe_str (pa_cons pe_int pa_nil)))) pa_nil))) (pv 8)) (pv 9)) (pe_tup (pa_cons (pe_tup (pa_cons pe_str (pa_cons pe_str (pa_cons pe_int pa_nil)))) pa_nil))) (pv 10)) (pv 10)))))))) pss_nil)
      (pss_cons (ps_if (pt_cmpR op_eq (pe_call G__law_draw (hr.mono (by decide)) (by rfl) g__law_draw kp__law_draw b__law_draw .nil pass0 (pa_cons (pv 1) (pa_cons pe_int pa_nil))) pe_int (nomark _)) (pss_cons (ps_set (i := 11) sc_law.nd rfl (Or.inl rfl) (pe_ix ix_list (pe_lst (pa_cons pe_int (pa_cons (pe_op op_pow pe_int pe_int) (pa_cons pe_int pa_nil)))) (pe_call G__law_draw (hr.mono (by decide)) (by rfl) g__law_draw kp__law_draw b__law_draw .nil pass0 (pa_cons (pv 1) (pa_cons pe_int pa_nil))) (fun _ _ => rfl)))
      (pss_cons (ps_set (i := 12) sc_law.nd rfl (Or.inr rfl) pe_dnewK)
      (pss_cons (ps_for PassesOwn.never rfl (pi_range1 (by rfl) E.b_range (pa_cons pe_int pa_nil)) (pg_name (i := 5) sc_law.nd rfl (Or.inl rfl)) (pss_one (ps_dput (hu_of hr) (pv 12) (pv 5) (pe_tup (pa_cons (pe_tup (pa_cons pe_str (pa_cons (pe_op op_add (pe_op op_add (pe_op op_mul pe_int (pv 5)) (pe_call G__law_draw (hr.mono (by decide)) (by rfl) g__law_draw kp__law_draw b__law_draw .nil pass0 (pa_cons (pv 1) (pa_cons pe_int pa_nil)))) (pv 11)) pa_nil))) pa_nil)) (by rfl))))
      (pss_cons (ps_set (i := 3) sc_law.nd rfl (Or.inl rfl) (pe_call G__law_put (hr.mono (by decide)) (by rfl) g__law_put kp__law_put b__law_put .nil pass0 (pa_cons (pv 12) (pa_cons (pv 3) pa_nil))))
      (pss_one (ps_setLc (i := 4) (own := [("goal", 13)]) (g := gName 13) (tt := tYes) rfl sc_law.nd rfl rfl (by rfl) (pi_list (pv 4)) (blkOk_by (N := N_law) (sc := defScope s_law) (by decide +kernel)) (fun _ _ _ _ _ => pg_name (i := 13) sc_law.nd rfl (Or.inl rfl)) (fun _ _ _ _ _ => pts_nil) (fun _ _ _ _ _ => (pe_call G__law_put (hr.mono (by decide)) (by rfl) g__law_put kp__law_put b__law_put .nil pass0 (pa_cons (pv 12) (pa_cons (pv 13) pa_nil)))))))))) pss_nil)
      (pss_cons (ps_if (pt_cmpR op_eq (pe_call G__law_draw (hr.mono (by decide)) (by rfl) g__law_draw kp__law_draw b__law_draw .nil pass0 (pa_cons (pv 1) (pa_cons pe_int pa_nil))) pe_int (nomark _)) (pss_one (ps_set (i := 6) sc_law.nd rfl (Or.inl rfl) (pe_call G__law_put (hr.mono (by decide)) (by rfl) g__law_put kp__law_put b__law_put .nil pass0 (pa_cons (pe_disp (pps_cons pe_int (pe_tup (pa_cons (pe_tup (pa_cons pe_str (pa_cons (pe_op op_add pe_int (pe_call G__law_draw (hr.mono (by decide)) (by rfl) g__law_draw kp__law_draw b__law_draw .nil pass0 (pa_cons (pv 1) (pa_cons pe_int pa_nil)))) pa_nil))) pa_nil)) (pps_cons pe_int (pe_tup (pa_cons (pe_tup (pa_cons pe_str (pa_cons pe_int pa_nil))) pa_nil)) pps_nil)) (by rfl) (by rfl) (fun z => by cases z) (by decide)) (pa_cons (pv 6) pa_nil))))) pss_nil)
      (pss_cons (ps_set (i := 14) sc_law.nd rfl (Or.inl rfl) (pe_call G__law_row (hr.mono (by decide)) (by rfl) g__law_row kp__law_row b__law_row .nil pass0 (pa_cons (pv 6) pa_nil)))
      (pss_cons (ps_set (i := 15) sc_law.nd rfl (Or.inl rfl) (pe_call G__law_resolve (hr.mono (by decide)) (by rfl) g__law_resolve kp__law_resolve b__law_resolve .nil pass0 (pa_cons (pe_op op_cat (pe_op op_cat (pe_lst (pa_cons (pv 3) pa_nil)) (pe_slice sl_list (pv 4) po_none (po_some (pv 7)))) (pe_slice sl_list (pv 4) (po_some (pe_op op_add (pv 7) pe_int)) po_none)) (pa_cons (pe_ix ix_list (pv 4) (pv 7) (fun _ _ => rfl)) (pa_cons (pv 14) pa_nil)))))
      (pss_cons (ps_if (pw_and (pt_cmpR op_notN (pv 15) pe_non (nomark _)) (pw_and1 (pt_cmpR (op_neD hr.units) (pv 15) pe_str (nomark _)))).pt (pss_cons (ps_set (i := 16) sc_law.nd rfl (Or.inl rfl) (pe_op op_add (pe_op op_sub (pe_callB call_len_seq (by rfl) E.b_len PySem.boot_len (pa_cons (pv 15) pa_nil)) (pe_callB call_len_seq (by rfl) E.b_len PySem.boot_len (pa_cons (pv 14) pa_nil))) pe_int))
      (pss_one (ps_set (i := 15) sc_law.nd rfl (Or.inl rfl) (pe_call G__law_numbered (hr.mono (by decide)) (by rfl) g__law_numbered kp__law_numbered b__law_numbered .nil pass0 (pa_cons (pe_op op_cat (pe_op op_cat (pe_op op_cat (pe_lst (pa_cons (pe_ix ix_list (pv 15) pe_int (fun _ _ => rfl)) pa_nil)) (pe_slice sl_list (pv 15) (po_some pe_int) (po_some (pe_op op_add (pv 7) pe_int)))) (pe_slice sl_list (pv 15) (po_some (pv 16)) po_none)) (pe_slice sl_list (pv 15) (po_some (pe_op op_add (pv 7) pe_int)) (po_some (pv 16)))) (pa_cons pe_int pa_nil)))))) pss_nil)
      (pss_cons (ps_set (i := 17) sc_law.nd rfl (Or.inl rfl) (pe_callTy call_list_of (by rfl) E.b_list (by decide +kernel) (pa_cons (pv 4) pa_nil)))
      (pss_cons (ps_try_only rfl rfl ⟨rfl, by decide, .inl E.x_TooLarge.gC⟩ takes0 (fun W pn xe tk po => (pss_one (ps_set (i := 18) sc_law.nd rfl (Or.inl rfl) (pe_callS G_resolve (hr.mono (by decide)) (by rfl) g_resolve kp_resolve b_resolve (fun σ => passAt tk σ) (pa_cons (pv 3) (pa_cons (pv 17) (pa_cons (pv 7) (pa_cons (pv 6) pa_nil)))))))) (fun ea oe ecls ed pn hz hf => (pss_one (ps_ret (pe_and (pe_cmpR (show OpR _ (compareOp .Eq) (rEqD K) from op_eqD (by first | exact hr.units | exact Nat.lt_of_le_of_lt (Nat.add_le_add_left (by decide : 65 ≤ 150) _) (units150 hr))) (pv 15) pe_str (nomark _)) (pe_one (pe_cmpR (show OpR _ (compareOp .Eq) (rEqD K) from op_eqD (by first | exact hr.units | exact Nat.lt_of_le_of_lt (Nat.add_le_add_left (by decide : 65 ≤ 150) _) (units150 hr))) (pv 17) (pv 4) (nomark _))))))))
      (pss_cons (ps_if (pt_cmpR (op_neD hr.units) (pv 17) (pv 4) (nomark _)) (pss_one (ps_ret pe_bl)) pss_nil)
      (pss_cons (ps_if (pw_or (pt_cmpR op_isN (pv 15) pe_non (nomark _)) (pw_or1 (pt_cmpR (show OpR _ (compareOp .Eq) (rEqD K) from op_eqD (by first | exact hr.units | exact Nat.lt_of_le_of_lt (Nat.add_le_add_left (by decide : 65 ≤ 150) _) (units150 hr))) (pv 15) pe_str (nomark _)))).pt (pss_one (ps_ret (pe_and (pe_cmpR op_isN (pv 18) pe_non (nomark _)) (pe_one (pe_cmpR op_isN (pv 15) pe_non (nomark _)))))) pss_nil)
      (pss_cons (ps_if (pw_or (pt_not (pt_val (pe_callB call_isi (by rfl) E.b_isinstance (by decide +kernel) (pa_cons (pv 18) (pa_cons (pe_ty "tuple" (by rfl) E.b_tuple (by decide +kernel)) pa_nil))))) (pw_or (pt_cmpR op_ne (pe_callB call_len_seq (by rfl) E.b_len PySem.boot_len (pa_cons (pv 18) pa_nil)) pe_int (nomark _)) (pw_or1 (pt_not (pt_val (pe_callB call_isi (by rfl) E.b_isinstance (by decide +kernel) (pa_cons (pe_ix ix_tup (pv 18) pe_int (fun _ _ => rfl)) (pa_cons (pe_ty "list" (by rfl) E.b_list (by decide +kernel)) pa_nil)))))))).pt (pss_one (ps_ret pe_bl)) pss_nil)
      (pss_one (ps_ret (pe_and (pe_cmpR (show OpR _ (compareOp .Eq) (rEqD K) from op_eqD (by first | exact hr.units | exact Nat.lt_of_le_of_lt (Nat.add_le_add_left (by decide : 65 ≤ 150) _) (units150 hr))) (pe_ix ix_tup (pv 18) pe_int (fun _ _ => rfl)) (pe_ix ix_list (pv 15) pe_int (fun _ _ => rfl)) (nomark _)) (pe_one (pe_cmpR (show OpR _ (compareOp .Eq) (rEqD K) from op_eqD (by first | exact hr.units | exact Nat.lt_of_le_of_lt (Nat.add_le_add_left (by decide : 65 ≤ 150) _) (units150 hr))) (pe_ix ix_tup (pv 18) pe_int (fun _ _ => rfl)) (pe_slice sl_list (pv 15) (po_some pe_int) po_none) (nomark _))))))))))))))))))))))), ?_⟩
    refine st_of (σ := [some _, none, none, none, none, none, none, none, none, none, none, none, none, none, none, none, none, none, none]) rfl ?_
    walk_at "go"
    refine ⟨a, ns, rfl, hs, hl, fun s l H1 hS1 hl1 s1 S1 => ?_⟩
    walk_at "go"
    refine ⟨s, l, rfl, S1, fun r ys ps H2 ok lp1 lp2 nr rs er b2 S2 dy => ?_⟩
    walk_at "go"
    refine ⟨s, l, r, ys, ps, rfl, S2, rs, er, dy, ok, lp1, lp2, fun v0 q0 H3 ok3 g3 b3 S3 d3 => ?_⟩
    have ndp := ok.nd
    have er3 := b3 _ _ rs er
    have dy3 := dp_butAll S2 b3 ndp dy
    walk_at "go"
    refine ⟨s, l, 3, rfl, S3, by decide, Nat.lt_of_lt_of_le (by decide) n9, fun c4 H4 c40 c41 b4 S4 => ?_⟩
    walk_at "go"
    refine ⟨_, rfl, by omega, by omega, fun g nG => ?_⟩
    obtain ⟨os4, hos4⟩ := S4.at_s
    have gs' : g ≠ s := fun z => by rw [z, hos4] at nG; cases nG
    obtain ⟨ol4, hol4⟩ := S4.at_l
    have lg : l ≠ g := ne_of_none hol4 nG
    have er4 := b4 _ _ rs er3
    have rg : r ≠ g := ne_of_none er4 nG
    have sG := same_upd (o := .lst []) nG
    refine lc_it (n := (1 + c4).toNat) walk_range (fun i H' => ∃ (gys : List V) (gs : List (List PyData)), H' g = some (.lst gys) ∧ DpAll K H' gys (gs.map PyData.tuple) ∧ (∀ t ∈ gs, BigG t) ∧ gs.length = i ∧ Stm H' s l ∧ H' r = some (.lst ys) ∧ DpAll K H' ys (ps.map PyData.tuple) ∧ Dp K H' v0 (.tuple q0))
      ⟨[], [], upd_same, .nil, (fun t ht => nomatch ht), rfl, S4.keep sG, sG _ _ er4, dp_sameAll sG _ _ (dp_butAll S3 b4 ndp dy3), dp_same sG _ _ (dp_but S3 b4 ok3.1 d3)⟩ (fun _ _ _ _ => trivial) ?_ ?_
    · rintro i z H5 H6 hi ⟨gys, gs, e5, d5, bg5, l5, S5, er5, dy5, dq5⟩ ⟨rfl, rfl⟩
      have lgy := DpAll.len d5
      rw [List.length_map] at lgy
      refine gname ⟨rfl, ?_⟩
      dsimp only [tYes]
      rw [if_pos rfl]
      refine ⟨_, rfl, _, rfl, s, l, r, ys, ps, rfl, S5, rs, er5, dy5, ok, lp1, lp2, fun v ds H7 ok7 g7 b7 S7 d7 => ?_⟩
      have e7 := b7 _ _ gs' e5
      have nt : notTup H7 g := .inl ⟨_, e7⟩
      have B7 := ok7.big g7
      refine ⟨gys, e7, Nat.lt_of_le_of_lt (show _ ≤ 100000 by omega) (by decide), gys ++ [v], gs ++ [ds], upd_same, ?_, fun t ht => ?_, by rw [List.length_append, l5]; rfl, S7.put gs'.symm lg, by rw [upd_ne rg]; exact b7 _ _ rs er5, dp_putAll nt _ _ ndp.noL (dp_butAll S5 b7 ndp dy5), dp_put nt _ _ (tup_noL ok3.1) (dp_but S5 b7 ok3.1 dq5)⟩
      · rw [List.map_append]
        exact dpAll_end (dp_putAll nt _ _ (big_nd bg5).noL (dp_butAll S5 b7 (big_nd bg5) d5)) (dp_put nt _ _ (tup_noL ok7.1) d7)
      · rcases List.mem_append.mp ht with ht | ht
        · exact bg5 t ht
        · rw [List.mem_singleton.mp ht]
          exact B7
    · rintro H5 ⟨gys, gs, e5, d5, bg5, l5, S5, er5, dy5, dq5⟩
      have lgs : 0 < gs.length ∧ gs.length ≤ 3 := by omega
      have lyy := DpAll.len dy5
      rw [List.length_map] at lyy
      refine gname (nxp ?_)
      simp only [List.set_cons_succ, List.set_cons_zero]
      walk_at "go"
      refine ⟨r, ys, rfl, .inl (SqL.of er5), ?_⟩
      walk_at "go"
      refine ⟨s, l, (ys.length : Nat), rfl, S5, by omega, Nat.le_trans (show ((ys.length : Int)).natAbs.succ ≤ 2 ^ 8 by omega) n9, fun c6 H6 c60 c61 b6 S6 => ?_⟩
      obtain ⟨j, rfl⟩ : ∃ j : Nat, c6 = (j : Int) := ⟨c6.toNat, by omega⟩
      have hj := List.getElem?_eq_getElem (l := ps) (i := j) (by omega)
      obtain ⟨vc, hvc, dvc⟩ := DpAll.get (i := j) dy5 (by rw [List.getElem?_map, hj]; rfl)
      obtain ⟨hd, rows, C⟩ := ok _ (List.mem_of_getElem? hj)
      generalize ps[j] = dc at hj dvc C
      refine ixL (j := j) (SqL.of (b6 _ _ rs er5)) hvc ?_
      have L6 : LSt K H6 s l g v0 vc q0 gs dc hd rows := ⟨S6, ⟨gys, b6 _ _ gs' e5, dp_butAll S5 b6 (big_nd bg5) d5⟩, gs', lg, dp_but S5 b6 ok3.1 dq5, ok3.big g3, bg5, lgs.2, dp_but S5 b6 C.nd dvc, C⟩
      have lgy := DpAll.len d5
      rw [List.length_map] at lgy
      walk_at "go"
      refine ⟨g, gys, rfl, .inl (SqL.of (b6 _ _ gs' e5)), ?_⟩
      walk_at "go"
      refine ⟨s, l, (gys.length : Nat), rfl, S6, by omega, Nat.le_trans (show ((gys.length : Int)).natAbs.succ ≤ 2 ^ 8 by omega) n9, fun c7 H7 c70 c71 b7 S7 => ?_⟩
      obtain ⟨p, rfl⟩ : ∃ p : Nat, c7 = (p : Int) := ⟨c7.toNat, by omega⟩
      have hp : p < gs.length := by omega
      have L7 := L6.but b7 S7
      clear L6 dvc d5 dy5 e5 er5 dq5
      walk_at "gs"
      refine nx_via (fun σ H' => ∃ (v8 v9 v10 : Option V) (vc : V) (gs : List (List PyData)) (ds hd : List PyData) (rows : List (List PyData)), σ = [some (.ref a), some (.ref s), some (.ref r), some v0, some (.ref g), none, some vc, some (.int (p : Nat)), v8, v9, v10, none, none, none, none, none, none, none, none] ∧ LSt K H' s l g v0 vc q0 gs ds hd rows ∧ p < gs.length) ?_ fun hu => ?_
      · clear L7 hp bg5 l5 hvc hj C
        rintro σ H8 ⟨v8, v9, v10, vc, gs, ds, hd, rows, rfl, L8, hp⟩
        walk_at "gs"
        refine nx_via (fun σ H' => ∃ (v5 v8 v9 v10 v11 v12 v13 : Option V) (g : Addr) (vq vc : V) (q : List PyData) (gs : List (List PyData)) (ds hd : List PyData) (rows : List (List PyData)), σ = [some (.ref a), some (.ref s), some (.ref r), some vq, some (.ref g), v5, some vc, some (.int (p : Nat)), v8, v9, v10, v11, v12, v13, none, none, none, none, none] ∧ LSt K H' s l g vq vc q gs ds hd rows ∧ p < gs.length) ?_ fun hu => ?_
        · clear L8 hp
          rintro σ H9 ⟨v5, v8, v9, v10, v11, v12, v13, g, vq, vc, q1, gs, ds, hd, rows, rfl, L9, hp⟩
          walk_at "gs"
          refine nx_via (fun σ H' => ∃ (v5 v8 v9 v10 v11 v12 v13 : Option V) (vc : V) (ds hd : List PyData) (rows : List (List PyData)), σ = [some (.ref a), some (.ref s), some (.ref r), some vq, some (.ref g), v5, some vc, some (.int (p : Nat)), v8, v9, v10, v11, v12, v13, none, none, none, none, none] ∧ LSt K H' s l g vq vc q1 gs ds hd rows) ?_ fun hu => ?_
          · clear L9
            rintro σ H10 ⟨v5, v8, v9, v10, v11, v12, v13, vc, ds, hd, rows, rfl, L10⟩
            have hg : gs[p]? = some gs[p] := List.getElem?_eq_getElem hp
            obtain ⟨h, k, s3, LI, RI⟩ := both L10.bq L10.bg L10.lg hg L10.C
            generalize gs[p] = gd at hg LI RI
            refine via4 (fun σ H' => ∃ (R : Addr) (dv : V) (e16 : Option V) (f : Fin3), σ = [some (.ref a), some (.ref s), some (.ref r), some vq, some (.ref g), v5, some vc, some (.int (p : Nat)), v8, v9, v10, v11, v12, v13, some (.ref R), some dv, e16, none, none] ∧ FinR q1 gs p (rowM q1 gs hd (goalsM rows)).tail s3 f ∧ DueV K H' dv f ∧ LSt K H' s l g vq vc q1 gs ds hd rows) ?_ fun hu => ?_
            · rintro σ H11 ⟨R, dv, e16, f, rfl, FR, DV, L11⟩
              obtain ⟨gys, e11, g11⟩ := L11.gl
              walk_at "go"
              refine ⟨g, gys, rfl, .inl (SqL.of e11), fun N nN => ?_⟩
              have sN := same_upd (o := .lst gys) nN
              have L12 := L11.but (But.of sN) (L11.st.keep sN)
              have e12 : (upd H11 N (.lst gys)) N = some (.lst gys) := upd_same
              have g12 := dp_sameAll sN _ _ g11
              have eg12 := sN _ _ e11
              have D12 := DV.same sN
              clear DV L11 e11 g11 nN sN
              generalize upd H11 N (.lst gys) = H12 at L12 e12 g12 eg12 D12
              walk_at "go"
              have lsz := L12.C.size
              obtain ⟨d, r, rfl, c1, c2⟩ := split_fact L12.C
              have ndg := big_nd L12.bg
              have shg := rows_shaped ndg
              have eqg : PyData.eqv (.list (gs.map PyData.tuple)) (.list (gs.map PyData.tuple)) = true := by simp only [PyData.eqv]; exact (rows_facts ndg).2.2.1
              refine ⟨vq, q1, N, gs, p, vc, d, r, rows, 1, gd, h, k, s3, rfl, L12.dq, L12.bq.goal, ⟨gys, SqL.of e12, g12⟩, fun t ht => (L12.bg t ht).goal, L12.dc, L12.C.nd, c1, by rw [List.length_cons] at lsz; omega, by rw [c2]; exact L12.C.h.ne, by rw [c2]; exact join_flat L12.C.r, by rw [c2]; exact (join_tms L12.C.r L12.C.ne).1, Nat.le_trans L12.C.len (by decide), by rw [c2]; exact L12.C.g, L12.C.rg, by rw [c2]; exact RI, ?_⟩
              rw [c2]
              refine fin_resQ FR (fun ef H13 s13 => ?_) (fun ef H13 s13 => ?_) (fun ts ef c v rr ys H13 s13 ec dv13 er dr13 => ?_)
              · subst ef
                have D12 : dv = V.non := D12
                subst D12
                walk_at "go"
                refine ⟨.list (gs.map PyData.tuple), .list (gs.map PyData.tuple), .lst (SqL.of (s13 _ _ e12)) (dp_sameAll s13 _ _ g12), .lst (SqL.of (s13 _ _ eg12)) (dp_sameAll s13 _ _ g12), shg, shg, ?_⟩
                rw [eqg]
                walk_at "go"
                refine ⟨rfl, ?_⟩
                walk_at "go"
                refine iteT ?_
                walk_at "go"
                refine ⟨rfl, ?_⟩
                walk_at "go"
                refine iteT ?_
                walk_at "go"
                refine ⟨rfl, ?_⟩
                walk_at "go"
                exact q _
              · subst ef
                have D12 : dv = V.str (Str.ofString "large") := D12
                subst D12
                walk_at "go"
                refine ⟨true, E.e_TooLarge_TooLarge, fun _ ea ha => ?_, fun z => nomatch z⟩
                walk_at "go"
                refine ⟨.str (Str.ofString "large"), .str (Str.ofString "large"), .str _, .str _, sh_large, sh_large, ?_⟩
                rw [eqv_large]
                walk_at "go"
                refine ⟨.list (gs.map PyData.tuple), .list (gs.map PyData.tuple), .lst (SqL.of (s13 _ _ e12)) (dp_sameAll s13 _ _ g12), .lst (SqL.of (s13 _ _ eg12)) (dp_sameAll s13 _ _ g12), shg, shg, ?_⟩
                rw [eqg]
                walk_at "go"
                exact q _
              · subst ef
                obtain ⟨nts, tne, tl, R2, ys2, rfl, e2, d2⟩ := D12
                walk_at "go"
                refine ⟨.list (gs.map PyData.tuple), .list (gs.map PyData.tuple), .lst (SqL.of (s13 _ _ e12)) (dp_sameAll s13 _ _ g12), .lst (SqL.of (s13 _ _ eg12)) (dp_sameAll s13 _ _ g12), shg, shg, ?_⟩
                rw [eqg]
                walk_at "go"
                refine ⟨rfl, ?_⟩
                walk_at "go"
                refine iteF ?_
                walk_at "go"
                have dl2 : Dp K H13 (.ref R2) (.list (ts.map PyData.tuple)) := .lst (SqL.of (s13 _ _ e2)) (dp_sameAll s13 _ _ d2)
                refine ⟨.list (ts.map PyData.tuple), .str (Str.ofString "large"), dl2, .str _, sh_row nts, sh_large, ?_⟩
                rw [list_str]
                walk_at "go"
                have dr : Dp K H13 (.ref rr) (.list (ts.tail.map PyData.tuple)) := .lst (SqL.of er) dr13
                have da : Dp K H13 (.ref c) (.tuple [.tuple (ts.headD []), .list (ts.tail.map PyData.tuple)]) := .tup (SqT.of ec) (.cons dv13 (.cons dr .nil))
                refine ⟨_, _, _, _, _, rfl, .ty _, tyx_of da, kit_ty (kitT _), ?_⟩
                walk_at "go"
                refine iteF ?_
                walk_at "go"
                refine ⟨_, _, rfl, .inr (SqT.of ec), ?_⟩
                walk_at "go"
                refine iteF ?_
                walk_at "go"
                refine ixT (j := 1) (SqT.of ec) rfl ?_
                walk_at "go"
                refine ⟨_, _, _, _, _, rfl, .ty _, tyx_of dr, kit_ty (kitL _), ?_⟩
                walk_at "go"
                refine iteF ?_
                walk_at "go"
                have hts : ts = ts.headD [] :: ts.tail := by
                  cases ts with
                  | nil => exact absurd rfl tne
                  | cons a b => rfl
                have ntl : NdT ts.tail := fun t ht => nts t (List.mem_of_mem_tail ht)
                have nth : ∀ d ∈ ts.headD [], NdA d := nts _ (by
                  cases ts with
                  | nil => exact absurd rfl tne
                  | cons a b => exact .head _)
                have d2' := dp_sameAll s13 _ _ d2
                rw [hts, List.map_cons] at d2'
                obtain ⟨y0, yr, rfl, dy0, dyr⟩ : ∃ y0 yr, ys2 = y0 :: yr ∧ Dp K H13 y0 (.tuple (ts.headD [])) ∧ DpAll K H13 yr (ts.tail.map PyData.tuple) := by
                  cases d2' with
                  | cons a b => exact ⟨_, _, rfl, a, b⟩
                refine ixT (j := 0) (SqT.of ec) rfl ?_
                walk_at "go"
                refine ixL (j := 0) (SqL.of (s13 _ _ e2)) rfl ?_
                walk_at "go"
                refine ⟨.tuple (ts.headD []), .tuple (ts.headD []), dv13, dy0, tup_shaped nth, tup_shaped nth, ?_⟩
                rw [tup_eqv nth]
                walk_at "go"
                refine ixT (j := 1) (SqT.of ec) rfl ?_
                walk_at "go"
                refine ⟨R2, _, rfl, SqL.of (s13 _ _ e2), fun P5 nP5 => ?_⟩
                rw [cut_from1]
                have sP5 := same_upd (o := .lst yr) nP5
                walk_at "go"
                refine ⟨.list (ts.tail.map PyData.tuple), .list (ts.tail.map PyData.tuple), dp_same sP5 _ _ dr, .lst (SqL.of upd_same) (dp_sameAll sP5 _ _ dyr), sh_row ntl, sh_row ntl, ?_⟩
                rw [eqv_row ntl]
                walk_at "go"
                exact q _
            · walk_at "go"
              refine ⟨vc, ds, hd, rows, rfl, L10.dc, L10.C, fun R rys H11 s11 nR e11 d11 => ?_⟩
              have L11 := L10.but (But.of s11) (L10.st.keep s11)
              walk_at "go"
              refine newN (n := 1) rfl (by decide) fun P1 nP1 => ?_
              have sP1 := same_upd (o := .lst [vq]) nP1
              have L12 := L11.but (But.of sP1) (L11.st.keep sP1)
              obtain ⟨gys, e12, g12⟩ := L12.gl
              walk_at "go"
              have lgy := DpAll.len g12
              rw [List.length_map] at lgy
              have l3 := L12.lg
              refine ⟨g, gys, rfl, SqL.of e12, fun P2 nP2 => ?_⟩
              rw [cut_take gys p (by omega)]
              have sP2 := same_upd (o := .lst (gys.take p)) nP2
              refine ⟨P1, P2, [vq], gys.take p, rfl, rfl, sP2 _ _ upd_same, upd_same, Nat.le_trans (show _ ≤ 100000 by rw [List.length_take, List.length_singleton]; omega) (by decide), fun P3 nP3 => ?_⟩
              have sP3 := same_upd (o := .lst ([vq] ++ gys.take p)) nP3
              have s123 := sP2.trans sP3
              walk_at "go"
              refine ⟨g, gys, rfl, SqL.of (s123 _ _ e12), fun P4 nP4 => ?_⟩
              rw [show ((p : Int) + 1) = ((p + 1 : Nat) : Int) from rfl, cut_drop gys (p + 1) (by omega)]
              have sP4 := same_upd (o := .lst (gys.drop (p + 1))) nP4
              refine ⟨P3, P4, [vq] ++ gys.take p, gys.drop (p + 1), rfl, rfl, sP4 _ _ upd_same, upd_same, Nat.le_trans (show _ ≤ 100000 by rw [List.length_append, List.length_take, List.length_drop, List.length_singleton]; omega) (by decide), fun P5 nP5 => ?_⟩
              have sP5 := same_upd (o := .lst ([vq] ++ gys.take p ++ gys.drop (p + 1))) nP5
              have sB := s123.trans (sP4.trans sP5)
              walk_at "go"
              obtain ⟨gv, hgv, dgv⟩ := DpAll.get (i := p) g12 (by rw [List.getElem?_map, hg]; rfl)
              refine ixL (j := p) (SqL.of (sB _ _ e12)) hgv ?_
              walk_at "go"
              have s1B := sP1.trans sB
              have LB := L12.but (But.of sB) (L12.st.keep sB)
              have dts : DpAll K (upd (upd (upd (upd (upd H11 P1 (.lst [vq])) P2 (.lst (gys.take p))) P3 (.lst ([vq] ++ gys.take p))) P4 (.lst (gys.drop (p + 1)))) P5 (.lst ([vq] ++ gys.take p ++ gys.drop (p + 1)))) ([vq] ++ gys.take p ++ gys.drop (p + 1)) (([q1] ++ gs.take p ++ gs.drop (p + 1)).map PyData.tuple) := by
                rw [List.map_append, List.map_append, List.map_take, List.map_drop]
                exact (DpAll.app (DpAll.app (.cons LB.dq .nil) (DpAll.taket p (dp_sameAll sB _ _ g12))) (DpAll.dropt (p + 1) (dp_sameAll sB _ _ g12)))
              refine ⟨P5, [q1] ++ gs.take p ++ gs.drop (p + 1), gv, gd, R, hd, goalsM rows, h, k, s3, rfl, ⟨_, upd_same, dts⟩, dp_same sB _ _ dgv, ⟨rys, SqL.of (s1B _ _ e11), dp_sameAll s1B _ _ d11⟩, LI, ?_⟩
              generalize (upd (upd (upd (upd (upd H11 P1 (.lst [vq])) P2 (.lst (gys.take p))) P3 (.lst ([vq] ++ gys.take p))) P4 (.lst (gys.drop (p + 1)))) P5 (.lst ([vq] ++ gys.take p ++ gys.drop (p + 1)))) = HB at LB s1B sB dts ⊢
              have eR := s1B _ _ e11
              have lR := DpAll.len d11
              rw [List.length_map, List.length_cons] at lR
              clear dts dgv sP1 sP2 sP3 sP4 sP5 s123 g12 e12 L12 L11 d11 e11
              cases s3 with
              | non =>
                intro H13 s13
                walk_at "go"
                refine ⟨rfl, ?_⟩
                walk_at "go"
                refine iteF ?_
                refine hu _ _ ⟨R, _, none, .non, rfl, .non, rfl, LB.but (But.of s13) (LB.st.keep s13)⟩
              | big =>
                intro H13 s13
                walk_at "go"
                refine ⟨rfl, ?_⟩
                walk_at "go"
                refine iteT ?_
                walk_at "go"
                refine ⟨.str (Str.ofString "large"), .str (Str.ofString "large"), .str _, .str _, sh_large, sh_large, ?_⟩
                rw [eqv_large]
                refine ⟨_, rfl, iteNt ?_⟩
                exact hu _ _ ⟨R, _, none, .big, rfl, .big, rfl, LB.but (But.of s13) (LB.st.keep s13)⟩
              | tab T =>
                have tb := eg_tab LI.eg (sol_zero LI.tg LI.th) T rfl
                have wiff : wide (FT T ([q1] ++ gs.take p ++ gs.drop (p + 1)) gd hd (goalsM rows)) ↔ wide (nextT T q1 gs p (rowM q1 gs hd (goalsM rows)).tail) := by
                  rw [FT_eq (nx_both hg RI.nd), NT_eq]
                  exact wide_iff fun t => mem3
                refine ⟨fun w H13 s13 => ?_, fun w RR zs H13 s13 nRR eRR dRR => ?_⟩
                · walk_at "go"
                  refine ⟨rfl, ?_⟩
                  walk_at "go"
                  refine iteT ?_
                  walk_at "go"
                  refine ⟨.str (Str.ofString "large"), .str (Str.ofString "large"), .str _, .str _, sh_large, sh_large, ?_⟩
                  rw [eqv_large]
                  refine ⟨_, rfl, iteNt ?_⟩
                  exact hu _ _ ⟨R, _, none, .big, rfl, .wide (wiff.mp w), rfl, LB.but (But.of s13) (LB.st.keep s13)⟩
                · have w2 := fun z => w (wiff.mpr z)
                  rw [FT_eq (nx_both hg RI.nd)] at dRR
                  have NTnd := nextT_nd RI tb.1.nd
                  have NTl := nextT_len (T := T) (q := q1) (os := (rowM q1 gs hd (goalsM rows)).tail) hp
                  have NTe := NT_eq (T := T) (q := q1) (gs := gs) (p := p) (os := (rowM q1 gs hd (goalsM rows)).tail)
                  walk_at "go"
                  refine ⟨rfl, ?_⟩
                  walk_at "go"
                  refine iteT ?_
                  walk_at "go"
                  have NdFT : NdT (appM T q1 :: ((gs.take p).map (appM T) ++ (gs.drop (p + 1)).map (appM T) ++ (rowM q1 gs hd (goalsM rows)).tail.map (appM T))) := fun t ht => by
                    rw [NTe] at NTnd
                    exact NTnd t (mem3.mp ht)
                  have NdR := renT_nd NdFT (Int.le_refl 0)
                  refine ⟨_, .str (Str.ofString "large"), .lst (SqL.of eRR) dRR, .str _, sh_row NdR, sh_large, ?_⟩
                  rw [list_str]
                  walk_at "go"
                  have lzs := DpAll.len dRR
                  rw [List.length_map, renT_len] at lzs
                  refine ⟨RR, zs, rfl, .inl (SqL.of eRR), ?_⟩
                  walk_at "go"
                  refine ⟨R, rys, rfl, .inl (SqL.of (s13 _ _ eR)), ?_⟩
                  have lown : (rowM q1 gs hd (goalsM rows)).tail.length = (goalsM rows).length := by unfold rowM; rw [List.length_tail, renT_len]; rfl
                  have lz2 : zs.length = gs.length + (goalsM rows).length := by
                    rw [lzs, List.length_cons, List.length_append, List.length_append, List.length_map, List.length_map, List.length_map, List.length_take, List.length_drop, lown]
                    omega
                  have eEnd : (zs.length : Int) - (rys.length : Int) + 1 = ((gs.length : Nat) : Int) := by omega
                  have cA : cutV zs (some (1 : Int)) (some ((p : Int) + 1)) = (zs.drop 1).take p := cut_nat zs 1 (p + 1) (by omega) (by omega)
                  have cB : cutV zs (some ((p : Int) + 1)) (some (gs.length : Int)) = (zs.drop (p + 1)).take (gs.length - (p + 1)) := cut_nat zs (p + 1) gs.length (by omega) (by omega)
                  have cC : cutV zs (some (gs.length : Int)) Option.none = zs.drop gs.length := cut_drop zs gs.length (by omega)
                  have hz0 : zs[0]? = some zs[0] := List.getElem?_eq_getElem (by omega)
                  have drows := due_rows hp rfl dRR hz0
                  have perm := due_perm (T := T) (q := q1) (gs := gs) (p := p) (os := (rowM q1 gs hd (goalsM rows)).tail) rfl
                  generalize zs[0] = z0 at hz0 drows
                  have l3 := LB.lg
                  have lo3 : (goalsM rows).length ≤ 12 := Nat.le_trans (List.length_filter_le _ _) LB.C.len
                  walk_at "go"
                  rw [eEnd]
                  refine ixL (j := 0) (SqL.of eRR) hz0 ?_
                  walk_at "go"
                  refine newN (n := 1) rfl (by decide) fun A1 nA1 => ?_
                  have sA1 := same_upd (o := .lst [z0]) nA1
                  walk_at "go"
                  refine ⟨RR, _, rfl, SqL.of (sA1 _ _ eRR), fun A2 nA2 => ?_⟩
                  rw [cA]
                  have sA2 := same_upd (o := .lst ((zs.drop 1).take p)) nA2
                  refine ⟨A1, A2, [z0], _, rfl, rfl, sA2 _ _ upd_same, upd_same, Nat.le_trans (show _ ≤ 100000 by rw [List.length_take, List.length_drop, List.length_singleton]; omega) (by decide), fun A3 nA3 => ?_⟩
                  have sA3 := same_upd (o := .lst ([z0] ++ (zs.drop 1).take p)) nA3
                  walk_at "go"
                  refine ⟨RR, _, rfl, SqL.of ((sA1.trans (sA2.trans sA3)) _ _ eRR), fun A4 nA4 => ?_⟩
                  rw [cC]
                  have sA4 := same_upd (o := .lst (zs.drop gs.length)) nA4
                  refine ⟨A3, A4, [z0] ++ (zs.drop 1).take p, _, rfl, rfl, sA4 _ _ upd_same, upd_same, Nat.le_trans (show _ ≤ 100000 by rw [List.length_append, List.length_take, List.length_drop, List.length_drop, List.length_singleton]; omega) (by decide), fun A5 nA5 => ?_⟩
                  have sA5 := same_upd (o := .lst ([z0] ++ (zs.drop 1).take p ++ zs.drop gs.length)) nA5
                  walk_at "go"
                  refine ⟨RR, _, rfl, SqL.of ((sA1.trans (sA2.trans (sA3.trans (sA4.trans sA5)))) _ _ eRR), fun A6 nA6 => ?_⟩
                  rw [cB]
                  have sA6 := same_upd (o := .lst ((zs.drop (p + 1)).take (gs.length - (p + 1)))) nA6
                  refine ⟨A5, A6, [z0] ++ (zs.drop 1).take p ++ zs.drop gs.length, _, rfl, rfl, sA6 _ _ upd_same, upd_same, Nat.le_trans (show _ ≤ 100000 by rw [List.length_append, List.length_append, List.length_take, List.length_drop, List.length_drop, List.length_singleton, List.length_take, List.length_drop]; omega) (by decide), fun A7 nA7 => ?_⟩
                  have sA7 := same_upd (o := .lst ([z0] ++ (zs.drop 1).take p ++ zs.drop gs.length ++ (zs.drop (p + 1)).take (gs.length - (p + 1)))) nA7
                  have sA := sA1.trans (sA2.trans (sA3.trans (sA4.trans (sA5.trans (sA6.trans sA7)))))
                  have drows2 := dp_sameAll sA _ _ drows
                  have n7 : (nextT T q1 gs p (rowM q1 gs hd (goalsM rows)).tail).length ≤ 15 := by rw [NTl, lown]; omega
                  walk_at "go"
                  refine ⟨A7, _, 0, rfl, ⟨_, SqL.of upd_same, drows2⟩, fun t ht d hd => ?_, Int.le_refl 0, szT_mul (m := 15) (fun t ht => ?_) (by rw [List.length_map]; exact n7), by rw [List.length_map]; omega, fun r8 H14 ys8 s14 nr8 e14 d14 => ?_⟩
                  · obtain ⟨u, hu, rfl⟩ := List.mem_map.mp ht
                    obtain ⟨x, hx, rfl⟩ := List.mem_map.mp hd
                    exact mapD_nd (NTnd u hu x hx) (fun n => gN_pos (Int.le_refl 0) _ n)
                  · obtain ⟨u, hu, rfl⟩ := List.mem_map.mp ht
                    rw [List.length_map]
                    exact Nat.le_of_not_lt fun z => w2 ⟨u, hu, z⟩
                  · rw [perm] at d14
                    have sB := s13.trans (sA.trans s14)
                    refine gname ?_
                    refine hu _ _ ⟨R, _, _, .row (renT 0 (nextT T q1 gs p (rowM q1 gs hd (goalsM rows)).tail)), rfl, .row w2, ⟨renT_nd NTnd (Int.le_refl 0), fun z => ?_, by rw [renT_len]; omega, r8, ys8, rfl, e14, d14⟩, LB.but (But.of sB) (LB.st.keep sB)⟩
                    have := congrArg List.length z
                    rw [renT_len, NTl] at this
                    rw [List.length_nil] at this
                    omega
          · walk_at "go"
            refine ⟨s, l, 4, rfl, L9.st, by decide, Nat.lt_of_lt_of_le (by decide) n9, fun c10 H10 c100 c101 b10 S10 => ?_⟩
            have L10 := L9.but b10 S10
            walk_at "go"
            refine ite2 (fun e10 => ?_) (fun e10 => ?_)
            · walk_at "go"
              intro D nD
              obtain ⟨fD, Ds⟩ := fresh_but (But.refl s H10) L10.st.some_s nD
              have sD := same_upd (o := .dK []) nD
              have L11 := L10.but (But.of sD) (L10.st.keep sD)
              unfold tPairs
              walk_at "go"
              refine ⟨s, l, 40, rfl, L11.st, by decide, Nat.lt_of_lt_of_le (by decide) n9, fun c12 H12 c120 c121 b12 S12 => ?_⟩
              have L12 := L11.but b12 S12
              have eD := b12 _ _ Ds upd_same
              walk_at "go"
              refine newN (n := 2) rfl (by decide) fun P1 nP1 => ?_
              have sP1 := same_upd (o := .tup [V.str (Str.ofString "v"), V.int (2 + c12)]) nP1
              walk_at "go"
              refine newN (n := 1) rfl (by decide) fun P2 nP2 => ?_
              have sP2 := same_upd (o := .tup [V.ref P1]) nP2
              unfold tPairs
              walk_at "go"
              refine newN (n := 2) rfl (by decide) fun P3 nP3 => ?_
              have sP3 := same_upd (o := .tup [V.str (Str.ofString "v"), V.int 50]) nP3
              walk_at "go"
              refine newN (n := 1) rfl (by decide) fun P4 nP4 => ?_
              have sP4 := same_upd (o := .tup [V.ref P3]) nP4
              unfold tPairs
              have sAll := sP1.trans (sP2.trans (sP3.trans sP4))
              refine ⟨sAll _ _ eD, [(Sum.inl 0, .ref P2), (Sum.inl 1, .ref P4)], rfl, by show 2 ≤ 15; decide, ?_⟩
              have s34 := sP3.trans sP4
              have dv1 : Dp K (upd (upd (upd (upd H12 P1 (.tup [V.str (Str.ofString "v"), V.int (2 + c12)])) P2 (.tup [V.ref P1])) P3 (.tup [V.str (Str.ofString "v"), V.int 50])) P4 (.tup [V.ref P3])) (.ref P2) (.tuple [vN (2 + c12)]) :=
                dp_same s34 _ _ (.tup (SqT.of upd_same) (.cons (.tup (SqT.of (sP2 _ _ upd_same)) (.cons (.str _) (.cons (.int _) .nil))) .nil))
              have dv2 : Dp K (upd (upd (upd (upd H12 P1 (.tup [V.str (Str.ofString "v"), V.int (2 + c12)])) P2 (.tup [V.ref P1])) P3 (.tup [V.str (Str.ofString "v"), V.int 50])) P4 (.tup [V.ref P3])) (.ref P4) (.tuple [vN 50]) :=
                .tup (SqT.of upd_same) (.cons (.tup (SqT.of (sP4 _ _ upd_same)) (.cons (.str _) (.cons (.int _) .nil))) .nil)
              have L13 := L12.but (But.of sAll) (L12.st.keep sAll)
              have e13 := sAll _ _ eD
              generalize (upd (upd (upd (upd H12 P1 (.tup [V.str (Str.ofString "v"), V.int (2 + c12)])) P2 (.tup [V.ref P1])) P3 (.tup [V.str (Str.ofString "v"), V.int 50])) P4 (.tup [V.ref P3])) = H13 at dv1 dv2 L13 e13 ⊢
              have nt : notTup H13 D := .inr (.inl ⟨_, e13⟩)
              have lD : l ≠ D := fun z => by
                obtain ⟨o, ho⟩ := L10.st.some_l
                rw [z, nD] at ho
                cases ho
              have gD : g ≠ D := fun z => by
                obtain ⟨gy, ho, _⟩ := L10.gl
                rw [z, nD] at ho
                cases ho
              have rt : RT [((0 : Int), [vN (2 + c12)]), (1, [vN 50])] := fun q hq => by
                simp only [List.mem_cons, List.not_mem_nil, or_false] at hq
                rcases hq with z | z <;> subst z
                · exact ⟨2 + c12, by omega, rfl⟩
                · exact ⟨50, by decide, rfl⟩
              have f14 : FndA K (upd H13 D (.dK (mergeK [] [(Sum.inl 0, V.ref P2), (Sum.inl 1, V.ref P4)]))) D [((0 : Int), [vN (2 + c12)]), (1, [vN 50])] :=
                ⟨[(Sum.inl 0, V.ref P2), (Sum.inl 1, V.ref P4)], upd_same, ⟨rfl, dp_put nt _ _ (by simp [noL, noLA, vN]) dv1, rfl, dp_put nt _ _ (by simp [noL, noLA, vN]) dv2, True.intro⟩⟩
              have L14 := L13.putD (o := .dK (mergeK [] [(Sum.inl 0, V.ref P2), (Sum.inl 1, V.ref P4)])) nt Ds.symm lD gD
              walk_at "gs"
              refine ⟨D, _, vc, ds, rfl, f14, rt.tab.nd, L14.dc, L14.C.nd, by rw [rn_app rt, List.length_map]; exact Nat.le_trans L14.C.size (by decide), fun v15 H15 s15 d15 => ?_⟩
              rw [rn_app rt] at d15
              have L15 := L14.but (But.of s15) (L14.st.keep s15)
              refine gname ?_
              exact hu _ _ ⟨v5, v8, v9, v10, v11, v12, v13, v15, ds.map (rnD _), hd.map (rnD _), rows.map (List.map (rnD _)), rfl, ⟨L15.st, L15.gl, L15.ns, L15.gl2, L15.dq, L15.bq, L15.bg, L15.lg, d15, L15.C.ren rt⟩⟩
            · exact hu _ _ ⟨v5, v8, v9, v10, v11, v12, v13, vc, ds, hd, rows, rfl, L10⟩
        · walk_at "go"
          refine ⟨s, l, 2, rfl, L8.st, by decide, Nat.lt_of_lt_of_le (by decide) n9, fun c9 H9 c90 c91 b9 S9 => ?_⟩
          have L9 := L8.but b9 S9
          walk_at "go"
          refine ite2 (fun e9 => ?_) (fun e9 => ?_)
          · walk_at "go"
            refine ⟨_, _, rfl, rfl, (show CPow 10 12 from ⟨by decide, by decide, by decide⟩), ?_⟩
            walk_at "go"
            refine newN (n := 3) rfl (by decide) fun P nP => ?_
            obtain ⟨fP, Ps⟩ := fresh_but (But.refl s H9) L9.st.some_s nP
            have sP := same_upd (o := .lst [V.int 1, V.int (10 ^ 12), V.int 3]) nP
            walk_at "go"
            refine ⟨s, l, 3, rfl, L9.st.keep sP, by decide, Nat.lt_of_lt_of_le (by decide) n9, fun c10 H10 c100 c101 b10 S10 => ?_⟩
            have L10 := (L9.but (But.of sP) (L9.st.keep sP)).but b10 S10
            have pick : ∃ m : Int, 0 ≤ m ∧ atI [V.int 1, V.int (10 ^ 12), V.int 3] c10 = some (.int m) := by
              have : c10 = 0 ∨ c10 = 1 ∨ c10 = 2 := by omega
              rcases this with rfl | rfl | rfl
              · exact ⟨1, by decide, rfl⟩
              · exact ⟨10 ^ 12, by decide, rfl⟩
              · exact ⟨3, by decide, rfl⟩
            obtain ⟨far, far0, hfar⟩ := pick
            refine ⟨_, _, _, _, rfl, rfl, SqL.of (b10 _ _ Ps upd_same), hfar, ?_⟩
            walk_at "go"
            intro D nD
            obtain ⟨fD, Ds⟩ := fresh_but (But.refl s H10) L10.st.some_s nD
            have sD := same_upd (o := .dK []) nD
            have lD : l ≠ D := fun z => by
              obtain ⟨o, ho⟩ := L10.st.some_l
              rw [z, nD] at ho
              cases ho
            have gD : g ≠ D := fun z => by
              obtain ⟨gy, ho, _⟩ := L10.gl
              rw [z, nD] at ho
              cases ho
            have L11 := L10.but (But.of sD) (L10.st.keep sD)
            walk_at "go"
            refine ⟨3, rfl, by decide, by decide, for_range (lo := 0) (n := (3 : Int).toNat) (fun i σ H' => ∃ (v5 : Option V) (F : Tab), σ = [some (.ref a), some (.ref s), some (.ref r), some v0, some (.ref g), v5, some vc, some (.int (p : Nat)), v8, v9, v10, some (.int far), some (.ref D), none, none, none, none, none, none] ∧ FndA K H' D F ∧ RT F ∧ F.map (·.1) = (List.range i).map Int.ofNat ∧ LSt K H' s l g v0 vc q0 gs ds hd rows)
              ⟨none, [], rfl, ⟨[], upd_same, True.intro⟩, (fun q hq => nomatch hq), rfl, L11⟩ ?_ ?_⟩
            · rintro i σ H12 hi ⟨v5, F, rfl, fF, rt, fk, L12⟩
              have hi3 : i < 3 := hi
              rw [Int.zero_add]
              walk_at "go"
              refine ⟨_, _, rfl, rfl, .inl ⟨by decide, by decide⟩, ?_⟩
              walk_at "go"
              refine ⟨s, l, 7, rfl, L12.st, by decide, Nat.lt_of_lt_of_le (by decide) n9, fun c13 H13 c130 c131 b13 S13 => ?_⟩
              have L13 := L12.but b13 S13
              obtain ⟨kvs, eF, tF⟩ := fF.at_
              have lkv := TabK.len tF
              have lF : F.length = i := by
                have := congrArg List.length fk
                rwa [List.length_map, List.length_map, List.length_range] at this
              have t13 : TabK K H13 kvs F := TabK.mono (fun v ds hn hd => dp_but L12.st b13 hn hd) rt.tab.nd tF
              have e13 := b13 _ _ Ds eF
              walk_at "go"
              refine newN (n := 2) rfl (by decide) fun P1 nP1 => ?_
              have sP1 := same_upd (o := .tup [V.str (Str.ofString "v"), V.int (7 * (i : Int) + c13 + far)]) nP1
              walk_at "go"
              refine newN (n := 1) rfl (by decide) fun P2 nP2 => ?_
              have sP2 := same_upd (o := .tup [V.ref P1]) nP2
              have sPP := sP1.trans sP2
              have dv : Dp K (upd (upd H13 P1 (.tup [V.str (Str.ofString "v"), V.int (7 * (i : Int) + c13 + far)])) P2 (.tup [V.ref P1])) (.ref P2) (.tuple [vN (7 * (i : Int) + c13 + far)]) := .tup (SqT.of upd_same) (.cons (.tup (SqT.of (sP2 _ _ upd_same)) (.cons (.str _) (.cons (.int _) .nil))) .nil)
              have L14 := L13.but (But.of sPP) (L13.st.keep sPP)
              have e14 := sPP _ _ e13
              have t14 := tab_same sPP rt.tab.nd t13
              generalize (upd (upd H13 P1 (.tup [V.str (Str.ofString "v"), V.int (7 * (i : Int) + c13 + far)])) P2 (.tup [V.ref P1])) = H14 at dv L14 e14 t14 ⊢
              walk_at "go"
              have nt : notTup H14 D := .inr (.inl ⟨_, e14⟩)
              have n0 : 0 ≤ 7 * (i : Int) + c13 + far := by omega
              have iF : (i : Int) ∉ F.map (·.1) := fun w => by
                rw [fk] at w
                obtain ⟨j, hj, e⟩ := List.mem_map.mp w
                have : j < i := List.mem_range.mp hj
                have e : (j : Int) = (i : Int) := e
                omega
              refine ⟨D, _, rfl, DPut.k (k := Sum.inl (i : Int)) e14 (Nat.lt_of_le_of_lt (show _ ≤ 100000 by omega) (by decide)), ?_⟩
              refine ⟨_, F ++ [((i : Int), [vN (7 * (i : Int) + c13 + far)])], rfl, ⟨_, upd_same, TabK.add (tab_put nt rt.tab.nd t14) iF (dp_put nt _ _ (by simp [noL, noLA, vN]) dv)⟩, rt.snoc n0, ?_, L14.putD nt Ds.symm lD gD⟩
              rw [List.map_append, fk, List.range_succ, List.map_append]
              rfl
            · rintro σ H12 ⟨v5, F, rfl, fF, rt, fk, L12⟩
              walk_at "go"
              have len1 : ∀ ds : List PyData, (appM F ds).length = ds.length := fun ds => by rw [rn_app rt, List.length_map]
              refine ⟨D, F, v0, q0, rfl, fF, rt.tab.nd, L12.dq, L12.bq.t.2, by rw [len1]; exact Nat.le_trans L12.bq.len (by decide), fun v3 H13 s13 d13 => ?_⟩
              rw [rn_app rt] at d13
              have L13 := L12.but (But.of s13) (L12.st.keep s13)
              have f13 := fF.same' rt.tab.nd s13
              have bq13 := L13.bq.ren rt
              obtain ⟨gys, e13, g13⟩ := L13.gl
              have lgy := DpAll.len g13
              rw [List.length_map] at lgy
              have l3 := L13.lg
              walk_at "go"
              refine ⟨g, rfl, ⟨_, SqL.of e13⟩, fun N nN => ?_⟩
              have sN := same_upd (o := .lst []) nN
              obtain ⟨fN, Ns⟩ := fresh_but (But.refl s H13) L13.st.some_s nN
              have lN : l ≠ N := fun z => by
                obtain ⟨o, ho⟩ := L13.st.some_l
                rw [z, nN] at ho
                cases ho
              refine lc_it walk_list (fun i H' => Same H13 H' ∧ ∃ ys, H' N = some (.lst ys) ∧ DpAll K H' ys (((gs.map (List.map (rnD F))).take i).map PyData.tuple)) ⟨sN, [], upd_same, .nil⟩ (fun i H' _ h => same_sqL h.1 (SqL.of e13)) ?_ ?_
              · rintro i z H14 H15 hi ⟨s14, ys, e14, d14⟩ ⟨rfl, hz⟩
                obtain ⟨dd, hd', dz0⟩ := DpAll.getV g13 hz
                rw [List.getElem?_map] at hd'
                obtain ⟨t, ht, rfl⟩ := Option.map_eq_some_iff.mp hd'
                have Bt := L13.bg t (List.mem_of_getElem? ht)
                walk_at "wp"
                walk_at "go"
                refine ⟨rfl, ?_⟩
                walk_at "go"
                refine ⟨D, F, z, t, rfl, f13.same' rt.tab.nd s14, rt.tab.nd, dp_same s14 _ _ dz0, Bt.t.2, by rw [len1]; exact Nat.le_trans Bt.len (by decide), fun v H16 s16 d16 => ?_⟩
                rw [rn_app rt] at d16
                have e16 := s16 _ _ e14
                have ly := DpAll.len d14
                rw [List.length_map, List.length_take, List.length_map] at ly
                have nt : notTup H16 N := .inl ⟨_, e16⟩
                have g2 : (gs.map (List.map (rnD F)))[i]? = some (t.map (rnD F)) := by rw [List.getElem?_map, ht]; rfl
                have ndN : NdT (gs.map (List.map (rnD F))) := fun u hu => by
                  obtain ⟨t, ht, rfl⟩ := List.mem_map.mp hu
                  exact ((L13.bg t ht).ren rt).t.2
                refine ⟨ys, e16, Nat.lt_of_le_of_lt (show _ ≤ 100000 by omega) (by decide), same_new nN (s14.trans s16), ys ++ [v], upd_same, ?_⟩
                rw [List.take_add_one, g2, List.map_append]
                exact dpAll_end (dp_putAll nt _ _ (NdT.noL fun x hx => ndN x (List.mem_of_mem_take hx)) (dp_sameAll s16 _ _ d14)) (dp_put nt _ _ (tup_noL (ndN _ (List.mem_of_getElem? g2))) d16)
              · rintro H14 ⟨s14, ys, e14, d14⟩
                rw [lgy, ← List.length_map (List.map (rnD F)), List.take_length] at d14
                have S14 := L13.st.keep s14
                refine gname ?_
                refine hu _ _ ⟨v5, v8, v9, v10, some (.int far), some (.ref D), none, N, v3, vc, q0.map (rnD F), gs.map (List.map (rnD F)), ds, hd, rows, rfl, ⟨S14, ⟨ys, e14, d14⟩, Ns, lN, dp_same s14 _ _ d13, bq13, fun t ht => ?_, by rw [List.length_map]; exact l3, dp_same s14 _ _ L13.dc, L13.C⟩, by rw [List.length_map]; exact hp⟩
                obtain ⟨u, hu, rfl⟩ := List.mem_map.mp ht
                exact (L13.bg u hu).ren rt
          · exact hu _ _ ⟨none, v8, v9, v10, none, none, none, g, v0, vc, q0, gs, ds, hd, rows, rfl, L9, hp⟩
      · walk_at "go"
        refine ⟨s, l, 8, rfl, S7, by decide, Nat.lt_of_lt_of_le (by decide) n9, fun c8 H8 c80 c81 b8 S8 => ?_⟩
        have L8 := L7.but b8 S8
        walk_at "go"
        refine ite2 (fun e8 => ?_) (fun e8 => ?_)
        · refine seq_asg ?_
          refine lit_tup (K := K) (ds := [vN 0]) ?_ (by decide) H8 _ fun w8 H9 t9 j9 => ?_
          · unfold vN
            walk_at "lits"
          refine gname (seq_asg ?_)
          refine lit_tup (K := K) (ds := [vN 1]) ?_ (by decide) H9 _ fun w9 H10 t10 j10 => ?_
          · unfold vN
            walk_at "lits"
          have t810 := t9.trans t10
          have L10 := L8.but (But.of t810) (S8.keep t810)
          have dx : Dp K H10 w8 (.tuple [vN 0]) := dp_same t10 _ _ (Im.dp _ _ j9)
          have dy' : Dp K H10 w9 (.tuple [vN 1]) := Im.dp _ _ j10
          refine gname ?_
          walk_at "go"
          refine ⟨s, l, rfl, L10.st, fun vl dl H11 Bl b11 S11 d11 => ?_⟩
          have L11 := L10.but b11 S11
          have dx11 := dp_but L10.st b11 (v012 (by decide)) dx
          have dy11 := dp_but L10.st b11 (v012 (by decide)) dy'
          obtain ⟨gys1, e11, dg11⟩ := L11.gl
          have lg1 := DpAll.len dg11
          rw [List.length_map] at lg1
          simp only [List.set_cons_succ, List.set_cons_zero]
          walk_at "go"
          refine ⟨g, gys1, (p : Nat), p, rfl, rfl, e11, ixN_nat (by omega), ?_⟩
          have L12 := L11.set (p := p) e11 Bl d11
          have nt11 : notTup H11 g := .inl ⟨_, e11⟩
          have dx12 := dp_put (o := .lst (gys1.set p vl)) nt11 _ _ (tup_noL (v012 (n := 0) (by decide))) dx11
          have dy12 := dp_put (o := .lst (gys1.set p vl)) nt11 _ _ (tup_noL (v012 (n := 1) (by decide))) dy11
          generalize upd H11 g (.lst (gys1.set p vl)) = H12 at L12 dx12 dy12 ⊢
          refine seq_asg ?_
          refine ev_do (K := K) (ev_cat (ev_cat (ev_cat (ev_lit (ds := [nodeF "q" 2, nodeF "." 2]) (by unfold nodeF; walk_at "lits")) (ev_var rfl dx12) (Nat.le_of_ble_eq_true rfl)) (ev_var rfl dx12) (Nat.le_of_ble_eq_true rfl)) (ev_var rfl dy12) (Nat.le_of_ble_eq_true rfl)) (Same.refl _) fun w13 H13 s13 d13 => ?_
          have L13 := L12.but (But.of s13) (L12.st.keep s13)
          have dx13 := dp_same s13 _ _ dx12
          have dy13 := dp_same s13 _ _ dy12
          refine gname (asg1 ?_)
          simp only [List.set_cons_succ, List.set_cons_zero]
          refine ev_do (K := K) (ev_cat (ev_cat (ev_cat (ev_cat (ev_cat (ev_lit (ds := [clN, nodeF "q" 2]) (by unfold clN nodeF; walk_at "lits")) (ev_var rfl dx13) (Nat.le_of_ble_eq_true rfl)) (ev_var rfl dy13) (Nat.le_of_ble_eq_true rfl)) (ev_lit (ds := [commaN]) (by unfold commaN nodeF; walk_at "lits")) (Nat.le_of_ble_eq_true rfl)) (ev_var rfl d13) (Nat.le_of_ble_eq_true rfl)) (ev_var rfl d13) (Nat.le_of_ble_eq_true rfl)) (Same.refl _) fun w14 H14 s14 d14 => ?_
          have L14 := L13.but (But.of s14) (L13.st.keep s14)
          have C14 := rule2 (row2 okP2.2.1 (lf_v (n := 0) (by decide)) (lf_v (n := 1) (by decide))) isG2.2.1 pair_ok isG2.2.1 pair_ok isG2.2.1
          refine gname ?_
          exact hu _ _ ⟨some w8, some w9, some w13, w14, gs.set p dl, _, _, _, rfl, ⟨L14.st, L14.gl, L14.ns, L14.gl2, L14.dq, L14.bq, L14.bg, L14.lg, d14, C14⟩, by rw [List.length_set]; exact hp⟩
        · exact hu _ _ ⟨none, none, none, vc, gs, dc, hd, rows, rfl, L8, hp⟩

end
/-! ### the end -/
theorem all_mk {l : PySem.W.OpenLaw} {w : World} {K : PySem.W.Frag} {h : Heap} {mg : Str → Option Value} {fa f1 f2 f3 f4 f5 f6 f7 f8 f9 f10 f11 f12 f13 f14 f15 f16 f17 f18 f19 f20 f21 f22 f23 f24 f25 f26 f27 f28 f29 f30 f31 f32 f33 f34 f35 f36 f37 f38 f39 f40 f41 f42 f43 f44 f45 f46 f47 f48 f49 f50 : Addr} (X : K.In h) (G : h.Ns mainGlobals mg) (hfa : mg "law" = some (.ref fa))
    {od1 an1 od2 an2 od3 an3 od4 an4 od5 an5 od6 an6 od7 an7 od8 an8 od9 an9 od10 an10 od11 an11 od12 an12 od13 an13 od14 an14 od15 an15 od16 an16 od17 an17 od18 an18 od19 an19 od20 an20 od21 an21 od22 an22 od23 an23 od24 an24 od25 an25 od26 an26 od27 an27 od28 an28 od29 an29 od30 an30 od31 an31 od32 an32 od33 an33 od34 an34 od35 an35 od36 an36 od37 an37 od38 an38 od39 an39 od40 an40 od41 an41 od42 an42 od43 an43 od44 an44 od45 an45 od46 an46 od47 an47 od48 an48 od49 an49 od50 an50 : Option Addr} {sl1 sl2 sl3 sl4 sl5 sl6 sl7 sl8 sl9 sl10 sl11 sl12 sl13 sl14 sl15 sl16 sl17 sl18 sl19 sl20 sl21 sl22 sl23 sl24 sl25 sl26 sl27 sl28 sl29 sl30 sl31 sl32 sl33 sl34 sl35 sl36 sl37 sl38 sl39 sl40 sl41 sl42 sl43 sl44 sl45 sl46 sl47 sl48 sl49 sl50 : Array (Option Value)} {oc1 kV1 dc1 pm1 cd1 ct1 oc2 kV2 dc2 pm2 cd2 ct2 oc3 kV3 dc3 pm3 cd3 ct3 oc4 kV4 dc4 pm4 cd4 ct4 oc5 kV5 dc5 pm5 cd5 ct5 oc6 kV6 dc6 pm6 cd6 ct6 oc7 kV7 dc7 pm7 cd7 ct7 oc8 kV8 dc8 pm8 cd8 ct8 oc9 kV9 dc9 pm9 cd9 ct9 oc10 kV10 dc10 pm10 cd10 ct10 oc11 kV11 dc11 pm11 cd11 ct11 oc12 kV12 dc12 pm12 cd12 ct12 oc13 kV13 dc13 pm13 cd13 ct13 oc14 kV14 dc14 pm14 cd14 ct14 oc15 kV15 dc15 pm15 cd15 ct15 oc16 kV16 dc16 pm16 cd16 ct16 oc17 kV17 dc17 pm17 cd17 ct17 oc18 kV18 dc18 pm18 cd18 ct18 oc19 kV19 dc19 pm19 cd19 ct19 oc20 kV20 dc20 pm20 cd20 ct20 oc21 kV21 dc21 pm21 cd21 ct21 oc22 kV22 dc22 pm22 cd22 ct22 oc23 kV23 dc23 pm23 cd23 ct23 oc24 kV24 dc24 pm24 cd24 ct24 oc25 kV25 dc25 pm25 cd25 ct25 oc26 kV26 dc26 pm26 cd26 ct26 oc27 kV27 dc27 pm27 cd27 ct27 oc28 kV28 dc28 pm28 cd28 ct28 oc29 kV29 dc29 pm29 cd29 ct29 oc30 kV30 dc30 pm30 cd30 ct30 oc31 kV31 dc31 pm31 cd31 ct31 oc32 kV32 dc32 pm32 cd32 ct32 oc33 kV33 dc33 pm33 cd33 ct33 oc34 kV34 dc34 pm34 cd34 ct34 oc35 kV35 dc35 pm35 cd35 ct35 oc36 kV36 dc36 pm36 cd36 ct36 oc37 kV37 dc37 pm37 cd37 ct37 oc38 kV38 dc38 pm38 cd38 ct38 oc39 kV39 dc39 pm39 cd39 ct39 oc40 kV40 dc40 pm40 cd40 ct40 oc41 kV41 dc41 pm41 cd41 ct41 oc42 kV42 dc42 pm42 cd42 ct42 oc43 kV43 dc43 pm43 cd43 ct43 oc44 kV44 dc44 pm44 cd44 ct44 oc45 kV45 dc45 pm45 cd45 ct45 oc46 kV46 dc46 pm46 cd46 ct46 oc47 kV47 dc47 pm47 cd47 ct47 oc48 kV48 dc48 pm48 cd48 ct48 oc49 kV49 dc49 pm49 cd49 ct49 oc50 kV50 dc50 pm50 cd50 ct50 : Value} {tk0 : Tok} {tk6 : Tok}
 {T5o : Addr} {td5 : Option Addr} {tn5 : Nat} {ts5 : Array (Option Value)} {tt5_0 : Tok} {T6o : Addr} {td6 : Option Addr} {tn6 : Nat} {ts6 : Array (Option Value)} {tt6_0 : Tok}
    {PC0 : Addr} (pa0 : PySem.W.nsIn K mainGlobals "Side" = some (some (.ref PC0))) (pg0 : PySem.W.plainGet K PC0 Str.empty = true) (phd0 : PySem.W.hasDictIn K PC0 = true) (po0 : PySem.W.plainOver K PC0 = true) (psa0 : PySem.W.findIn K (.ref PC0) "__setattr__" = some (some (.builtin "object.__setattr__"))) (pm0k : PySem.W.makesIn K PC0 = true) (pk0 : PySem.W.keepIn K (.ref PC0) = true)
    (pn0_0 : PySem.W.findIn K (.ref PC0) "rest" = some none)
    (pn0_1 : PySem.W.findIn K (.ref PC0) "total" = some none)
    (pn0_2 : PySem.W.findIn K (.ref PC0) "counts" = some none)
    (a1 : PySem.W.nsIn K mainGlobals "is_variable" = some (some (.ref f1))) (l1 : K.lookup f1 = some ⟨oc1, od1, .func (PySem.W.fnOf "is_variable" "is_variable" (defArgs s_is_variable) (defBody s_is_variable) (defScope s_is_variable) .none kV1 dc1 pm1 an1 cd1 ct1), sl1⟩) (c1 : PySem.W.codeIn K cd1 "is_variable" = true) (k1 : PySem.W.keepIn K (.ref f1) = true)
    (a2 : PySem.W.nsIn K mainGlobals "is_symbol" = some (some (.ref f2))) (l2 : K.lookup f2 = some ⟨oc2, od2, .func (PySem.W.fnOf "is_symbol" "is_symbol" (defArgs s_is_symbol) (defBody s_is_symbol) (defScope s_is_symbol) .none kV2 dc2 pm2 an2 cd2 ct2), sl2⟩) (c2 : PySem.W.codeIn K cd2 "is_symbol" = true) (k2 : PySem.W.keepIn K (.ref f2) = true)
    (a3 : PySem.W.nsIn K mainGlobals "arity_of" = some (some (.ref f3))) (l3 : K.lookup f3 = some ⟨oc3, od3, .func (PySem.W.fnOf "arity_of" "arity_of" (defArgs s_arity_of) (defBody s_arity_of) (defScope s_arity_of) .none kV3 dc3 pm3 an3 cd3 ct3), sl3⟩) (c3 : PySem.W.codeIn K cd3 "arity_of" = true) (k3 : PySem.W.keepIn K (.ref f3) = true)
    (a4 : PySem.W.nsIn K mainGlobals "end_of" = some (some (.ref f4))) (l4 : K.lookup f4 = some ⟨oc4, od4, .func (PySem.W.fnOf "end_of" "end_of" (defArgs s_end_of) (defBody s_end_of) (defScope s_end_of) .none kV4 dc4 pm4 an4 cd4 ct4), sl4⟩) (c4 : PySem.W.codeIn K cd4 "end_of" = true) (k4 : PySem.W.keepIn K (.ref f4) = true)
    (a5 : PySem.W.nsIn K mainGlobals "renumber" = some (some (.ref f5))) (l5 : K.lookup f5 = some ⟨oc5, od5, .func (PySem.W.fnOf "renumber" "renumber" (defArgs s_renumber) (defBody s_renumber) (defScope s_renumber) (.ref T5o) kV5 dc5 pm5 an5 cd5 ct5), sl5⟩) (c5 : PySem.W.codeIn K cd5 "renumber" = true) (k5 : PySem.W.keepIn K (.ref f5) = true)
    (t5 : K.lookup T5o = some ⟨.type "tuple", td5, .seq #[.int 0 tt5_0] tn5, ts5⟩)
    (a6 : PySem.W.nsIn K mainGlobals "renumber_together" = some (some (.ref f6))) (l6 : K.lookup f6 = some ⟨oc6, od6, .func (PySem.W.fnOf "renumber_together" "renumber_together" (defArgs s_renumber_together) (defBody s_renumber_together) (defScope s_renumber_together) (.ref T6o) kV6 dc6 pm6 an6 cd6 ct6), sl6⟩) (c6 : PySem.W.codeIn K cd6 "renumber_together" = true) (k6 : PySem.W.keepIn K (.ref f6) = true)
    (t6 : K.lookup T6o = some ⟨.type "tuple", td6, .seq #[.int 0 tt6_0] tn6, ts6⟩)
    (a7 : PySem.W.nsIn K mainGlobals "next_number" = some (some (.ref f7))) (l7 : K.lookup f7 = some ⟨oc7, od7, .func (PySem.W.fnOf "next_number" "next_number" (defArgs s_next_number) (defBody s_next_number) (defScope s_next_number) .none kV7 dc7 pm7 an7 cd7 ct7), sl7⟩) (c7 : PySem.W.codeIn K cd7 "next_number" = true) (k7 : PySem.W.keepIn K (.ref f7) = true)
    (a8 : PySem.W.nsIn K mainGlobals "is_control" = some (some (.ref f8))) (l8 : K.lookup f8 = some ⟨oc8, od8, .func (PySem.W.fnOf "is_control" "is_control" (defArgs s_is_control) (defBody s_is_control) (defScope s_is_control) .none kV8 dc8 pm8 an8 cd8 ct8), sl8⟩) (c8 : PySem.W.codeIn K cd8 "is_control" = true) (k8 : PySem.W.keepIn K (.ref f8) = true)
    (a9 : PySem.W.nsIn K mainGlobals "is_built_in" = some (some (.ref f9))) (l9 : K.lookup f9 = some ⟨oc9, od9, .func (PySem.W.fnOf "is_built_in" "is_built_in" (defArgs s_is_built_in) (defBody s_is_built_in) (defScope s_is_built_in) .none kV9 dc9 pm9 an9 cd9 ct9), sl9⟩) (c9 : PySem.W.codeIn K cd9 "is_built_in" = true) (k9 : PySem.W.keepIn K (.ref f9) = true)
    (a10 : PySem.W.nsIn K mainGlobals "split_clause" = some (some (.ref f10))) (l10 : K.lookup f10 = some ⟨oc10, od10, .func (PySem.W.fnOf "split_clause" "split_clause" (defArgs s_split_clause) (defBody s_split_clause) (defScope s_split_clause) .none kV10 dc10 pm10 an10 cd10 ct10), sl10⟩) (c10 : PySem.W.codeIn K cd10 "split_clause" = true) (k10 : PySem.W.keepIn K (.ref f10) = true)
    (a11 : PySem.W.findIn K (.ref PC0) "__init__" = some (some (.ref f11))) (i11 : PySem.W.isFn K (.ref f11) = true) (l11 : K.lookup f11 = some ⟨oc11, od11, .func (PySem.W.fnOf "__init__" "Side.__init__" (defArgs s_Side___init__) (defBody s_Side___init__) (defScope s_Side___init__) .none kV11 dc11 pm11 an11 cd11 ct11), sl11⟩) (c11 : PySem.W.codeIn K cd11 "Side.__init__" = true) (k11 : PySem.W.keepIn K (.ref f11) = true)
    (a12 : PySem.W.findIn K (.ref PC0) "add_variables" = some (some (.ref f12))) (i12 : PySem.W.isFn K (.ref f12) = true) (l12 : K.lookup f12 = some ⟨oc12, od12, .func (PySem.W.fnOf "add_variables" "Side.add_variables" (defArgs s_Side_add_variables) (defBody s_Side_add_variables) (defScope s_Side_add_variables) .none kV12 dc12 pm12 an12 cd12 ct12), sl12⟩) (c12 : PySem.W.codeIn K cd12 "Side.add_variables" = true) (k12 : PySem.W.keepIn K (.ref f12) = true)
    (a13 : PySem.W.findIn K (.ref PC0) "take" = some (some (.ref f13))) (i13 : PySem.W.isFn K (.ref f13) = true) (l13 : K.lookup f13 = some ⟨oc13, od13, .func (PySem.W.fnOf "take" "Side.take" (defArgs s_Side_take) (defBody s_Side_take) (defScope s_Side_take) .none kV13 dc13 pm13 an13 cd13 ct13), sl13⟩) (c13 : PySem.W.codeIn K cd13 "Side.take" = true) (k13 : PySem.W.keepIn K (.ref f13) = true)
    (a14 : PySem.W.findIn K (.ref PC0) "take_rest" = some (some (.ref f14))) (i14 : PySem.W.isFn K (.ref f14) = true) (l14 : K.lookup f14 = some ⟨oc14, od14, .func (PySem.W.fnOf "take_rest" "Side.take_rest" (defArgs s_Side_take_rest) (defBody s_Side_take_rest) (defScope s_Side_take_rest) .none kV14 dc14 pm14 an14 cd14 ct14), sl14⟩) (c14 : PySem.W.codeIn K cd14 "Side.take_rest" = true) (k14 : PySem.W.keepIn K (.ref f14) = true)
    (a15 : PySem.W.findIn K (.ref PC0) "bind" = some (some (.ref f15))) (i15 : PySem.W.isFn K (.ref f15) = true) (l15 : K.lookup f15 = some ⟨oc15, od15, .func (PySem.W.fnOf "bind" "Side.bind" (defArgs s_Side_bind) (defBody s_Side_bind) (defScope s_Side_bind) .none kV15 dc15 pm15 an15 cd15 ct15), sl15⟩) (c15 : PySem.W.codeIn K cd15 "Side.bind" = true) (k15 : PySem.W.keepIn K (.ref f15) = true)
    (a16 : PySem.W.nsIn K mainGlobals "apply" = some (some (.ref f16))) (l16 : K.lookup f16 = some ⟨oc16, od16, .func (PySem.W.fnOf "apply" "apply" (defArgs s_apply) (defBody s_apply) (defScope s_apply) .none kV16 dc16 pm16 an16 cd16 ct16), sl16⟩) (c16 : PySem.W.codeIn K cd16 "apply" = true) (k16 : PySem.W.keepIn K (.ref f16) = true)
    (a17 : PySem.W.nsIn K mainGlobals "settle" = some (some (.ref f17))) (l17 : K.lookup f17 = some ⟨oc17, od17, .func (PySem.W.fnOf "settle" "settle" (defArgs s_settle) (defBody s_settle) (defScope s_settle) .none kV17 dc17 pm17 an17 cd17 ct17), sl17⟩) (c17 : PySem.W.codeIn K cd17 "settle" = true) (k17 : PySem.W.keepIn K (.ref f17) = true)
    (a18 : PySem.W.nsIn K mainGlobals "unify" = some (some (.ref f18))) (l18 : K.lookup f18 = some ⟨oc18, od18, .func (PySem.W.fnOf "unify" "unify" (defArgs s_unify) (defBody s_unify) (defScope s_unify) .none kV18 dc18 pm18 an18 cd18 ct18), sl18⟩) (c18 : PySem.W.codeIn K cd18 "unify" = true) (k18 : PySem.W.keepIn K (.ref f18) = true)
    (a19 : PySem.W.nsIn K mainGlobals "unify_within" = some (some (.ref f19))) (l19 : K.lookup f19 = some ⟨oc19, od19, .func (PySem.W.fnOf "unify_within" "unify_within" (defArgs s_unify_within) (defBody s_unify_within) (defScope s_unify_within) .none kV19 dc19 pm19 an19 cd19 ct19), sl19⟩) (c19 : PySem.W.codeIn K cd19 "unify_within" = true) (k19 : PySem.W.keepIn K (.ref f19) = true)
    (a20 : PySem.W.nsIn K mainGlobals "check_goal" = some (some (.ref f20))) (l20 : K.lookup f20 = some ⟨oc20, od20, .func (PySem.W.fnOf "check_goal" "check_goal" (defArgs s_check_goal) (defBody s_check_goal) (defScope s_check_goal) .none kV20 dc20 pm20 an20 cd20 ct20), sl20⟩) (c20 : PySem.W.codeIn K cd20 "check_goal" = true) (k20 : PySem.W.keepIn K (.ref f20) = true)
    (a21 : PySem.W.nsIn K mainGlobals "goals_of" = some (some (.ref f21))) (l21 : K.lookup f21 = some ⟨oc21, od21, .func (PySem.W.fnOf "goals_of" "goals_of" (defArgs s_goals_of) (defBody s_goals_of) (defScope s_goals_of) .none kV21 dc21 pm21 an21 cd21 ct21), sl21⟩) (c21 : PySem.W.codeIn K cd21 "goals_of" = true) (k21 : PySem.W.keepIn K (.ref f21) = true)
    (a22 : PySem.W.nsIn K mainGlobals "head_and_goals" = some (some (.ref f22))) (l22 : K.lookup f22 = some ⟨oc22, od22, .func (PySem.W.fnOf "head_and_goals" "head_and_goals" (defArgs s_head_and_goals) (defBody s_head_and_goals) (defScope s_head_and_goals) .none kV22 dc22 pm22 an22 cd22 ct22), sl22⟩) (c22 : PySem.W.codeIn K cd22 "head_and_goals" = true) (k22 : PySem.W.keepIn K (.ref f22) = true)
    (a23 : PySem.W.nsIn K mainGlobals "renamed" = some (some (.ref f23))) (l23 : K.lookup f23 = some ⟨oc23, od23, .func (PySem.W.fnOf "renamed" "renamed" (defArgs s_renamed) (defBody s_renamed) (defScope s_renamed) .none kV23 dc23 pm23 an23 cd23 ct23), sl23⟩) (c23 : PySem.W.codeIn K cd23 "renamed" = true) (k23 : PySem.W.keepIn K (.ref f23) = true)
    (a24 : PySem.W.nsIn K mainGlobals "check_size" = some (some (.ref f24))) (l24 : K.lookup f24 = some ⟨oc24, od24, .func (PySem.W.fnOf "check_size" "check_size" (defArgs s_check_size) (defBody s_check_size) (defScope s_check_size) .none kV24 dc24 pm24 an24 cd24 ct24), sl24⟩) (c24 : PySem.W.codeIn K cd24 "check_size" = true) (k24 : PySem.W.keepIn K (.ref f24) = true)
    (a25 : PySem.W.nsIn K mainGlobals "resolved" = some (some (.ref f25))) (l25 : K.lookup f25 = some ⟨oc25, od25, .func (PySem.W.fnOf "resolved" "resolved" (defArgs s_resolved) (defBody s_resolved) (defScope s_resolved) .none kV25 dc25 pm25 an25 cd25 ct25), sl25⟩) (c25 : PySem.W.codeIn K cd25 "resolved" = true) (k25 : PySem.W.keepIn K (.ref f25) = true)
    (a26 : PySem.W.nsIn K mainGlobals "resolve" = some (some (.ref f26))) (l26 : K.lookup f26 = some ⟨oc26, od26, .func (PySem.W.fnOf "resolve" "resolve" (defArgs s_resolve) (defBody s_resolve) (defScope s_resolve) .none kV26 dc26 pm26 an26 cd26 ct26), sl26⟩) (c26 : PySem.W.codeIn K cd26 "resolve" = true) (k26 : PySem.W.keepIn K (.ref f26) = true)
    (a27 : PySem.W.nsIn K mainGlobals "_law_stream" = some (some (.ref f27))) (l27 : K.lookup f27 = some ⟨oc27, od27, .func (PySem.W.fnOf "_law_stream" "_law_stream" (defArgs s__law_stream) (defBody s__law_stream) (defScope s__law_stream) .none kV27 dc27 pm27 an27 cd27 ct27), sl27⟩) (c27 : PySem.W.codeIn K cd27 "_law_stream" = true) (k27 : PySem.W.keepIn K (.ref f27) = true)
    (a28 : PySem.W.nsIn K mainGlobals "_law_draw" = some (some (.ref f28))) (l28 : K.lookup f28 = some ⟨oc28, od28, .func (PySem.W.fnOf "_law_draw" "_law_draw" (defArgs s__law_draw) (defBody s__law_draw) (defScope s__law_draw) .none kV28 dc28 pm28 an28 cd28 ct28), sl28⟩) (c28 : PySem.W.codeIn K cd28 "_law_draw" = true) (k28 : PySem.W.keepIn K (.ref f28) = true)
    (a29 : PySem.W.nsIn K mainGlobals "_law_is_variable" = some (some (.ref f29))) (l29 : K.lookup f29 = some ⟨oc29, od29, .func (PySem.W.fnOf "_law_is_variable" "_law_is_variable" (defArgs s__law_is_variable) (defBody s__law_is_variable) (defScope s__law_is_variable) .none kV29 dc29 pm29 an29 cd29 ct29), sl29⟩) (c29 : PySem.W.codeIn K cd29 "_law_is_variable" = true) (k29 : PySem.W.keepIn K (.ref f29) = true)
    (a30 : PySem.W.nsIn K mainGlobals "_law_end" = some (some (.ref f30))) (l30 : K.lookup f30 = some ⟨oc30, od30, .func (PySem.W.fnOf "_law_end" "_law_end" (defArgs s__law_end) (defBody s__law_end) (defScope s__law_end) .none kV30 dc30 pm30 an30 cd30 ct30), sl30⟩) (c30 : PySem.W.codeIn K cd30 "_law_end" = true) (k30 : PySem.W.keepIn K (.ref f30) = true)
    (a31 : PySem.W.nsIn K mainGlobals "_law_parts" = some (some (.ref f31))) (l31 : K.lookup f31 = some ⟨oc31, od31, .func (PySem.W.fnOf "_law_parts" "_law_parts" (defArgs s__law_parts) (defBody s__law_parts) (defScope s__law_parts) .none kV31 dc31 pm31 an31 cd31 ct31), sl31⟩) (c31 : PySem.W.codeIn K cd31 "_law_parts" = true) (k31 : PySem.W.keepIn K (.ref f31) = true)
    (a32 : PySem.W.nsIn K mainGlobals "_law_put" = some (some (.ref f32))) (l32 : K.lookup f32 = some ⟨oc32, od32, .func (PySem.W.fnOf "_law_put" "_law_put" (defArgs s__law_put) (defBody s__law_put) (defScope s__law_put) .none kV32 dc32 pm32 an32 cd32 ct32), sl32⟩) (c32 : PySem.W.codeIn K cd32 "_law_put" = true) (k32 : PySem.W.keepIn K (.ref f32) = true)
    (a33 : PySem.W.nsIn K mainGlobals "_law_numbered" = some (some (.ref f33))) (l33 : K.lookup f33 = some ⟨oc33, od33, .func (PySem.W.fnOf "_law_numbered" "_law_numbered" (defArgs s__law_numbered) (defBody s__law_numbered) (defScope s__law_numbered) .none kV33 dc33 pm33 an33 cd33 ct33), sl33⟩) (c33 : PySem.W.codeIn K cd33 "_law_numbered" = true) (k33 : PySem.W.keepIn K (.ref f33) = true)
    (a34 : PySem.W.nsIn K mainGlobals "_law_fresh" = some (some (.ref f34))) (l34 : K.lookup f34 = some ⟨oc34, od34, .func (PySem.W.fnOf "_law_fresh" "_law_fresh" (defArgs s__law_fresh) (defBody s__law_fresh) (defScope s__law_fresh) .none kV34 dc34 pm34 an34 cd34 ct34), sl34⟩) (c34 : PySem.W.codeIn K cd34 "_law_fresh" = true) (k34 : PySem.W.keepIn K (.ref f34) = true)
    (a35 : PySem.W.nsIn K mainGlobals "_law_bound" = some (some (.ref f35))) (l35 : K.lookup f35 = some ⟨oc35, od35, .func (PySem.W.fnOf "_law_bound" "_law_bound" (defArgs s__law_bound) (defBody s__law_bound) (defScope s__law_bound) .none kV35 dc35 pm35 an35 cd35 ct35), sl35⟩) (c35 : PySem.W.codeIn K cd35 "_law_bound" = true) (k35 : PySem.W.keepIn K (.ref f35) = true)
    (a36 : PySem.W.nsIn K mainGlobals "_law_unify" = some (some (.ref f36))) (l36 : K.lookup f36 = some ⟨oc36, od36, .func (PySem.W.fnOf "_law_unify" "_law_unify" (defArgs s__law_unify) (defBody s__law_unify) (defScope s__law_unify) .none kV36 dc36 pm36 an36 cd36 ct36), sl36⟩) (c36 : PySem.W.codeIn K cd36 "_law_unify" = true) (k36 : PySem.W.keepIn K (.ref f36) = true)
    (a37 : PySem.W.nsIn K mainGlobals "_law_conjuncts" = some (some (.ref f37))) (l37 : K.lookup f37 = some ⟨oc37, od37, .func (PySem.W.fnOf "_law_conjuncts" "_law_conjuncts" (defArgs s__law_conjuncts) (defBody s__law_conjuncts) (defScope s__law_conjuncts) .none kV37 dc37 pm37 an37 cd37 ct37), sl37⟩) (c37 : PySem.W.codeIn K cd37 "_law_conjuncts" = true) (k37 : PySem.W.keepIn K (.ref f37) = true)
    (a38 : PySem.W.nsIn K mainGlobals "_law_row" = some (some (.ref f38))) (l38 : K.lookup f38 = some ⟨oc38, od38, .func (PySem.W.fnOf "_law_row" "_law_row" (defArgs s__law_row) (defBody s__law_row) (defScope s__law_row) .none kV38 dc38 pm38 an38 cd38 ct38), sl38⟩) (c38 : PySem.W.codeIn K cd38 "_law_row" = true) (k38 : PySem.W.keepIn K (.ref f38) = true)
    (a39 : PySem.W.nsIn K mainGlobals "_law_resolve" = some (some (.ref f39))) (l39 : K.lookup f39 = some ⟨oc39, od39, .func (PySem.W.fnOf "_law_resolve" "_law_resolve" (defArgs s__law_resolve) (defBody s__law_resolve) (defScope s__law_resolve) .none kV39 dc39 pm39 an39 cd39 ct39), sl39⟩) (c39 : PySem.W.codeIn K cd39 "_law_resolve" = true) (k39 : PySem.W.keepIn K (.ref f39) = true)
    (a40 : PySem.W.nsIn K mainGlobals "_law_leaf" = some (some (.ref f40))) (l40 : K.lookup f40 = some ⟨oc40, od40, .func (PySem.W.fnOf "_law_leaf" "_law_leaf" (defArgs s__law_leaf) (defBody s__law_leaf) (defScope s__law_leaf) .none kV40 dc40 pm40 an40 cd40 ct40), sl40⟩) (c40 : PySem.W.codeIn K cd40 "_law_leaf" = true) (k40 : PySem.W.keepIn K (.ref f40) = true)
    (a41 : PySem.W.nsIn K mainGlobals "_law_argument" = some (some (.ref f41))) (l41 : K.lookup f41 = some ⟨oc41, od41, .func (PySem.W.fnOf "_law_argument" "_law_argument" (defArgs s__law_argument) (defBody s__law_argument) (defScope s__law_argument) .none kV41 dc41 pm41 an41 cd41 ct41), sl41⟩) (c41 : PySem.W.codeIn K cd41 "_law_argument" = true) (k41 : PySem.W.keepIn K (.ref f41) = true)
    (a42 : PySem.W.nsIn K mainGlobals "_law_atom_of" = some (some (.ref f42))) (l42 : K.lookup f42 = some ⟨oc42, od42, .func (PySem.W.fnOf "_law_atom_of" "_law_atom_of" (defArgs s__law_atom_of) (defBody s__law_atom_of) (defScope s__law_atom_of) .none kV42 dc42 pm42 an42 cd42 ct42), sl42⟩) (c42 : PySem.W.codeIn K cd42 "_law_atom_of" = true) (k42 : PySem.W.keepIn K (.ref f42) = true)
    (a43 : PySem.W.nsIn K mainGlobals "_law_joined" = some (some (.ref f43))) (l43 : K.lookup f43 = some ⟨oc43, od43, .func (PySem.W.fnOf "_law_joined" "_law_joined" (defArgs s__law_joined) (defBody s__law_joined) (defScope s__law_joined) .none kV43 dc43 pm43 an43 cd43 ct43), sl43⟩) (c43 : PySem.W.codeIn K cd43 "_law_joined" = true) (k43 : PySem.W.keepIn K (.ref f43) = true)
    (a44 : PySem.W.nsIn K mainGlobals "_law_clause" = some (some (.ref f44))) (l44 : K.lookup f44 = some ⟨oc44, od44, .func (PySem.W.fnOf "_law_clause" "_law_clause" (defArgs s__law_clause) (defBody s__law_clause) (defScope s__law_clause) .none kV44 dc44 pm44 an44 cd44 ct44), sl44⟩) (c44 : PySem.W.codeIn K cd44 "_law_clause" = true) (k44 : PySem.W.keepIn K (.ref f44) = true)
    (a45 : PySem.W.nsIn K mainGlobals "_law_atom" = some (some (.ref f45))) (l45 : K.lookup f45 = some ⟨oc45, od45, .func (PySem.W.fnOf "_law_atom" "_law_atom" (defArgs s__law_atom) (defBody s__law_atom) (defScope s__law_atom) .none kV45 dc45 pm45 an45 cd45 ct45), sl45⟩) (c45 : PySem.W.codeIn K cd45 "_law_atom" = true) (k45 : PySem.W.keepIn K (.ref f45) = true)
    (a46 : PySem.W.nsIn K mainGlobals "_law_known" = some (some (.ref f46))) (l46 : K.lookup f46 = some ⟨oc46, od46, .func (PySem.W.fnOf "_law_known" "_law_known" (defArgs s__law_known) (defBody s__law_known) (defScope s__law_known) .none kV46 dc46 pm46 an46 cd46 ct46), sl46⟩) (c46 : PySem.W.codeIn K cd46 "_law_known" = true) (k46 : PySem.W.keepIn K (.ref f46) = true)
    (a47 : PySem.W.nsIn K mainGlobals "_law_program" = some (some (.ref f47))) (l47 : K.lookup f47 = some ⟨oc47, od47, .func (PySem.W.fnOf "_law_program" "_law_program" (defArgs s__law_program) (defBody s__law_program) (defScope s__law_program) .none kV47 dc47 pm47 an47 cd47 ct47), sl47⟩) (c47 : PySem.W.codeIn K cd47 "_law_program" = true) (k47 : PySem.W.keepIn K (.ref f47) = true)
    (a48 : PySem.W.nsIn K mainGlobals "_law_query" = some (some (.ref f48))) (l48 : K.lookup f48 = some ⟨oc48, od48, .func (PySem.W.fnOf "_law_query" "_law_query" (defArgs s__law_query) (defBody s__law_query) (defScope s__law_query) .none kV48 dc48 pm48 an48 cd48 ct48), sl48⟩) (c48 : PySem.W.codeIn K cd48 "_law_query" = true) (k48 : PySem.W.keepIn K (.ref f48) = true)
    (a49 : PySem.W.nsIn K mainGlobals "_law_large" = some (some (.ref f49))) (l49 : K.lookup f49 = some ⟨oc49, od49, .func (PySem.W.fnOf "_law_large" "_law_large" (defArgs s__law_large) (defBody s__law_large) (defScope s__law_large) .none kV49 dc49 pm49 an49 cd49 ct49), sl49⟩) (c49 : PySem.W.codeIn K cd49 "_law_large" = true) (k49 : PySem.W.keepIn K (.ref f49) = true)
    (a50 : PySem.W.nsIn K mainGlobals "law" = some (some (.ref f50))) (l50 : K.lookup f50 = some ⟨oc50, od50, .func (PySem.W.fnOf "law" "law" (defArgs s_law) (defBody s_law) (defScope s_law) .none kV50 dc50 pm50 an50 cd50 ct50), sl50⟩) (c50 : PySem.W.codeIn K cd50 "law" = true) (k50 : PySem.W.keepIn K (.ref f50) = true)
    {C0 : Addr} (aC0 : PySem.W.nsIn K mainGlobals "TooLarge" = some (some (.ref C0))) (xC0 : PySem.W.excIn K C0 [.type "ValueError", .type "Exception", .type "BaseException", .type "object"] "ValueError.__new__" = true) (kC0 : PySem.W.keepIn K (.ref C0) = true) (bC0 : PySem.W.subIn K (.ref C0) (.type "BaseException") = some true) (tC0 : PySem.W.typeIn K (.ref C0) = some (.type "type")) (iC0 : PySem.W.isClsIn K C0 = true)
    {C1 : Addr} (aC1 : PySem.W.nsIn K mainGlobals "NotDefinite" = some (some (.ref C1))) (xC1 : PySem.W.excIn K C1 [.type "ValueError", .type "Exception", .type "BaseException", .type "object"] "ValueError.__new__" = true) (kC1 : PySem.W.keepIn K (.ref C1) = true) (bC1 : PySem.W.subIn K (.ref C1) (.type "BaseException") = some true) (tC1 : PySem.W.typeIn K (.ref C1) = some (.type "type")) (iC1 : PySem.W.isClsIn K C1 = true)
    (sC0 : PySem.W.subIn K (.ref C0) (.ref C0) = some true)
    (z0 : PySem.W.nsIn K mainGlobals "abs" = some none)
    (z1 : PySem.W.nsIn K mainGlobals "int" = some none)
    (z2 : PySem.W.nsIn K mainGlobals "isinstance" = some none)
    (z3 : PySem.W.nsIn K mainGlobals "len" = some none)
    (z4 : PySem.W.nsIn K mainGlobals "list" = some none)
    (z5 : PySem.W.nsIn K mainGlobals "max" = some none)
    (z6 : PySem.W.nsIn K mainGlobals "min" = some none)
    (z7 : PySem.W.nsIn K mainGlobals "range" = some none)
    (z8 : PySem.W.nsIn K mainGlobals "reversed" = some none)
    (z9 : PySem.W.nsIn K mainGlobals "tuple" = some none)
    (y0 : PySem.W.nsIn K mainGlobals "MOST_CLAUSE_NODES" = some (some (.int 200 tk0)))
    {kt3 : Tok} {kt4 : Tok} {kt5 : Tok} {ka2 : Addr} {kd2 : Option Addr} {kn2 : Nat} {ks2 : Array (Option Value)} {ka1 : Addr} {kd1 : Option Addr} {kn1 : Nat} {ks1 : Array (Option Value)}
    (y1 : PySem.W.nsIn K mainGlobals "TRUE" = some (some (.ref ka1)))
    (kh2 : K.lookup ka2 = some ⟨.type "tuple", kd2, .seq #[.str "f" kt3, .str "true" kt4, .int 0 kt5] kn2, ks2⟩)
    (kh1 : K.lookup ka1 = some ⟨.type "tuple", kd1, .seq #[.ref ka2] kn1, ks1⟩)
    {kt7 : Tok} {kt8 : Tok} {kt9 : Tok} {ka6 : Addr} {kd6 : Option Addr} {kn6 : Nat} {ks6 : Array (Option Value)}
    (y2 : PySem.W.nsIn K mainGlobals "CLAUSE_SYMBOL" = some (some (.ref ka6)))
    (kh6 : K.lookup ka6 = some ⟨.type "tuple", kd6, .seq #[.str "f" kt7, .str ":-" kt8, .int 2 kt9] kn6, ks6⟩)
    {kt12 : Tok} {kt13 : Tok} {ka11 : Addr} {kd11 : Option Addr} {kn11 : Nat} {ks11 : Array (Option Value)} {kt15 : Tok} {kt16 : Tok} {ka14 : Addr} {kd14 : Option Addr} {kn14 : Nat} {ks14 : Array (Option Value)} {kt18 : Tok} {kt19 : Tok} {ka17 : Addr} {kd17 : Option Addr} {kn17 : Nat} {ks17 : Array (Option Value)} {kt21 : Tok} {kt22 : Tok} {ka20 : Addr} {kd20 : Option Addr} {kn20 : Nat} {ks20 : Array (Option Value)} {kt24 : Tok} {kt25 : Tok} {ka23 : Addr} {kd23 : Option Addr} {kn23 : Nat} {ks23 : Array (Option Value)} {kt27 : Tok} {kt28 : Tok} {ka26 : Addr} {kd26 : Option Addr} {kn26 : Nat} {ks26 : Array (Option Value)} {kt30 : Tok} {kt31 : Tok} {ka29 : Addr} {kd29 : Option Addr} {kn29 : Nat} {ks29 : Array (Option Value)} {kt33 : Tok} {kt34 : Tok} {ka32 : Addr} {kd32 : Option Addr} {kn32 : Nat} {ks32 : Array (Option Value)} {kt36 : Tok} {kt37 : Tok} {ka35 : Addr} {kd35 : Option Addr} {kn35 : Nat} {ks35 : Array (Option Value)} {kt39 : Tok} {kt40 : Tok} {ka38 : Addr} {kd38 : Option Addr} {kn38 : Nat} {ks38 : Array (Option Value)} {kt42 : Tok} {kt43 : Tok} {ka41 : Addr} {kd41 : Option Addr} {kn41 : Nat} {ks41 : Array (Option Value)} {kt45 : Tok} {kt46 : Tok} {ka44 : Addr} {kd44 : Option Addr} {kn44 : Nat} {ks44 : Array (Option Value)} {kt48 : Tok} {kt49 : Tok} {ka47 : Addr} {kd47 : Option Addr} {kn47 : Nat} {ks47 : Array (Option Value)} {kt51 : Tok} {kt52 : Tok} {ka50 : Addr} {kd50 : Option Addr} {kn50 : Nat} {ks50 : Array (Option Value)} {kt54 : Tok} {kt55 : Tok} {ka53 : Addr} {kd53 : Option Addr} {kn53 : Nat} {ks53 : Array (Option Value)} {kt57 : Tok} {kt58 : Tok} {ka56 : Addr} {kd56 : Option Addr} {kn56 : Nat} {ks56 : Array (Option Value)} {kt60 : Tok} {kt61 : Tok} {ka59 : Addr} {kd59 : Option Addr} {kn59 : Nat} {ks59 : Array (Option Value)} {kt63 : Tok} {kt64 : Tok} {ka62 : Addr} {kd62 : Option Addr} {kn62 : Nat} {ks62 : Array (Option Value)} {ka10 : Addr} {kd10 : Option Addr} {kn10 : Nat} {ks10 : Array (Option Value)}
    (y3 : PySem.W.nsIn K mainGlobals "CONTROL" = some (some (.ref ka10)))
    (kh11 : K.lookup ka11 = some ⟨.type "tuple", kd11, .seq #[.str "true" kt12, .int 0 kt13] kn11, ks11⟩)
    (kh14 : K.lookup ka14 = some ⟨.type "tuple", kd14, .seq #[.str "fail" kt15, .int 0 kt16] kn14, ks14⟩)
    (kh17 : K.lookup ka17 = some ⟨.type "tuple", kd17, .seq #[.str "!" kt18, .int 0 kt19] kn17, ks17⟩)
    (kh20 : K.lookup ka20 = some ⟨.type "tuple", kd20, .seq #[.str "," kt21, .int 2 kt22] kn20, ks20⟩)
    (kh23 : K.lookup ka23 = some ⟨.type "tuple", kd23, .seq #[.str ";" kt24, .int 2 kt25] kn23, ks23⟩)
    (kh26 : K.lookup ka26 = some ⟨.type "tuple", kd26, .seq #[.str "->" kt27, .int 2 kt28] kn26, ks26⟩)
    (kh29 : K.lookup ka29 = some ⟨.type "tuple", kd29, .seq #[.str "\\+" kt30, .int 1 kt31] kn29, ks29⟩)
    (kh32 : K.lookup ka32 = some ⟨.type "tuple", kd32, .seq #[.str "call" kt33, .int 1 kt34] kn32, ks32⟩)
    (kh35 : K.lookup ka35 = some ⟨.type "tuple", kd35, .seq #[.str "call" kt36, .int 2 kt37] kn35, ks35⟩)
    (kh38 : K.lookup ka38 = some ⟨.type "tuple", kd38, .seq #[.str "call" kt39, .int 3 kt40] kn38, ks38⟩)
    (kh41 : K.lookup ka41 = some ⟨.type "tuple", kd41, .seq #[.str "call" kt42, .int 4 kt43] kn41, ks41⟩)
    (kh44 : K.lookup ka44 = some ⟨.type "tuple", kd44, .seq #[.str "call" kt45, .int 5 kt46] kn44, ks44⟩)
    (kh47 : K.lookup ka47 = some ⟨.type "tuple", kd47, .seq #[.str "call" kt48, .int 6 kt49] kn47, ks47⟩)
    (kh50 : K.lookup ka50 = some ⟨.type "tuple", kd50, .seq #[.str "call" kt51, .int 7 kt52] kn50, ks50⟩)
    (kh53 : K.lookup ka53 = some ⟨.type "tuple", kd53, .seq #[.str "call" kt54, .int 8 kt55] kn53, ks53⟩)
    (kh56 : K.lookup ka56 = some ⟨.type "tuple", kd56, .seq #[.str "catch" kt57, .int 3 kt58] kn56, ks56⟩)
    (kh59 : K.lookup ka59 = some ⟨.type "tuple", kd59, .seq #[.str "findall" kt60, .int 3 kt61] kn59, ks59⟩)
    (kh62 : K.lookup ka62 = some ⟨.type "tuple", kd62, .seq #[.str "throw" kt63, .int 1 kt64] kn62, ks62⟩)
    (kh10 : K.lookup ka10 = some ⟨.type "tuple", kd10, .seq #[.ref ka11, .ref ka14, .ref ka17, .ref ka20, .ref ka23, .ref ka26, .ref ka29, .ref ka32, .ref ka35, .ref ka38, .ref ka41, .ref ka44, .ref ka47, .ref ka50, .ref ka53, .ref ka56, .ref ka59, .ref ka62] kn10, ks10⟩)
    {kt67 : Tok} {kt68 : Tok} {ka66 : Addr} {kd66 : Option Addr} {kn66 : Nat} {ks66 : Array (Option Value)} {kt70 : Tok} {kt71 : Tok} {ka69 : Addr} {kd69 : Option Addr} {kn69 : Nat} {ks69 : Array (Option Value)} {kt73 : Tok} {kt74 : Tok} {ka72 : Addr} {kd72 : Option Addr} {kn72 : Nat} {ks72 : Array (Option Value)} {kt76 : Tok} {kt77 : Tok} {ka75 : Addr} {kd75 : Option Addr} {kn75 : Nat} {ks75 : Array (Option Value)} {kt79 : Tok} {kt80 : Tok} {ka78 : Addr} {kd78 : Option Addr} {kn78 : Nat} {ks78 : Array (Option Value)} {kt82 : Tok} {kt83 : Tok} {ka81 : Addr} {kd81 : Option Addr} {kn81 : Nat} {ks81 : Array (Option Value)} {kt85 : Tok} {kt86 : Tok} {ka84 : Addr} {kd84 : Option Addr} {kn84 : Nat} {ks84 : Array (Option Value)} {kt88 : Tok} {kt89 : Tok} {ka87 : Addr} {kd87 : Option Addr} {kn87 : Nat} {ks87 : Array (Option Value)} {kt91 : Tok} {kt92 : Tok} {ka90 : Addr} {kd90 : Option Addr} {kn90 : Nat} {ks90 : Array (Option Value)} {kt94 : Tok} {kt95 : Tok} {ka93 : Addr} {kd93 : Option Addr} {kn93 : Nat} {ks93 : Array (Option Value)} {kt97 : Tok} {kt98 : Tok} {ka96 : Addr} {kd96 : Option Addr} {kn96 : Nat} {ks96 : Array (Option Value)} {kt100 : Tok} {kt101 : Tok} {ka99 : Addr} {kd99 : Option Addr} {kn99 : Nat} {ks99 : Array (Option Value)} {kt103 : Tok} {kt104 : Tok} {ka102 : Addr} {kd102 : Option Addr} {kn102 : Nat} {ks102 : Array (Option Value)} {kt106 : Tok} {kt107 : Tok} {ka105 : Addr} {kd105 : Option Addr} {kn105 : Nat} {ks105 : Array (Option Value)} {kt109 : Tok} {kt110 : Tok} {ka108 : Addr} {kd108 : Option Addr} {kn108 : Nat} {ks108 : Array (Option Value)} {kt112 : Tok} {kt113 : Tok} {ka111 : Addr} {kd111 : Option Addr} {kn111 : Nat} {ks111 : Array (Option Value)} {kt115 : Tok} {kt116 : Tok} {ka114 : Addr} {kd114 : Option Addr} {kn114 : Nat} {ks114 : Array (Option Value)} {kt118 : Tok} {kt119 : Tok} {ka117 : Addr} {kd117 : Option Addr} {kn117 : Nat} {ks117 : Array (Option Value)} {kt121 : Tok} {kt122 : Tok} {ka120 : Addr} {kd120 : Option Addr} {kn120 : Nat} {ks120 : Array (Option Value)} {kt124 : Tok} {kt125 : Tok} {ka123 : Addr} {kd123 : Option Addr} {kn123 : Nat} {ks123 : Array (Option Value)} {kt127 : Tok} {kt128 : Tok} {ka126 : Addr} {kd126 : Option Addr} {kn126 : Nat} {ks126 : Array (Option Value)} {kt130 : Tok} {kt131 : Tok} {ka129 : Addr} {kd129 : Option Addr} {kn129 : Nat} {ks129 : Array (Option Value)} {kt133 : Tok} {kt134 : Tok} {ka132 : Addr} {kd132 : Option Addr} {kn132 : Nat} {ks132 : Array (Option Value)} {kt136 : Tok} {kt137 : Tok} {ka135 : Addr} {kd135 : Option Addr} {kn135 : Nat} {ks135 : Array (Option Value)} {kt139 : Tok} {kt140 : Tok} {ka138 : Addr} {kd138 : Option Addr} {kn138 : Nat} {ks138 : Array (Option Value)} {kt142 : Tok} {kt143 : Tok} {ka141 : Addr} {kd141 : Option Addr} {kn141 : Nat} {ks141 : Array (Option Value)} {kt145 : Tok} {kt146 : Tok} {ka144 : Addr} {kd144 : Option Addr} {kn144 : Nat} {ks144 : Array (Option Value)} {ka65 : Addr} {kd65 : Option Addr} {kn65 : Nat} {ks65 : Array (Option Value)}
    (y4 : PySem.W.nsIn K mainGlobals "BUILT_IN" = some (some (.ref ka65)))
    (kh66 : K.lookup ka66 = some ⟨.type "tuple", kd66, .seq #[.str "=" kt67, .int 2 kt68] kn66, ks66⟩)
    (kh69 : K.lookup ka69 = some ⟨.type "tuple", kd69, .seq #[.str "\\=" kt70, .int 2 kt71] kn69, ks69⟩)
    (kh72 : K.lookup ka72 = some ⟨.type "tuple", kd72, .seq #[.str "==" kt73, .int 2 kt74] kn72, ks72⟩)
    (kh75 : K.lookup ka75 = some ⟨.type "tuple", kd75, .seq #[.str "\\==" kt76, .int 2 kt77] kn75, ks75⟩)
    (kh78 : K.lookup ka78 = some ⟨.type "tuple", kd78, .seq #[.str "@<" kt79, .int 2 kt80] kn78, ks78⟩)
    (kh81 : K.lookup ka81 = some ⟨.type "tuple", kd81, .seq #[.str "compare" kt82, .int 3 kt83] kn81, ks81⟩)
    (kh84 : K.lookup ka84 = some ⟨.type "tuple", kd84, .seq #[.str "var" kt85, .int 1 kt86] kn84, ks84⟩)
    (kh87 : K.lookup ka87 = some ⟨.type "tuple", kd87, .seq #[.str "nonvar" kt88, .int 1 kt89] kn87, ks87⟩)
    (kh90 : K.lookup ka90 = some ⟨.type "tuple", kd90, .seq #[.str "atom" kt91, .int 1 kt92] kn90, ks90⟩)
    (kh93 : K.lookup ka93 = some ⟨.type "tuple", kd93, .seq #[.str "integer" kt94, .int 1 kt95] kn93, ks93⟩)
    (kh96 : K.lookup ka96 = some ⟨.type "tuple", kd96, .seq #[.str "callable" kt97, .int 1 kt98] kn96, ks96⟩)
    (kh99 : K.lookup ka99 = some ⟨.type "tuple", kd99, .seq #[.str "functor" kt100, .int 3 kt101] kn99, ks99⟩)
    (kh102 : K.lookup ka102 = some ⟨.type "tuple", kd102, .seq #[.str "arg" kt103, .int 3 kt104] kn102, ks102⟩)
    (kh105 : K.lookup ka105 = some ⟨.type "tuple", kd105, .seq #[.str "=.." kt106, .int 2 kt107] kn105, ks105⟩)
    (kh108 : K.lookup ka108 = some ⟨.type "tuple", kd108, .seq #[.str "copy_term" kt109, .int 2 kt110] kn108, ks108⟩)
    (kh111 : K.lookup ka111 = some ⟨.type "tuple", kd111, .seq #[.str "sort" kt112, .int 2 kt113] kn111, ks111⟩)
    (kh114 : K.lookup ka114 = some ⟨.type "tuple", kd114, .seq #[.str "is" kt115, .int 2 kt116] kn114, ks114⟩)
    (kh117 : K.lookup ka117 = some ⟨.type "tuple", kd117, .seq #[.str "=:=" kt118, .int 2 kt119] kn117, ks117⟩)
    (kh120 : K.lookup ka120 = some ⟨.type "tuple", kd120, .seq #[.str "<" kt121, .int 2 kt122] kn120, ks120⟩)
    (kh123 : K.lookup ka123 = some ⟨.type "tuple", kd123, .seq #[.str "=<" kt124, .int 2 kt125] kn123, ks123⟩)
    (kh126 : K.lookup ka126 = some ⟨.type "tuple", kd126, .seq #[.str "write" kt127, .int 1 kt128] kn126, ks126⟩)
    (kh129 : K.lookup ka129 = some ⟨.type "tuple", kd129, .seq #[.str "nl" kt130, .int 0 kt131] kn129, ks129⟩)
    (kh132 : K.lookup ka132 = some ⟨.type "tuple", kd132, .seq #[.str "asserta" kt133, .int 1 kt134] kn132, ks132⟩)
    (kh135 : K.lookup ka135 = some ⟨.type "tuple", kd135, .seq #[.str "assertz" kt136, .int 1 kt137] kn135, ks135⟩)
    (kh138 : K.lookup ka138 = some ⟨.type "tuple", kd138, .seq #[.str "retract" kt139, .int 1 kt140] kn138, ks138⟩)
    (kh141 : K.lookup ka141 = some ⟨.type "tuple", kd141, .seq #[.str "tabled" kt142, .int 1 kt143] kn141, ks141⟩)
    (kh144 : K.lookup ka144 = some ⟨.type "tuple", kd144, .seq #[.str "solve" kt145, .int 2 kt146] kn144, ks144⟩)
    (kh65 : K.lookup ka65 = some ⟨.type "tuple", kd65, .seq #[.ref ka66, .ref ka69, .ref ka72, .ref ka75, .ref ka78, .ref ka81, .ref ka84, .ref ka87, .ref ka90, .ref ka93, .ref ka96, .ref ka99, .ref ka102, .ref ka105, .ref ka108, .ref ka111, .ref ka114, .ref ka117, .ref ka120, .ref ka123, .ref ka126, .ref ka129, .ref ka132, .ref ka135, .ref ka138, .ref ka141, .ref ka144] kn65, ks65⟩)
    {kt148 : Tok} {kt149 : Tok} {kt150 : Tok} {ka147 : Addr} {kd147 : Option Addr} {kn147 : Nat} {ks147 : Array (Option Value)}
    (y5 : PySem.W.nsIn K mainGlobals "CONJUNCTION" = some (some (.ref ka147)))
    (kh147 : K.lookup ka147 = some ⟨.type "tuple", kd147, .seq #[.str "f" kt148, .str "," kt149, .int 2 kt150] kn147, ks147⟩)
    (y6 : PySem.W.nsIn K mainGlobals "MOST_NODES" = some (some (.int 200 tk6)))
    : ∃ fd : FuncData, (∀ (s : Shared) (v : Value), BindsTo s fd ⟨[v], []⟩ [("script", v)]) ∧ ∀ base : Heap, K.In base → base.Ns mainGlobals mg → FnOk l.prog w K mg base CX0 9 fa fd ["script"] (sp_law K) := by
  have e := hfa.symm.trans (PySem.W.mg_of X G a50)
  cases e
  have F1 := fun_mk (st := s_is_variable) l1 c1 k1
  have b1 := F1.binds (ps := ["node"]) fun _ _ _ _ _ _ us hl => match us, hl with | [_], _ => rfl
  have F2 := fun_mk (st := s_is_symbol) l2 c2 k2
  have b2 := F2.binds (ps := ["node"]) fun _ _ _ _ _ _ us hl => match us, hl with | [_], _ => rfl
  have F3 := fun_mk (st := s_arity_of) l3 c3 k3
  have b3 := F3.binds (ps := ["node"]) fun _ _ _ _ _ _ us hl => match us, hl with | [_], _ => rfl
  have F4 := fun_mk (st := s_end_of) l4 c4 k4
  have b4 := F4.binds (ps := ["nodes", "start"]) fun _ _ _ _ _ _ us hl => match us, hl with | [_, _], _ => rfl
  have F5 : FunD K "renumber" "renumber" (defArgs s_renumber) (defBody s_renumber) (defScope s_renumber) [V.int 0] [] f5 _ := ⟨⟨_, _, _, _, _, _, _, _, _, _, rfl, l5, c5, .inr ⟨by simp, _, _, [.int 0 tt5_0], _, rfl, t5, rfl, .cons (relInt _ _) (.nil)⟩, .inl rfl⟩, k5⟩
  have b5 := F5.binds1 (ps := ["term", "first"]) 1 0 (by simp) rfl fun T _ _ _ _ _ _ us its h1 h2 => match us, h1, its, h2 with | [_], _, [_], _ => ⟨_, rfl, rfl⟩
  have bf5 := F5.binds1 (ps := ["term", "first"]) 2 1 (by simp) rfl fun T _ _ _ _ _ _ us its h1 h2 => match us, h1, its, h2 with | [_, _], _, [_], _ => ⟨_, rfl, rfl⟩
  have F6 : FunD K "renumber_together" "renumber_together" (defArgs s_renumber_together) (defBody s_renumber_together) (defScope s_renumber_together) [V.int 0] [] f6 _ := ⟨⟨_, _, _, _, _, _, _, _, _, _, rfl, l6, c6, .inr ⟨by simp, _, _, [.int 0 tt6_0], _, rfl, t6, rfl, .cons (relInt _ _) (.nil)⟩, .inl rfl⟩, k6⟩
  have b6 := F6.binds1 (ps := ["terms", "first"]) 1 0 (by simp) rfl fun T _ _ _ _ _ _ us its h1 h2 => match us, h1, its, h2 with | [_], _, [_], _ => ⟨_, rfl, rfl⟩
  have bf6 := F6.binds1 (ps := ["terms", "first"]) 2 1 (by simp) rfl fun T _ _ _ _ _ _ us its h1 h2 => match us, h1, its, h2 with | [_, _], _, [_], _ => ⟨_, rfl, rfl⟩
  have F7 := fun_mk (st := s_next_number) l7 c7 k7
  have b7 := F7.binds (ps := ["terms"]) fun _ _ _ _ _ _ us hl => match us, hl with | [_], _ => rfl
  have F8 := fun_mk (st := s_is_control) l8 c8 k8
  have b8 := F8.binds (ps := ["name", "arity"]) fun _ _ _ _ _ _ us hl => match us, hl with | [_, _], _ => rfl
  have F9 := fun_mk (st := s_is_built_in) l9 c9 k9
  have b9 := F9.binds (ps := ["name", "arity"]) fun _ _ _ _ _ _ us hl => match us, hl with | [_, _], _ => rfl
  have F10 := fun_mk (st := s_split_clause) l10 c10 k10
  have b10 := F10.binds (ps := ["clause"]) fun _ _ _ _ _ _ us hl => match us, hl with | [_], _ => rfl
  have F11 := fun_mk (st := s_Side___init__) l11 c11 k11
  have b11 := F11.binds (ps := ["self", "term"]) fun _ _ _ _ _ _ us hl => match us, hl with | [_, _], _ => rfl
  have F12 := fun_mk (st := s_Side_add_variables) l12 c12 k12
  have b12 := F12.binds (ps := ["self", "term", "times"]) fun _ _ _ _ _ _ us hl => match us, hl with | [_, _, _], _ => rfl
  have F13 := fun_mk (st := s_Side_take) l13 c13 k13
  have b13 := F13.binds (ps := ["self", "found"]) fun _ _ _ _ _ _ us hl => match us, hl with | [_, _], _ => rfl
  have F14 := fun_mk (st := s_Side_take_rest) l14 c14 k14
  have b14 := F14.binds (ps := ["self", "node", "found"]) fun _ _ _ _ _ _ us hl => match us, hl with | [_, _, _], _ => rfl
  have F15 := fun_mk (st := s_Side_bind) l15 c15 k15
  have b15 := F15.binds (ps := ["self", "number", "value"]) fun _ _ _ _ _ _ us hl => match us, hl with | [_, _, _], _ => rfl
  have F16 := fun_mk (st := s_apply) l16 c16 k16
  have b16 := F16.binds (ps := ["substitution", "term"]) fun _ _ _ _ _ _ us hl => match us, hl with | [_, _], _ => rfl
  have F17 := fun_mk (st := s_settle) l17 c17 k17
  have b17 := F17.binds (ps := ["found"]) fun _ _ _ _ _ _ us hl => match us, hl with | [_], _ => rfl
  have F18 := fun_mk (st := s_unify) l18 c18 k18
  have b18 := F18.binds (ps := ["left", "right"]) fun _ _ _ _ _ _ us hl => match us, hl with | [_, _], _ => rfl
  have F19 := fun_mk (st := s_unify_within) l19 c19 k19
  have b19 := F19.binds (ps := ["left", "right", "most"]) fun _ _ _ _ _ _ us hl => match us, hl with | [_, _, _], _ => rfl
  have F20 := fun_mk (st := s_check_goal) l20 c20 k20
  have b20 := F20.binds (ps := ["term"]) fun _ _ _ _ _ _ us hl => match us, hl with | [_], _ => rfl
  have F21 := fun_mk (st := s_goals_of) l21 c21 k21
  have b21 := F21.binds (ps := ["body"]) fun _ _ _ _ _ _ us hl => match us, hl with | [_], _ => rfl
  have F22 := fun_mk (st := s_head_and_goals) l22 c22 k22
  have b22 := F22.binds (ps := ["clause"]) fun _ _ _ _ _ _ us hl => match us, hl with | [_], _ => rfl
  have F23 := fun_mk (st := s_renamed) l23 c23 k23
  have b23 := F23.binds (ps := ["clause", "first"]) fun _ _ _ _ _ _ us hl => match us, hl with | [_, _], _ => rfl
  have F24 := fun_mk (st := s_check_size) l24 c24 k24
  have b24 := F24.binds (ps := ["size", "most"]) fun _ _ _ _ _ _ us hl => match us, hl with | [_, _], _ => rfl
  have F25 := fun_mk (st := s_resolved) l25 c25 k25
  have b25 := F25.binds (ps := ["query", "goals", "pick", "pair"]) fun _ _ _ _ _ _ us hl => match us, hl with | [_, _, _, _], _ => rfl
  have F26 := fun_mk (st := s_resolve) l26 c26 k26
  have b26 := F26.binds (ps := ["query", "goals", "pick", "clause"]) fun _ _ _ _ _ _ us hl => match us, hl with | [_, _, _, _], _ => rfl
  have F27 := fun_mk (st := s__law_stream) l27 c27 k27
  have b27 := F27.binds (ps := ["script"]) fun _ _ _ _ _ _ us hl => match us, hl with | [_], _ => rfl
  have F28 := fun_mk (st := s__law_draw) l28 c28 k28
  have b28 := F28.binds (ps := ["stream", "many"]) fun _ _ _ _ _ _ us hl => match us, hl with | [_, _], _ => rfl
  have F29 := fun_mk (st := s__law_is_variable) l29 c29 k29
  have b29 := F29.binds (ps := ["node"]) fun _ _ _ _ _ _ us hl => match us, hl with | [_], _ => rfl
  have F30 := fun_mk (st := s__law_end) l30 c30 k30
  have b30 := F30.binds (ps := ["term", "start"]) fun _ _ _ _ _ _ us hl => match us, hl with | [_, _], _ => rfl
  have F31 := fun_mk (st := s__law_parts) l31 c31 k31
  have b31 := F31.binds (ps := ["term"]) fun _ _ _ _ _ _ us hl => match us, hl with | [_], _ => rfl
  have F32 := fun_mk (st := s__law_put) l32 c32 k32
  have b32 := F32.binds (ps := ["table", "term"]) fun _ _ _ _ _ _ us hl => match us, hl with | [_, _], _ => rfl
  have F33 := fun_mk (st := s__law_numbered) l33 c33 k33
  have b33 := F33.binds (ps := ["terms", "first"]) fun _ _ _ _ _ _ us hl => match us, hl with | [_, _], _ => rfl
  have F34 := fun_mk (st := s__law_fresh) l34 c34 k34
  have b34 := F34.binds (ps := ["terms"]) fun _ _ _ _ _ _ us hl => match us, hl with | [_], _ => rfl
  have F35 := fun_mk (st := s__law_bound) l35 c35 k35
  have b35 := F35.binds (ps := ["left", "right", "at"]) fun _ _ _ _ _ _ us hl => match us, hl with | [_, _, _], _ => rfl
  have F36 := fun_mk (st := s__law_unify) l36 c36 k36
  have b36 := F36.binds (ps := ["left", "right"]) fun _ _ _ _ _ _ us hl => match us, hl with | [_, _], _ => rfl
  have F37 := fun_mk (st := s__law_conjuncts) l37 c37 k37
  have b37 := F37.binds (ps := ["body"]) fun _ _ _ _ _ _ us hl => match us, hl with | [_], _ => rfl
  have F38 := fun_mk (st := s__law_row) l38 c38 k38
  have b38 := F38.binds (ps := ["clause"]) fun _ _ _ _ _ _ us hl => match us, hl with | [_], _ => rfl
  have F39 := fun_mk (st := s__law_resolve) l39 c39 k39
  have b39 := F39.binds (ps := ["terms", "goal", "row"]) fun _ _ _ _ _ _ us hl => match us, hl with | [_, _, _], _ => rfl
  have F40 := fun_mk (st := s__law_leaf) l40 c40 k40
  have b40 := F40.binds (ps := ["stream", "widest"]) fun _ _ _ _ _ _ us hl => match us, hl with | [_, _], _ => rfl
  have F41 := fun_mk (st := s__law_argument) l41 c41 k41
  have b41 := F41.binds (ps := ["stream", "widest"]) fun _ _ _ _ _ _ us hl => match us, hl with | [_, _], _ => rfl
  have F42 := fun_mk (st := s__law_atom_of) l42 c42 k42
  have b42 := F42.binds (ps := ["stream", "widest"]) fun _ _ _ _ _ _ us hl => match us, hl with | [_, _], _ => rfl
  have F43 := fun_mk (st := s__law_joined) l43 c43 k43
  have b43 := F43.binds (ps := ["goals"]) fun _ _ _ _ _ _ us hl => match us, hl with | [_], _ => rfl
  have F44 := fun_mk (st := s__law_clause) l44 c44 k44
  have b44 := F44.binds (ps := ["stream"]) fun _ _ _ _ _ _ us hl => match us, hl with | [_], _ => rfl
  have F45 := fun_mk (st := s__law_atom) l45 c45 k45
  have b45 := F45.binds (ps := ["stream"]) fun _ _ _ _ _ _ us hl => match us, hl with | [_], _ => rfl
  have F46 := fun_mk (st := s__law_known) l46 c46 k46
  have b46 := F46.binds (ps := ["stream", "which"]) fun _ _ _ _ _ _ us hl => match us, hl with | [_, _], _ => rfl
  have F47 := fun_mk (st := s__law_program) l47 c47 k47
  have b47 := F47.binds (ps := ["stream"]) fun _ _ _ _ _ _ us hl => match us, hl with | [_], _ => rfl
  have F48 := fun_mk (st := s__law_query) l48 c48 k48
  have b48 := F48.binds (ps := ["stream", "program"]) fun _ _ _ _ _ _ us hl => match us, hl with | [_, _], _ => rfl
  have F49 := fun_mk (st := s__law_large) l49 c49 k49
  have b49 := F49.binds (ps := ["stream"]) fun _ _ _ _ _ _ us hl => match us, hl with | [_], _ => rfl
  have F50 := fun_mk (st := s_law) l50 c50 k50
  have E : Bi K mg := ⟨(by rw [clsA_of pa0]; exact ⟨pg0, phd0, po0, psa0⟩), (by rw [clsA_of pa0]; exact pn0_0), (by rw [clsA_of pa0]; exact pn0_1), (by rw [clsA_of pa0]; exact pn0_2), (by rw [clsA_of aC0]; exact ⟨PySem.W.mg_of X G aC0, xC0, kC0, bC0, tC0, iC0⟩), (by rw [clsA_of aC1]; exact ⟨PySem.W.mg_of X G aC1, xC1, kC1, bC1, tC1, iC1⟩), (by rw [clsA_of aC0]; exact exm_pair bC0 iC0 tC0 sC0), PySem.W.mg_none_of X G z0, PySem.W.mg_none_of X G z1, PySem.W.mg_none_of X G z2, PySem.W.mg_none_of X G z3, PySem.W.mg_none_of X G z4, PySem.W.mg_none_of X G z5, PySem.W.mg_none_of X G z6, PySem.W.mg_none_of X G z7, PySem.W.mg_none_of X G z8, PySem.W.mg_none_of X G z9, ⟨_, PySem.W.mg_of X G y0, ⟨_, rfl⟩⟩, ⟨_, _, PySem.W.mg_of X G y1, (relRef _), (kt_of kh1 (by show 1 ≤ 1000; decide) (.cons (relRef _) .nil) (.cons (kt_of kh2 (by show 3 ≤ 1000; decide) (.cons (relStr _ _) (.cons (relStr _ _) (.cons (relInt _ _) .nil))) (.cons (.str _) (.cons (.str _) (.cons (.int _) .nil)))) .nil))⟩, ⟨_, _, PySem.W.mg_of X G y2, (relRef _), (kt_of kh6 (by show 3 ≤ 1000; decide) (.cons (relStr _ _) (.cons (relStr _ _) (.cons (relInt _ _) .nil))) (.cons (.str _) (.cons (.str _) (.cons (.int _) .nil))))⟩, ⟨_, _, PySem.W.mg_of X G y3, (relRef _), (kt_of kh10 (by show 18 ≤ 1000; decide) (.cons (relRef _) (.cons (relRef _) (.cons (relRef _) (.cons (relRef _) (.cons (relRef _) (.cons (relRef _) (.cons (relRef _) (.cons (relRef _) (.cons (relRef _) (.cons (relRef _) (.cons (relRef _) (.cons (relRef _) (.cons (relRef _) (.cons (relRef _) (.cons (relRef _) (.cons (relRef _) (.cons (relRef _) (.cons (relRef _) .nil)))))))))))))))))) (.cons (kt_of kh11 (by show 2 ≤ 1000; decide) (.cons (relStr _ _) (.cons (relInt _ _) .nil)) (.cons (.str _) (.cons (.int _) .nil))) (.cons (kt_of kh14 (by show 2 ≤ 1000; decide) (.cons (relStr _ _) (.cons (relInt _ _) .nil)) (.cons (.str _) (.cons (.int _) .nil))) (.cons (kt_of kh17 (by show 2 ≤ 1000; decide) (.cons (relStr _ _) (.cons (relInt _ _) .nil)) (.cons (.str _) (.cons (.int _) .nil))) (.cons (kt_of kh20 (by show 2 ≤ 1000; decide) (.cons (relStr _ _) (.cons (relInt _ _) .nil)) (.cons (.str _) (.cons (.int _) .nil))) (.cons (kt_of kh23 (by show 2 ≤ 1000; decide) (.cons (relStr _ _) (.cons (relInt _ _) .nil)) (.cons (.str _) (.cons (.int _) .nil))) (.cons (kt_of kh26 (by show 2 ≤ 1000; decide) (.cons (relStr _ _) (.cons (relInt _ _) .nil)) (.cons (.str _) (.cons (.int _) .nil))) (.cons (kt_of kh29 (by show 2 ≤ 1000; decide) (.cons (relStr _ _) (.cons (relInt _ _) .nil)) (.cons (.str _) (.cons (.int _) .nil))) (.cons (kt_of kh32 (by show 2 ≤ 1000; decide) (.cons (relStr _ _) (.cons (relInt _ _) .nil)) (.cons (.str _) (.cons (.int _) .nil))) (.cons (kt_of kh35 (by show 2 ≤ 1000; decide) (.cons (relStr _ _) (.cons (relInt _ _) .nil)) (.cons (.str _) (.cons (.int _) .nil))) (.cons (kt_of kh38 (by show 2 ≤ 1000; decide) (.cons (relStr _ _) (.cons (relInt _ _) .nil)) (.cons (.str _) (.cons (.int _) .nil))) (.cons (kt_of kh41 (by show 2 ≤ 1000; decide) (.cons (relStr _ _) (.cons (relInt _ _) .nil)) (.cons (.str _) (.cons (.int _) .nil))) (.cons (kt_of kh44 (by show 2 ≤ 1000; decide) (.cons (relStr _ _) (.cons (relInt _ _) .nil)) (.cons (.str _) (.cons (.int _) .nil))) (.cons (kt_of kh47 (by show 2 ≤ 1000; decide) (.cons (relStr _ _) (.cons (relInt _ _) .nil)) (.cons (.str _) (.cons (.int _) .nil))) (.cons (kt_of kh50 (by show 2 ≤ 1000; decide) (.cons (relStr _ _) (.cons (relInt _ _) .nil)) (.cons (.str _) (.cons (.int _) .nil))) (.cons (kt_of kh53 (by show 2 ≤ 1000; decide) (.cons (relStr _ _) (.cons (relInt _ _) .nil)) (.cons (.str _) (.cons (.int _) .nil))) (.cons (kt_of kh56 (by show 2 ≤ 1000; decide) (.cons (relStr _ _) (.cons (relInt _ _) .nil)) (.cons (.str _) (.cons (.int _) .nil))) (.cons (kt_of kh59 (by show 2 ≤ 1000; decide) (.cons (relStr _ _) (.cons (relInt _ _) .nil)) (.cons (.str _) (.cons (.int _) .nil))) (.cons (kt_of kh62 (by show 2 ≤ 1000; decide) (.cons (relStr _ _) (.cons (relInt _ _) .nil)) (.cons (.str _) (.cons (.int _) .nil))) .nil)))))))))))))))))))⟩, ⟨_, _, PySem.W.mg_of X G y4, (relRef _), (kt_of kh65 (by show 27 ≤ 1000; decide) (.cons (relRef _) (.cons (relRef _) (.cons (relRef _) (.cons (relRef _) (.cons (relRef _) (.cons (relRef _) (.cons (relRef _) (.cons (relRef _) (.cons (relRef _) (.cons (relRef _) (.cons (relRef _) (.cons (relRef _) (.cons (relRef _) (.cons (relRef _) (.cons (relRef _) (.cons (relRef _) (.cons (relRef _) (.cons (relRef _) (.cons (relRef _) (.cons (relRef _) (.cons (relRef _) (.cons (relRef _) (.cons (relRef _) (.cons (relRef _) (.cons (relRef _) (.cons (relRef _) (.cons (relRef _) .nil))))))))))))))))))))))))))) (.cons (kt_of kh66 (by show 2 ≤ 1000; decide) (.cons (relStr _ _) (.cons (relInt _ _) .nil)) (.cons (.str _) (.cons (.int _) .nil))) (.cons (kt_of kh69 (by show 2 ≤ 1000; decide) (.cons (relStr _ _) (.cons (relInt _ _) .nil)) (.cons (.str _) (.cons (.int _) .nil))) (.cons (kt_of kh72 (by show 2 ≤ 1000; decide) (.cons (relStr _ _) (.cons (relInt _ _) .nil)) (.cons (.str _) (.cons (.int _) .nil))) (.cons (kt_of kh75 (by show 2 ≤ 1000; decide) (.cons (relStr _ _) (.cons (relInt _ _) .nil)) (.cons (.str _) (.cons (.int _) .nil))) (.cons (kt_of kh78 (by show 2 ≤ 1000; decide) (.cons (relStr _ _) (.cons (relInt _ _) .nil)) (.cons (.str _) (.cons (.int _) .nil))) (.cons (kt_of kh81 (by show 2 ≤ 1000; decide) (.cons (relStr _ _) (.cons (relInt _ _) .nil)) (.cons (.str _) (.cons (.int _) .nil))) (.cons (kt_of kh84 (by show 2 ≤ 1000; decide) (.cons (relStr _ _) (.cons (relInt _ _) .nil)) (.cons (.str _) (.cons (.int _) .nil))) (.cons (kt_of kh87 (by show 2 ≤ 1000; decide) (.cons (relStr _ _) (.cons (relInt _ _) .nil)) (.cons (.str _) (.cons (.int _) .nil))) (.cons (kt_of kh90 (by show 2 ≤ 1000; decide) (.cons (relStr _ _) (.cons (relInt _ _) .nil)) (.cons (.str _) (.cons (.int _) .nil))) (.cons (kt_of kh93 (by show 2 ≤ 1000; decide) (.cons (relStr _ _) (.cons (relInt _ _) .nil)) (.cons (.str _) (.cons (.int _) .nil))) (.cons (kt_of kh96 (by show 2 ≤ 1000; decide) (.cons (relStr _ _) (.cons (relInt _ _) .nil)) (.cons (.str _) (.cons (.int _) .nil))) (.cons (kt_of kh99 (by show 2 ≤ 1000; decide) (.cons (relStr _ _) (.cons (relInt _ _) .nil)) (.cons (.str _) (.cons (.int _) .nil))) (.cons (kt_of kh102 (by show 2 ≤ 1000; decide) (.cons (relStr _ _) (.cons (relInt _ _) .nil)) (.cons (.str _) (.cons (.int _) .nil))) (.cons (kt_of kh105 (by show 2 ≤ 1000; decide) (.cons (relStr _ _) (.cons (relInt _ _) .nil)) (.cons (.str _) (.cons (.int _) .nil))) (.cons (kt_of kh108 (by show 2 ≤ 1000; decide) (.cons (relStr _ _) (.cons (relInt _ _) .nil)) (.cons (.str _) (.cons (.int _) .nil))) (.cons (kt_of kh111 (by show 2 ≤ 1000; decide) (.cons (relStr _ _) (.cons (relInt _ _) .nil)) (.cons (.str _) (.cons (.int _) .nil))) (.cons (kt_of kh114 (by show 2 ≤ 1000; decide) (.cons (relStr _ _) (.cons (relInt _ _) .nil)) (.cons (.str _) (.cons (.int _) .nil))) (.cons (kt_of kh117 (by show 2 ≤ 1000; decide) (.cons (relStr _ _) (.cons (relInt _ _) .nil)) (.cons (.str _) (.cons (.int _) .nil))) (.cons (kt_of kh120 (by show 2 ≤ 1000; decide) (.cons (relStr _ _) (.cons (relInt _ _) .nil)) (.cons (.str _) (.cons (.int _) .nil))) (.cons (kt_of kh123 (by show 2 ≤ 1000; decide) (.cons (relStr _ _) (.cons (relInt _ _) .nil)) (.cons (.str _) (.cons (.int _) .nil))) (.cons (kt_of kh126 (by show 2 ≤ 1000; decide) (.cons (relStr _ _) (.cons (relInt _ _) .nil)) (.cons (.str _) (.cons (.int _) .nil))) (.cons (kt_of kh129 (by show 2 ≤ 1000; decide) (.cons (relStr _ _) (.cons (relInt _ _) .nil)) (.cons (.str _) (.cons (.int _) .nil))) (.cons (kt_of kh132 (by show 2 ≤ 1000; decide) (.cons (relStr _ _) (.cons (relInt _ _) .nil)) (.cons (.str _) (.cons (.int _) .nil))) (.cons (kt_of kh135 (by show 2 ≤ 1000; decide) (.cons (relStr _ _) (.cons (relInt _ _) .nil)) (.cons (.str _) (.cons (.int _) .nil))) (.cons (kt_of kh138 (by show 2 ≤ 1000; decide) (.cons (relStr _ _) (.cons (relInt _ _) .nil)) (.cons (.str _) (.cons (.int _) .nil))) (.cons (kt_of kh141 (by show 2 ≤ 1000; decide) (.cons (relStr _ _) (.cons (relInt _ _) .nil)) (.cons (.str _) (.cons (.int _) .nil))) (.cons (kt_of kh144 (by show 2 ≤ 1000; decide) (.cons (relStr _ _) (.cons (relInt _ _) .nil)) (.cons (.str _) (.cons (.int _) .nil))) .nil))))))))))))))))))))))))))))⟩, ⟨_, _, PySem.W.mg_of X G y5, (relRef _), (kt_of kh147 (by show 3 ≤ 1000; decide) (.cons (relStr _ _) (.cons (relStr _ _) (.cons (relInt _ _) .nil))) (.cons (.str _) (.cons (.str _) (.cons (.int _) .nil))))⟩, ⟨_, PySem.W.mg_of X G y6, ⟨_, rfl⟩⟩⟩
  refine ⟨PySem.W.fnOf "law" "law" (defArgs s_law) (defBody s_law) (defScope s_law) .none kV50 dc50 pm50 an50 cd50 ct50, fun s v => .of_eq rfl, fun base _ _ => ?_⟩
  have D1 : Has l.prog w K mg base 1 "is_variable" ["node"] (sp_is_variable K) := ⟨_, _, ok_is_variable F1 E , PySem.W.mg_of X G a1, k1, b1⟩
  have D2 : Has l.prog w K mg base 1 "is_symbol" ["node"] (sp_is_symbol K) := ⟨_, _, ok_is_symbol F2 E , PySem.W.mg_of X G a2, k2, b2⟩
  have D8 : Has l.prog w K mg base 1 "is_control" ["name", "arity"] (sp_is_control K) := ⟨_, _, ok_is_control F8 E , PySem.W.mg_of X G a8, k8, b8⟩
  have D9 : Has l.prog w K mg base 1 "is_built_in" ["name", "arity"] (sp_is_built_in K) := ⟨_, _, ok_is_built_in F9 E , PySem.W.mg_of X G a9, k9, b9⟩
  have D24 : HasX l.prog w K mg base 1 "check_size" ["size", "most"] (sp_check_size K) := ⟨_, _, ok_check_size F24 E , PySem.W.mg_of X G a24, k24, b24⟩
  have D27 : Has l.prog w K mg base 1 "_law_stream" ["script"] (sp__law_stream K) := ⟨_, _, ok__law_stream F27 E , PySem.W.mg_of X G a27, k27, b27⟩
  have D28 : Has l.prog w K mg base 1 "_law_draw" ["stream", "many"] (sp__law_draw K) := ⟨_, _, ok__law_draw F28 E , PySem.W.mg_of X G a28, k28, b28⟩
  have D29 : Has l.prog w K mg base 1 "_law_is_variable" ["node"] (sp__law_is_variable K) := ⟨_, _, ok__law_is_variable F29 E , PySem.W.mg_of X G a29, k29, b29⟩
  have D30 : Has l.prog w K mg base 1 "_law_end" ["term", "start"] (sp__law_end K) := ⟨_, _, ok__law_end F30 E , PySem.W.mg_of X G a30, k30, b30⟩
  have D43 : Has l.prog w K mg base 1 "_law_joined" ["goals"] (sp__law_joined K) := ⟨_, _, ok__law_joined F43 E , PySem.W.mg_of X G a43, k43, b43⟩
  have D3 : Has l.prog w K mg base 2 "arity_of" ["node"] (sp_arity_of K) := ⟨_, _, ok_arity_of F3 E D2, PySem.W.mg_of X G a3, k3, b3⟩
  have D5 : HasD l.prog w K mg base 2 "renumber" ["term", "first"] [V.int 0] (sp_renumber K) := ⟨_, _, ok_renumber F5 E D1, PySem.W.mg_of X G a5, k5, b5, bf5⟩
  have D7 : Has l.prog w K mg base 2 "next_number" ["terms"] (sp_next_number K) := ⟨_, _, ok_next_number F7 E D1, PySem.W.mg_of X G a7, k7, b7⟩
  have D12 : HasM l.prog w K mg base 2 "Side" "add_variables" ["self", "term", "times"] (sp_Side_add_variables K) := ⟨_, _, ok_Side_add_variables F12 E D1, by rw [clsA_of pa0]; exact ⟨a12, i12, k12⟩, b12⟩
  have D13 : HasM l.prog w K mg base 2 "Side" "take" ["self", "found"] (sp_Side_take K) := ⟨_, _, ok_Side_take F13 E D1, by rw [clsA_of pa0]; exact ⟨a13, i13, k13⟩, b13⟩
  have D16 : Has l.prog w K mg base 2 "apply" ["substitution", "term"] (sp_apply K) := ⟨_, _, ok_apply F16 E D1, PySem.W.mg_of X G a16, k16, b16⟩
  have D20 : HasX l.prog w K mg base 2 "check_goal" ["term"] (sp_check_goal K) := ⟨_, _, ok_check_goal F20 E D2 D9 D8, PySem.W.mg_of X G a20, k20, b20⟩
  have D31 : Has l.prog w K mg base 2 "_law_parts" ["term"] (sp__law_parts K) := ⟨_, _, ok__law_parts F31 E D30, PySem.W.mg_of X G a31, k31, b31⟩
  have D32 : Has l.prog w K mg base 2 "_law_put" ["table", "term"] (sp__law_put K) := ⟨_, _, ok__law_put F32 E D29, PySem.W.mg_of X G a32, k32, b32⟩
  have D34 : Has l.prog w K mg base 2 "_law_fresh" ["terms"] (sp__law_fresh K) := ⟨_, _, ok__law_fresh F34 E D29, PySem.W.mg_of X G a34, k34, b34⟩
  have D35 : Has l.prog w K mg base 2 "_law_bound" ["left", "right", "at"] (sp__law_bound K) := ⟨_, _, ok__law_bound F35 E D29 D30, PySem.W.mg_of X G a35, k35, b35⟩
  have D40 : Has l.prog w K mg base 2 "_law_leaf" ["stream", "widest"] (sp__law_leaf K) := ⟨_, _, ok__law_leaf F40 E D28, PySem.W.mg_of X G a40, k40, b40⟩
  have D45 : Has l.prog w K mg base 2 "_law_atom" ["stream"] (sp__law_atom K) := ⟨_, _, ok__law_atom F45 E D28, PySem.W.mg_of X G a45, k45, b45⟩
  have D49 : Has l.prog w K mg base 2 "_law_large" ["stream"] (sp__law_large K) := ⟨_, _, ok__law_large F49 E D28, PySem.W.mg_of X G a49, k49, b49⟩
  have D4 : Has l.prog w K mg base 3 "end_of" ["nodes", "start"] (sp_end_of K) := ⟨_, _, ok_end_of F4 E D3, PySem.W.mg_of X G a4, k4, b4⟩
  have D6 : HasD l.prog w K mg base 3 "renumber_together" ["terms", "first"] [V.int 0] (sp_renumber_together K) := ⟨_, _, ok_renumber_together F6 E D5, PySem.W.mg_of X G a6, k6, b6, bf6⟩
  have D11 : HasI l.prog w K mg base 3 "Side" ["self", "term"] (sp_Side___init__ K) := ⟨_, _, ok_Side___init__ F11 E D12, by rw [clsA_of pa0]; exact ⟨pm0k, a11, i11, pk0⟩, by rw [clsA_of pa0]; exact PySem.W.mg_of X G pa0, b11⟩
  have D14 : HasM l.prog w K mg base 3 "Side" "take_rest" ["self", "node", "found"] (sp_Side_take_rest K) := ⟨_, _, ok_Side_take_rest F14 E D3 D13, by rw [clsA_of pa0]; exact ⟨a14, i14, k14⟩, b14⟩
  have D15 : HasM l.prog w K mg base 3 "Side" "bind" ["self", "number", "value"] (sp_Side_bind K) := ⟨_, _, ok_Side_bind F15 E D12, by rw [clsA_of pa0]; exact ⟨a15, i15, k15⟩, b15⟩
  have D17 : Has l.prog w K mg base 3 "settle" ["found"] (sp_settle K) := ⟨_, _, ok_settle F17 E D16, PySem.W.mg_of X G a17, k17, b17⟩
  have D33 : Has l.prog w K mg base 3 "_law_numbered" ["terms", "first"] (sp__law_numbered K) := ⟨_, _, ok__law_numbered F33 E D29 D32, PySem.W.mg_of X G a33, k33, b33⟩
  have D36 : Has l.prog w K mg base 3 "_law_unify" ["left", "right"] (sp__law_unify K) := ⟨_, _, ok__law_unify F36 E D35 D32, PySem.W.mg_of X G a36, k36, b36⟩
  have D37 : Has l.prog w K mg base 3 "_law_conjuncts" ["body"] (sp__law_conjuncts K) := ⟨_, _, ok__law_conjuncts F37 E D31, PySem.W.mg_of X G a37, k37, b37⟩
  have D41 : Has l.prog w K mg base 3 "_law_argument" ["stream", "widest"] (sp__law_argument K) := ⟨_, _, ok__law_argument F41 E D28 D40, PySem.W.mg_of X G a41, k41, b41⟩
  have D46 : Has l.prog w K mg base 3 "_law_known" ["stream", "which"] (sp__law_known K) := ⟨_, _, ok__law_known F46 E D28 D45 D40, PySem.W.mg_of X G a46, k46, b46⟩
  have D10 : Has l.prog w K mg base 4 "split_clause" ["clause"] (sp_split_clause K) := ⟨_, _, ok_split_clause F10 E D4, PySem.W.mg_of X G a10, k10, b10⟩
  have D21 : HasX l.prog w K mg base 4 "goals_of" ["body"] (sp_goals_of K) := ⟨_, _, ok_goals_of F21 E D4 D20, PySem.W.mg_of X G a21, k21, b21⟩
  have D23 : Has l.prog w K mg base 4 "renamed" ["clause", "first"] (sp_renamed K) := ⟨_, _, ok_renamed F23 E D6, PySem.W.mg_of X G a23, k23, b23⟩
  have D38 : Has l.prog w K mg base 4 "_law_row" ["clause"] (sp__law_row K) := ⟨_, _, ok__law_row F38 E D31 D37, PySem.W.mg_of X G a38, k38, b38⟩
  have D39 : Has l.prog w K mg base 4 "_law_resolve" ["terms", "goal", "row"] (sp__law_resolve K) := ⟨_, _, ok__law_resolve F39 E D33 D34 D36 D32, PySem.W.mg_of X G a39, k39, b39⟩
  have D42 : Has l.prog w K mg base 4 "_law_atom_of" ["stream", "widest"] (sp__law_atom_of K) := ⟨_, _, ok__law_atom_of F42 E D28 D41 D40, PySem.W.mg_of X G a42, k42, b42⟩
  have D19 : HasX l.prog w K mg base 5 "unify_within" ["left", "right", "most"] (sp_unify_within K) := ⟨_, _, ok_unify_within F19 E D11 D13 D1 D14 D15 D17, PySem.W.mg_of X G a19, k19, b19⟩
  have D22 : HasX l.prog w K mg base 5 "head_and_goals" ["clause"] (sp_head_and_goals K) := ⟨_, _, ok_head_and_goals F22 E D10 D20 D21, PySem.W.mg_of X G a22, k22, b22⟩
  have D44 : Has l.prog w K mg base 5 "_law_clause" ["stream"] (sp__law_clause K) := ⟨_, _, ok__law_clause F44 E D42 D28 D43, PySem.W.mg_of X G a44, k44, b44⟩
  have D48 : Has l.prog w K mg base 5 "_law_query" ["stream", "program"] (sp__law_query K) := ⟨_, _, ok__law_query F48 E D28 D42 D38, PySem.W.mg_of X G a48, k48, b48⟩
  have D18 : HasX l.prog w K mg base 6 "unify" ["left", "right"] (sp_unify K) := ⟨_, _, ok_unify F18 E D19, PySem.W.mg_of X G a18, k18, b18⟩
  have D47 : Has l.prog w K mg base 6 "_law_program" ["stream"] (sp__law_program K) := ⟨_, _, ok__law_program F47 E D28 D46 D44, PySem.W.mg_of X G a47, k47, b47⟩
  have D25 : HasX l.prog w K mg base 7 "resolved" ["query", "goals", "pick", "pair"] (sp_resolved K) := ⟨_, _, ok_resolved F25 E D23 D7 D18 D16 D24 D6, PySem.W.mg_of X G a25, k25, b25⟩
  have D26 : HasX l.prog w K mg base 8 "resolve" ["query", "goals", "pick", "clause"] (sp_resolve K) := ⟨_, _, ok_resolve F26 E D20 D25 D22, PySem.W.mg_of X G a26, k26, b26⟩
  exact ok_law F50 E D27 D47 D48 D28 D49 D32 D38 D39 D33 D26
end My
open PySem PySem.W PyProof.Rows
set_option maxRecDepth 100000 in
set_option maxHeartbeats 0 in
theorem PySem.Challenge.cw_hornbook_k37_resolve_holds : PySem.Challenge.rw_hornbook_k37_resolve.Holds := by
  w_on; o_law; k_head; (case hw => w_witness2)
  k_fill
  refine L2.walk_of (l := PySem.Challenge.rw_hornbook_k37_resolve) (n := 63) (k := 9) (x := "script") (CX := fun _ => L2.CX0) (sp := fun w => My.sp_law _) rfl (by decide) rfl ⟨rfl, by decide, by decide⟩ (fun w h Y => PySem.W.kIn_of Y) ?F (fun _ _ a ns hl _ hS => ⟨a, ns, rfl, hS, hl, fun _ => rfl⟩) (fun _ _ _ _ _ h => h)
  case F =>
    intro w mg fa h KX G hmg
    refine' My.all_mk KX G hmg ?pa0 ?pg0 ?phd0 ?po0 ?psa0 ?pm0k ?pk0 ?pn0_0 ?pn0_1 ?pn0_2 ?a1 ?l1 ?c1 ?k1 ?a2 ?l2 ?c2 ?k2 ?a3 ?l3 ?c3 ?k3 ?a4 ?l4 ?c4 ?k4 ?a5 ?l5 ?c5 ?k5 ?t5 ?a6 ?l6 ?c6 ?k6 ?t6 ?a7 ?l7 ?c7 ?k7 ?a8 ?l8 ?c8 ?k8 ?a9 ?l9 ?c9 ?k9 ?a10 ?l10 ?c10 ?k10 ?i11 ?a11 ?l11 ?c11 ?k11 ?i12 ?a12 ?l12 ?c12 ?k12 ?i13 ?a13 ?l13 ?c13 ?k13 ?i14 ?a14 ?l14 ?c14 ?k14 ?i15 ?a15 ?l15 ?c15 ?k15 ?a16 ?l16 ?c16 ?k16 ?a17 ?l17 ?c17 ?k17 ?a18 ?l18 ?c18 ?k18 ?a19 ?l19 ?c19 ?k19 ?a20 ?l20 ?c20 ?k20 ?a21 ?l21 ?c21 ?k21 ?a22 ?l22 ?c22 ?k22 ?a23 ?l23 ?c23 ?k23 ?a24 ?l24 ?c24 ?k24 ?a25 ?l25 ?c25 ?k25 ?a26 ?l26 ?c26 ?k26 ?a27 ?l27 ?c27 ?k27 ?a28 ?l28 ?c28 ?k28 ?a29 ?l29 ?c29 ?k29 ?a30 ?l30 ?c30 ?k30 ?a31 ?l31 ?c31 ?k31 ?a32 ?l32 ?c32 ?k32 ?a33 ?l33 ?c33 ?k33 ?a34 ?l34 ?c34 ?k34 ?a35 ?l35 ?c35 ?k35 ?a36 ?l36 ?c36 ?k36 ?a37 ?l37 ?c37 ?k37 ?a38 ?l38 ?c38 ?k38 ?a39 ?l39 ?c39 ?k39 ?a40 ?l40 ?c40 ?k40 ?a41 ?l41 ?c41 ?k41 ?a42 ?l42 ?c42 ?k42 ?a43 ?l43 ?c43 ?k43 ?a44 ?l44 ?c44 ?k44 ?a45 ?l45 ?c45 ?k45 ?a46 ?l46 ?c46 ?k46 ?a47 ?l47 ?c47 ?k47 ?a48 ?l48 ?c48 ?k48 ?a49 ?l49 ?c49 ?k49 ?a50 ?l50 ?c50 ?k50 ?aC0 ?xC0 ?kC0 ?bC0 ?tC0 ?iC0 ?aC1 ?xC1 ?kC1 ?bC1 ?tC1 ?iC1 ?sC0 ?z0 ?z1 ?z2 ?z3 ?z4 ?z5 ?z6 ?z7 ?z8 ?z9 ?y0 ?y1 ?kh2 ?kh1 ?y2 ?kh6 ?y3 ?kh11 ?kh14 ?kh17 ?kh20 ?kh23 ?kh26 ?kh29 ?kh32 ?kh35 ?kh38 ?kh41 ?kh44 ?kh47 ?kh50 ?kh53 ?kh56 ?kh59 ?kh62 ?kh10 ?y4 ?kh66 ?kh69 ?kh72 ?kh75 ?kh78 ?kh81 ?kh84 ?kh87 ?kh90 ?kh93 ?kh96 ?kh99 ?kh102 ?kh105 ?kh108 ?kh111 ?kh114 ?kh117 ?kh120 ?kh123 ?kh126 ?kh129 ?kh132 ?kh135 ?kh138 ?kh141 ?kh144 ?kh65 ?y5 ?kh147 ?y6
    (case pa0 => k_is)
    (case pg0 => k_is)
    (case phd0 => k_is)
    (case po0 => k_is)
    (case psa0 => k_is)
    (case pm0k => k_is)
    (case pk0 => k_is)
    (case pn0_0 => k_is)
    (case pn0_1 => k_is)
    (case pn0_2 => k_is)
    (case a1 => k_is)
    (case l1 => k_is)
    (case c1 => k_is)
    (case k1 => k_is)
    (case a2 => k_is)
    (case l2 => k_is)
    (case c2 => k_is)
    (case k2 => k_is)
    (case a3 => k_is)
    (case l3 => k_is)
    (case c3 => k_is)
    (case k3 => k_is)
    (case a4 => k_is)
    (case l4 => k_is)
    (case c4 => k_is)
    (case k4 => k_is)
    (case a5 => k_is)
    (case l5 => k_is)
    (case c5 => k_is)
    (case k5 => k_is)
    (case t5 => k_is)
    (case a6 => k_is)
    (case l6 => k_is)
    (case c6 => k_is)
    (case k6 => k_is)
    (case t6 => k_is)
    (case a7 => k_is)
    (case l7 => k_is)
    (case c7 => k_is)
    (case k7 => k_is)
    (case a8 => k_is)
    (case l8 => k_is)
    (case c8 => k_is)
    (case k8 => k_is)
    (case a9 => k_is)
    (case l9 => k_is)
    (case c9 => k_is)
    (case k9 => k_is)
    (case a10 => k_is)
    (case l10 => k_is)
    (case c10 => k_is)
    (case k10 => k_is)
    (case i11 => k_is)
    (case a11 => k_is)
    (case l11 => k_is)
    (case c11 => k_is)
    (case k11 => k_is)
    (case i12 => k_is)
    (case a12 => k_is)
    (case l12 => k_is)
    (case c12 => k_is)
    (case k12 => k_is)
    (case i13 => k_is)
    (case a13 => k_is)
    (case l13 => k_is)
    (case c13 => k_is)
    (case k13 => k_is)
    (case i14 => k_is)
    (case a14 => k_is)
    (case l14 => k_is)
    (case c14 => k_is)
    (case k14 => k_is)
    (case i15 => k_is)
    (case a15 => k_is)
    (case l15 => k_is)
    (case c15 => k_is)
    (case k15 => k_is)
    (case a16 => k_is)
    (case l16 => k_is)
    (case c16 => k_is)
    (case k16 => k_is)
    (case a17 => k_is)
    (case l17 => k_is)
    (case c17 => k_is)
    (case k17 => k_is)
    (case a18 => k_is)
    (case l18 => k_is)
    (case c18 => k_is)
    (case k18 => k_is)
    (case a19 => k_is)
    (case l19 => k_is)
    (case c19 => k_is)
    (case k19 => k_is)
    (case a20 => k_is)
    (case l20 => k_is)
    (case c20 => k_is)
    (case k20 => k_is)
    (case a21 => k_is)
    (case l21 => k_is)
    (case c21 => k_is)
    (case k21 => k_is)
    (case a22 => k_is)
    (case l22 => k_is)
    (case c22 => k_is)
    (case k22 => k_is)
    (case a23 => k_is)
    (case l23 => k_is)
    (case c23 => k_is)
    (case k23 => k_is)
    (case a24 => k_is)
    (case l24 => k_is)
    (case c24 => k_is)
    (case k24 => k_is)
    (case a25 => k_is)
    (case l25 => k_is)
    (case c25 => k_is)
    (case k25 => k_is)
    (case a26 => k_is)
    (case l26 => k_is)
    (case c26 => k_is)
    (case k26 => k_is)
    (case a27 => k_is)
    (case l27 => k_is)
    (case c27 => k_is)
    (case k27 => k_is)
    (case a28 => k_is)
    (case l28 => k_is)
    (case c28 => k_is)
    (case k28 => k_is)
    (case a29 => k_is)
    (case l29 => k_is)
    (case c29 => k_is)
    (case k29 => k_is)
    (case a30 => k_is)
    (case l30 => k_is)
    (case c30 => k_is)
    (case k30 => k_is)
    (case a31 => k_is)
    (case l31 => k_is)
    (case c31 => k_is)
    (case k31 => k_is)
    (case a32 => k_is)
    (case l32 => k_is)
    (case c32 => k_is)
    (case k32 => k_is)
    (case a33 => k_is)
    (case l33 => k_is)
    (case c33 => k_is)
    (case k33 => k_is)
    (case a34 => k_is)
    (case l34 => k_is)
    (case c34 => k_is)
    (case k34 => k_is)
    (case a35 => k_is)
    (case l35 => k_is)
    (case c35 => k_is)
    (case k35 => k_is)
    (case a36 => k_is)
    (case l36 => k_is)
    (case c36 => k_is)
    (case k36 => k_is)
    (case a37 => k_is)
    (case l37 => k_is)
    (case c37 => k_is)
    (case k37 => k_is)
    (case a38 => k_is)
    (case l38 => k_is)
    (case c38 => k_is)
    (case k38 => k_is)
    (case a39 => k_is)
    (case l39 => k_is)
    (case c39 => k_is)
    (case k39 => k_is)
    (case a40 => k_is)
    (case l40 => k_is)
    (case c40 => k_is)
    (case k40 => k_is)
    (case a41 => k_is)
    (case l41 => k_is)
    (case c41 => k_is)
    (case k41 => k_is)
    (case a42 => k_is)
    (case l42 => k_is)
    (case c42 => k_is)
    (case k42 => k_is)
    (case a43 => k_is)
    (case l43 => k_is)
    (case c43 => k_is)
    (case k43 => k_is)
    (case a44 => k_is)
    (case l44 => k_is)
    (case c44 => k_is)
    (case k44 => k_is)
    (case a45 => k_is)
    (case l45 => k_is)
    (case c45 => k_is)
    (case k45 => k_is)
    (case a46 => k_is)
    (case l46 => k_is)
    (case c46 => k_is)
    (case k46 => k_is)
    (case a47 => k_is)
    (case l47 => k_is)
    (case c47 => k_is)
    (case k47 => k_is)
    (case a48 => k_is)
    (case l48 => k_is)
    (case c48 => k_is)
    (case k48 => k_is)
    (case a49 => k_is)
    (case l49 => k_is)
    (case c49 => k_is)
    (case k49 => k_is)
    (case a50 => k_is)
    (case l50 => k_is)
    (case c50 => k_is)
    (case k50 => k_is)
    (case aC0 => k_is)
    (case xC0 => k_exc)
    (case kC0 => k_is)
    (case bC0 => k_is)
    (case tC0 => k_is)
    (case iC0 => k_is)
    (case aC1 => k_is)
    (case xC1 => k_exc)
    (case kC1 => k_is)
    (case bC1 => k_is)
    (case tC1 => k_is)
    (case iC1 => k_is)
    (case sC0 => first | rfl | k_is)
    (case z0 => k_is)
    (case z1 => k_is)
    (case z2 => k_is)
    (case z3 => k_is)
    (case z4 => k_is)
    (case z5 => k_is)
    (case z6 => k_is)
    (case z7 => k_is)
    (case z8 => k_is)
    (case z9 => k_is)
    (case y0 => k_is)
    (case y1 => k_is)
    (case kh1 => k_is)
    (case kh2 => k_is)
    (case y2 => k_is)
    (case kh6 => k_is)
    (case y3 => k_is)
    (case kh10 => k_is)
    (case kh62 => k_is)
    (case kh59 => k_is)
    (case kh56 => k_is)
    (case kh53 => k_is)
    (case kh50 => k_is)
    (case kh47 => k_is)
    (case kh44 => k_is)
    (case kh41 => k_is)
    (case kh38 => k_is)
    (case kh35 => k_is)
    (case kh32 => k_is)
    (case kh29 => k_is)
    (case kh26 => k_is)
    (case kh23 => k_is)
    (case kh20 => k_is)
    (case kh17 => k_is)
    (case kh14 => k_is)
    (case kh11 => k_is)
    (case y4 => k_is)
    (case kh65 => k_is)
    (case kh144 => k_is)
    (case kh141 => k_is)
    (case kh138 => k_is)
    (case kh135 => k_is)
    (case kh132 => k_is)
    (case kh129 => k_is)
    (case kh126 => k_is)
    (case kh123 => k_is)
    (case kh120 => k_is)
    (case kh117 => k_is)
    (case kh114 => k_is)
    (case kh111 => k_is)
    (case kh108 => k_is)
    (case kh105 => k_is)
    (case kh102 => k_is)
    (case kh99 => k_is)
    (case kh96 => k_is)
    (case kh93 => k_is)
    (case kh90 => k_is)
    (case kh87 => k_is)
    (case kh84 => k_is)
    (case kh81 => k_is)
    (case kh78 => k_is)
    (case kh75 => k_is)
    (case kh72 => k_is)
    (case kh69 => k_is)
    (case kh66 => k_is)
    (case y5 => k_is)
    (case kh147 => k_is)
    (case y6 => k_is)
