import PyProof.Rows.All
import Wide.All
import OpenK.AllK
import Wide.FinOn
import HandS.ForMost
import HandS.IsInst
import HandS.Wide
import HandS.Codes
import HandS.Style
import HandS.TupLe
import HandS.TupAny
import HandS.EndBits
import HandS.Walk
import HandS.Zip
import KE.LtData
import HandS.ForExc
import HandS.ExcIs
import HandS.RaiseMore
import HandS.FStr
import HandS.Defaults
import HandS.SortKw
import KE.KRevSl
import HandS.DeepEq
import PyProof.NeKinds
import HandS.Conv
import HandS.SetKeys
import HandS.WordsDict
import HandS.DictComp
import HandS.More
import HandS.Conv
import PySem.Challenge.RW_hornbook_k92_whole_slide_keeps_terms
set_option Elab.async false
set_option linter.all false
set_option maxRecDepth 100000
set_option maxHeartbeats 4000000
set_option exponentiation.threshold 10000
namespace My
open PySem PySem.Spec PyProof.Rows L2
/-- a def of the text that keeps a promise, as its callers want it -/
def Has (P : Program) (w : World) (K : PySem.W.Frag) (mg : Str → Option Value) (base : Heap) (k : Nat) (x : Str) (ps : List Str) (sp : Sp) : Prop :=
  ∃ (f : Addr) (fd : FuncData), FnOk P w K mg base CX0 k f fd ps sp ∧ mg x = some (.ref f) ∧ PySem.W.keepIn K (.ref f) = true ∧ Binds K fd ps []
theorem same_upd {H : Hp} {p : Addr} {o : HO} (h : H p = none) : Same H (upd H p o) := fun b x e => by
  rw [upd_ne (ne_of_none e h)]
  exact e
/-- all but the object at s is as it was -/
def But (s : Addr) (H H' : Hp) : Prop := ∀ b o, b ≠ s → H b = some o → H' b = some o
theorem But.refl (s : Addr) (H : Hp) : But s H H := fun _ _ _ e => e
theorem But.trans {s : Addr} {H H1 H2 : Hp} (a : But s H H1) (b : But s H1 H2) : But s H H2 := fun c o hc e => b c o hc (a c o hc e)
theorem But.of {s : Addr} {H H' : Hp} (a : Same H H') : But s H H' := fun b o _ e => a b o e
theorem But.put {s : Addr} {H : Hp} {o : HO} : But s H (upd H s o) := fun b u hb e => by rw [upd_ne hb]; exact e
/-! ### what a value is -/
mutual
inductive Im (K : PySem.W.Frag) (G : Addr → Prop) (H : Hp) : V → PyData → Prop
  | non : Im K G H .non .none
  | bl (b : Bool) : Im K G H (.bl b) (.bool b)
  | int (i : Int) : Im K G H (.int i) (.int i)
  | str (x : Str) : Im K G H (.str x) (.str x)
  | lst {a : Addr} {xs : List V} {ds : List PyData} : G a → H a = some (.lst xs) → ImAll K G H xs ds → Im K G H (.ref a) (.list ds)
  | tup {a : Addr} {xs : List V} {ds : List PyData} : G a → H a = some (.tup xs) → ImAll K G H xs ds → Im K G H (.ref a) (.tuple ds)
inductive ImAll (K : PySem.W.Frag) (G : Addr → Prop) (H : Hp) : List V → List PyData → Prop
  | nil : ImAll K G H [] []
  | cons {v : V} {vs : List V} {d : PyData} {ds : List PyData} : Im K G H v d → ImAll K G H vs ds → ImAll K G H (v :: vs) (d :: ds)
end
section
variable {K : PySem.W.Frag} {G G' : Addr → Prop} {H H' : Hp}
mutual
theorem Im.mono (hH : ∀ b o, G b → H b = some o → H' b = some o) (hG : ∀ b, G b → G' b) : ∀ (d : PyData) (v : V), Im K G H v d → Im K G' H' v d
  | .none, _, h => by cases h; exact .non
  | .bool b, _, h => by cases h; exact .bl b
  | .int i, _, h => by cases h; exact .int i
  | .str x, _, h => by cases h; exact .str x
  | .list ds, _, h => by
    cases h with
    | lst g e ha => exact .lst (hG _ g) (hH _ _ g e) (Im.monoAll hH hG ds _ ha)
  | .tuple ds, _, h => by
    cases h with
    | tup g e ha => exact .tup (hG _ g) (hH _ _ g e) (Im.monoAll hH hG ds _ ha)
  | .dict _, _, h => by cases h
theorem Im.monoAll (hH : ∀ b o, G b → H b = some o → H' b = some o) (hG : ∀ b, G b → G' b) : ∀ (ds : List PyData) (vs : List V), ImAll K G H vs ds → ImAll K G' H' vs ds
  | [], _, h => by cases h; exact .nil
  | d :: ds, _, h => by
    cases h with
    | cons h1 h2 => exact .cons (Im.mono hH hG d _ h1) (Im.monoAll hH hG ds _ h2)
end
mutual
theorem Im.dp : ∀ (d : PyData) (v : V), Im K G H v d → Dp K H v d
  | .none, _, h => by cases h; exact .non
  | .bool b, _, h => by cases h; exact .bl b
  | .int i, _, h => by cases h; exact .int i
  | .str x, _, h => by cases h; exact .str x
  | .list ds, _, h => by
    cases h with
    | lst g e ha => exact .lst (SqL.of e) (Im.dpAll ds _ ha)
  | .tuple ds, _, h => by
    cases h with
    | tup g e ha => exact .tup (SqT.of e) (Im.dpAll ds _ ha)
  | .dict _, _, h => by cases h
theorem Im.dpAll : ∀ (ds : List PyData) (vs : List V), ImAll K G H vs ds → DpAll K H vs ds
  | [], _, h => by cases h; exact .nil
  | d :: ds, _, h => by
    cases h with
    | cons h1 h2 => exact .cons (Im.dp d _ h1) (Im.dpAll ds _ h2)
end
theorem ImAll.len : ∀ {vs : List V} {ds : List PyData}, ImAll K G H vs ds → vs.length = ds.length
  | _, _, .nil => rfl
  | _, _, .cons _ t => congrArg (· + 1) (ImAll.len t)
theorem ImAll.get : ∀ {vs : List V} {ds : List PyData} {i : Nat} {d : PyData}, ImAll K G H vs ds → ds[i]? = some d → ∃ v, vs[i]? = some v ∧ Im K G H v d
  | _, _, _, _, .nil, e => by simp at e
  | _, _, 0, _, .cons r _, e => by simp at e; subst e; exact ⟨_, rfl, r⟩
  | _, _, i + 1, _, .cons _ t, e => by
    obtain ⟨u, h1, h2⟩ := ImAll.get (i := i) t (by simpa using e)
    exact ⟨u, by simpa using h1, h2⟩
theorem ImAll.getV : ∀ {vs : List V} {ds : List PyData} {i : Nat} {v : V}, ImAll K G H vs ds → vs[i]? = some v → ∃ d, ds[i]? = some d ∧ Im K G H v d
  | _, _, _, _, .nil, e => by simp at e
  | _, _, 0, _, .cons r _, e => by simp at e; subst e; exact ⟨_, rfl, r⟩
  | _, _, i + 1, _, .cons _ t, e => by
    obtain ⟨u, h1, h2⟩ := ImAll.getV (i := i) t (by simpa using e)
    exact ⟨u, by simpa using h1, h2⟩
theorem ImAll.snoc : ∀ {vs : List V} {ds : List PyData} {v : V} {d : PyData}, ImAll K G H vs ds → Im K G H v d → ImAll K G H (vs ++ [v]) (ds ++ [d])
  | _, _, _, _, .nil, r => .cons r .nil
  | _, _, _, _, .cons q t, r => .cons q (ImAll.snoc t r)
theorem ImAll.app : ∀ {vs : List V} {ds : List PyData} {us : List V} {es : List PyData}, ImAll K G H vs ds → ImAll K G H us es → ImAll K G H (vs ++ us) (ds ++ es)
  | _, _, _, _, .nil, r => r
  | _, _, _, _, .cons q t, r => .cons q (ImAll.app t r)
end
section
variable {K : PySem.W.Frag} {H : Hp}
theorem DpAll.len : ∀ {vs : List V} {ds : List PyData}, DpAll K H vs ds → vs.length = ds.length
  | _, _, .nil => rfl
  | _, _, .cons _ t => congrArg (· + 1) (DpAll.len t)
theorem DpAll.get : ∀ {vs : List V} {ds : List PyData} {i : Nat} {d : PyData}, DpAll K H vs ds → ds[i]? = some d → ∃ v, vs[i]? = some v ∧ Dp K H v d
  | _, _, _, _, .nil, e => by simp at e
  | _, _, 0, _, .cons r _, e => by simp at e; subst e; exact ⟨_, rfl, r⟩
  | _, _, i + 1, _, .cons _ t, e => by
    obtain ⟨u, h1, h2⟩ := DpAll.get (i := i) t (by simpa using e)
    exact ⟨u, by simpa using h1, h2⟩
/-- the name of a value's class -/
def tyN : PyData → String
  | .none => "NoneType" | .bool _ => "bool" | .int _ => "int" | .str _ => "str" | .list _ => "list" | .tuple _ => "tuple" | .dict _ => "dict"
theorem tyx_of : ∀ {x : V} {d : PyData}, Dp K H x d → TyX K H x (.type (tyN d))
  | _, _, .non => .base .non
  | _, _, .bl b => .base (.bl b)
  | _, _, .int i => .base (.int i)
  | _, _, .str x => .base (.str x)
  | _, _, .lst h _ => by
    rcases h with (h | ⟨o, h⟩) | ⟨o, its, n, hk, hc, _⟩
    · exact .base (.lst h)
    · exact .base (.frz h)
    · exact .kList hk hc
  | _, _, .tup h _ => by
    rcases h with (h | ⟨o, h⟩) | ⟨o, its, n, hk, hc, _⟩
    · exact .base (.tup h)
    · exact .fTuple h
    · exact .kTuple hk hc
def isI : PyData → Bool
  | .int _ => true | .bool _ => true | _ => false
def isB : PyData → Bool
  | .bool _ => true | _ => false
def isS : PyData → Bool
  | .str _ => true | _ => false
def isT : PyData → Bool
  | .tuple _ => true | _ => false
def isL : PyData → Bool
  | .list _ => true | _ => false
theorem kitI (d : PyData) : kitB (tyN d) "int" = some (isI d) := by cases d <;> (show kitB _ "int" = _; simp only [tyN, isI]; decide +kernel)
theorem kitBo (d : PyData) : kitB (tyN d) "bool" = some (isB d) := by cases d <;> (show kitB _ "bool" = _; simp only [tyN, isB]; decide +kernel)
theorem kitS (d : PyData) : kitB (tyN d) "str" = some (isS d) := by cases d <;> (show kitB _ "str" = _; simp only [tyN, isS]; decide +kernel)
theorem kitT (d : PyData) : kitB (tyN d) "tuple" = some (isT d) := by cases d <;> (show kitB _ "tuple" = _; simp only [tyN, isT]; decide +kernel)
theorem kitL (d : PyData) : kitB (tyN d) "list" = some (isL d) := by cases d <;> (show kitB _ "list" = _; simp only [tyN, isL]; decide +kernel)
theorem isi_int {x : V} {d : PyData} {Q : VK} (h : Dp K H x d) (q : Q (.bl (isI d)) H) : rIsi K [x, .ty "int"] H Q := ⟨x, .ty "int", _, _, _, rfl, .ty _, tyx_of h, kit_ty (kitI d), q⟩
theorem isi_bool {x : V} {d : PyData} {Q : VK} (h : Dp K H x d) (q : Q (.bl (isB d)) H) : rIsi K [x, .ty "bool"] H Q := ⟨x, .ty "bool", _, _, _, rfl, .ty _, tyx_of h, kit_ty (kitBo d), q⟩
theorem isi_str {x : V} {d : PyData} {Q : VK} (h : Dp K H x d) (q : Q (.bl (isS d)) H) : rIsi K [x, .ty "str"] H Q := ⟨x, .ty "str", _, _, _, rfl, .ty _, tyx_of h, kit_ty (kitS d), q⟩
theorem isi_tup {x : V} {d : PyData} {Q : VK} (h : Dp K H x d) (q : Q (.bl (isT d)) H) : rIsi K [x, .ty "tuple"] H Q := ⟨x, .ty "tuple", _, _, _, rfl, .ty _, tyx_of h, kit_ty (kitT d), q⟩
theorem isi_list {x : V} {d : PyData} {Q : VK} (h : Dp K H x d) (q : Q (.bl (isL d)) H) : rIsi K [x, .ty "list"] H Q := ⟨x, .ty "list", _, _, _, rfl, .ty _, tyx_of h, kit_ty (kitL d), q⟩
end
/-! ### the stream of draws -/
structure Stm (H : Hp) (s l : Addr) : Prop where
  ex : ∃ (a b m : Int) (ns : List Int), H s = some (.lst [.ref l, .int a, .int b, .int m]) ∧ H l = some (.lst (ns.map V.int)) ∧ ns.length ≤ 63 ∧ 0 ≤ a ∧ 0 ≤ b ∧ 0 ≤ m ∧ m < 2147483647
theorem Stm.keep {H H' : Hp} {s l : Addr} (h : Stm H s l) (e : Same H H') : Stm H' s l := by
  obtain ⟨a, b, m, ns, h1, h2, r⟩ := h.ex
  exact ⟨a, b, m, ns, e _ _ h1, e _ _ h2, r⟩
/-- another object is changed -/
theorem Stm.put {H : Hp} {s l r : Addr} {o : HO} (h : Stm H s l) (h1 : s ≠ r) (h2 : l ≠ r) : Stm (upd H r o) s l := by
  obtain ⟨a, b, m, ns, e1, e2, q⟩ := h.ex
  exact ⟨a, b, m, ns, by rw [upd_ne h1]; exact e1, by rw [upd_ne h2]; exact e2, q⟩
theorem Stm.at_s {H : Hp} {s l : Addr} (h : Stm H s l) : ∃ o, H s = some o := by
  obtain ⟨a, b, m, ns, e1, e2, q⟩ := h.ex
  exact ⟨_, e1⟩
theorem Stm.at_l {H : Hp} {s l : Addr} (h : Stm H s l) : ∃ o, H l = some o := by
  obtain ⟨a, b, m, ns, e1, e2, q⟩ := h.ex
  exact ⟨_, e2⟩
/-- a constant of the module -/
def GV (mg : Str → Option Value) (x : Str) (v : V) : Prop := ∃ u, mg x = some u ∧ RelV v u
theorem pe_gC {X : Cx} {x : Str} {v : V} {pos : Pos} (hg : Gl X x) (h : GV X.mg x v) (hd : (x == ("__debug__" : Str)) = false := by decide) : PE X (.Name x pos) (tC v) := by
  obtain ⟨u, e, r⟩ := h
  exact pe_glob hg e r hd

/-! ### 'a' * 40 -/
section
variable {X : Cx}
theorem op_mulS : OpR X (binaryOp .Mult) (fun x y H Q => ∃ z i, x = .str z ∧ y = .int i ∧ MulOk z i ∧ Q (.str (Txt.mul z i)) H) := by
  intro pins s σ H x y v u Q I rx ry h
  obtain ⟨z, i, rfl, rfl, hk, q⟩ := h
  obtain ⟨t, rfl⟩ := rx
  obtain ⟨t', rfl⟩ := ry
  exact SB.mul hk fun t2 k => ⟨.str _, H, I.tok k, ⟨_, rfl⟩, q⟩
end
/-! ### data written out: each part of it is new -/
section
variable {K : PySem.W.Frag}
/-- an expression that makes data and changes nothing else -/
def Lit (K : PySem.W.Frag) (σ : L2.St) (t : TE) (d : PyData) : Prop := ∀ (H : Hp) (Q : VK), (∀ v H', Same H H' → Im K (fun b => H b = Option.none) H' v d → Q v H') → t σ H Q
def LitA (K : PySem.W.Frag) (σ : L2.St) (t : TA) (ds : List PyData) : Prop := ∀ (H : Hp) (Q : List V → Hp → Prop), (∀ vs H', Same H H' → ImAll K (fun b => H b = Option.none) H' vs ds → Q vs H') → t σ H Q
variable {σ : L2.St}
theorem lit_int {i : Int} : Lit K σ (tC (.int i)) (.int i) := fun H Q h => h _ H (Same.refl H) (.int i)
theorem lit_str {x : Str} : Lit K σ (tC (.str x)) (.str x) := fun H Q h => h _ H (Same.refl H) (.str x)
theorem lit_bl {b : Bool} : Lit K σ (tC (.bl b)) (.bool b) := fun H Q h => h _ H (Same.refl H) (.bl b)
theorem lit_non : Lit K σ (tC .non) .none := fun H Q h => h _ H (Same.refl H) .non
theorem litA_nil : LitA K σ tNil [] := fun H Q h => h _ H (Same.refl H) .nil
theorem litA_cons {t : TE} {ta : TA} {d : PyData} {ds : List PyData} (h1 : Lit K σ t d) (h2 : LitA K σ ta ds) : LitA K σ (tCons t ta) (d :: ds) := fun H Q h =>
  h1 H _ fun v H1 s1 i1 => h2 H1 _ fun vs H2 s2 i2 => h _ H2 (s1.trans s2) (.cons (Im.mono (fun b o _ e => s2 b o e) (fun _ e => e) _ _ i1) (Im.monoAll (fun _ _ _ e => e) (fun b e => s1.free e) _ _ i2))
theorem lit_tup {ta : TA} {ds : List PyData} (h1 : LitA K σ ta ds) (hz : ds.length ≤ sizeLine) : Lit K σ (tTup ta) (.tuple ds) := fun H Q h =>
  h1 H _ fun vs H1 s1 i1 => ⟨by rw [i1.len]; exact hz, fun p np => h _ _ (s1.trans (same_upd np)) (.tup (s1.free np) upd_same (Im.monoAll (fun b o _ e => same_upd np b o e) (fun _ e => e) _ _ i1))⟩
theorem lit_lst {ta : TA} {ds : List PyData} (h1 : LitA K σ ta ds) (hz : ds.length ≤ sizeLine) : Lit K σ (tLst ta) (.list ds) := fun H Q h =>
  h1 H _ fun vs H1 s1 i1 => ⟨by rw [i1.len]; exact hz, fun p np => h _ _ (s1.trans (same_upd np)) (.lst (s1.free np) upd_same (Im.monoAll (fun b o _ e => same_upd np b o e) (fun _ e => e) _ _ i1))⟩
/-- what is an int -/
theorem lit_neg {t : TE} {i : Int} (h1 : Lit K σ t (.int i)) : Lit K σ (tUn (rU fun i => .int (-i)) t) (.int (-i)) := fun H Q h =>
  h1 H _ fun v H1 s1 i1 => by
    cases i1
    exact ⟨_, rfl, h _ H1 s1 (.int _)⟩
theorem lit_sub {t u : TE} {i j : Int} (h1 : Lit K σ t (.int i)) (h2 : Lit K σ u (.int j)) : Lit K σ (tOp (rI0 fun i j => .int (i - j)) t u) (.int (i - j)) := fun H Q h =>
  h1 H _ fun v H1 s1 i1 => h2 H1 _ fun v2 H2 s2 i2 => by
    cases i1
    cases i2
    exact ⟨_, _, rfl, rfl, h _ H2 (s1.trans s2) (.int _)⟩
theorem lit_pow {t u : TE} {i j : Int} (h1 : Lit K σ t (.int i)) (h2 : Lit K σ u (.int j)) (hc : CPow i j) : Lit K σ (tOp (rI CPow fun i j => .int (i ^ j.toNat)) t u) (.int (i ^ j.toNat)) := fun H Q h =>
  h1 H _ fun v H1 s1 i1 => h2 H1 _ fun v2 H2 s2 i2 => by
    cases i1
    cases i2
    exact ⟨_, _, rfl, rfl, hc, h _ H2 (s1.trans s2) (.int _)⟩
theorem lit_mulS {t u : TE} {z : Str} {j : Int} (h1 : Lit K σ t (.str z)) (h2 : Lit K σ u (.int j)) (hc : MulOk z j) : Lit K σ (tOp (fun x y H Q => ∃ z i, x = .str z ∧ y = .int i ∧ MulOk z i ∧ Q (.str (Txt.mul z i)) H) t u) (.str (Txt.mul z j)) := fun H Q h =>
  h1 H _ fun v H1 s1 i1 => h2 H1 _ fun v2 H2 s2 i2 => by
    cases i1
    cases i2
    exact ⟨_, _, rfl, rfl, hc, h _ H2 (s1.trans s2) (.str _)⟩
end
section
variable {X : Cx} {pos : Pos}
/-- a built-in class as a value -/
theorem pe_ty {x : Str} (n : String) (hg : Gl X x) (hm : X.mg x = Option.none) (hv : bootBuiltins x = some (.type n)) (hn : x ≠ "__name__" := by decide) (hd : (x == ("__debug__" : Str)) = false := by decide) : PE X (.Name x pos) (tC (.ty n)) :=
  pe_bltn hg hm hv rfl hn hd
end
section
variable {K : PySem.W.Frag} {H H' : Hp}
theorem same_sqT {a : Addr} {xs : List V} (e : Same H H') (h : SqT K H a xs) : SqT K H' a xs := by
  rcases h with (h | ⟨o, h⟩) | h
  · exact .inl (.inl (e _ _ h))
  · exact .inl (.inr ⟨o, e _ _ h⟩)
  · exact .inr h
mutual
theorem dp_same (e : Same H H') : ∀ (d : PyData) (v : V), Dp K H v d → Dp K H' v d
  | .none, _, h => by cases h; exact .non
  | .bool b, _, h => by cases h; exact .bl b
  | .int i, _, h => by cases h; exact .int i
  | .str x, _, h => by cases h; exact .str x
  | .list ds, _, h => by
    cases h with
    | lst g ha => exact .lst (e.seq g) (dp_sameAll e ds _ ha)
  | .tuple ds, _, h => by
    cases h with
    | tup g ha => exact .tup (same_sqT e g) (dp_sameAll e ds _ ha)
  | .dict _, _, h => by cases h
theorem dp_sameAll (e : Same H H') : ∀ (ds : List PyData) (vs : List V), DpAll K H vs ds → DpAll K H' vs ds
  | [], _, h => by cases h; exact .nil
  | d :: ds, _, h => by
    cases h with
    | cons h1 h2 => exact .cons (dp_same e d _ h1) (dp_sameAll e ds _ h2)
end
end
theorem small_of {n : Nat} (h : n ≤ 1000) : n ≤ sizeLine := Nat.le_of_lt (small1000 h)
theorem seq_asg {te : TE} {g : TG} {u : TS} {D : Ends} {σ : L2.St} {H : Hp} (h : te σ H fun x H1 => g x σ H1 (u D)) : tSeq (tAsg te g) u D σ H := h
theorem gname {i : Nat} {v : V} {σ : L2.St} {H : Hp} {Q : L2.St → Hp → Prop} (h : Q (σ.set i (some v)) H) : gName i v σ H Q := h
theorem nxp {N : L2.St → Hp → Prop} {R : VK} {B C : L2.St → Hp → Prop} {σ : L2.St} {H : Hp} (h : N σ H) : ({ nx := N, rt := R, bk := B, ct := C } : Ends).nx σ H := h
theorem seq_if {c : TT} {t t2 : TS} {u : TS} {D : Ends} {σ : L2.St} {H : Hp} (h : c σ H fun b H1 => if b = true then t { D with nx := u D } σ H1 else t2 { D with nx := u D } σ H1) : tSeq (tIfS c t t2) u D σ H := h
theorem seq_ifN {c : TT} {t : TS} {u : TS} {D : Ends} {σ : L2.St} {H : Hp} (h : c σ H fun b H1 => if b = true then t { D with nx := u D } σ H1 else u D σ H1) : tSeq (tIfS c t tNext) u D σ H := h
theorem seq_any {t : TS} {u : TS} {D : Ends} {σ : L2.St} {H : Hp} (h : t { D with nx := u D } σ H) : tSeq t u D σ H := h
theorem asg1 {te : TE} {g : TG} {D : Ends} {σ : L2.St} {H : Hp} (h : te σ H fun x H1 => g x σ H1 D.nx) : tAsg te g D σ H := h
section
variable {K : PySem.W.Frag} {G G' : Addr → Prop} {H H' : Hp}
mutual
theorem Im.mono2 (hH : ∀ b o, G b → H b = some o → H' b = some o) (hG : ∀ b o, H b = some o → G b → G' b) : ∀ (d : PyData) (v : V), Im K G H v d → Im K G' H' v d
  | .none, _, h => by cases h; exact .non
  | .bool b, _, h => by cases h; exact .bl b
  | .int i, _, h => by cases h; exact .int i
  | .str x, _, h => by cases h; exact .str x
  | .list ds, _, h => by
    cases h with
    | lst g e ha => exact .lst (hG _ _ e g) (hH _ _ g e) (Im.mono2All hH hG ds _ ha)
  | .tuple ds, _, h => by
    cases h with
    | tup g e ha => exact .tup (hG _ _ e g) (hH _ _ g e) (Im.mono2All hH hG ds _ ha)
  | .dict _, _, h => by cases h
theorem Im.mono2All (hH : ∀ b o, G b → H b = some o → H' b = some o) (hG : ∀ b o, H b = some o → G b → G' b) : ∀ (ds : List PyData) (vs : List V), ImAll K G H vs ds → ImAll K G' H' vs ds
  | [], _, h => by cases h; exact .nil
  | d :: ds, _, h => by
    cases h with
    | cons h1 h2 => exact .cons (Im.mono2 hH hG d _ h1) (Im.mono2All hH hG ds _ h2)
end
end
theorem join_set {c : Prop} [Decidable c] {v : V} {i : Nat} {u : TS} {D : Ends} {σ : L2.St} {H : Hp} (P : L2.St → Prop) (h : ∀ σ2, P σ2 → u D σ2 H) (h1 : c → P (σ.set i (some v))) (h2 : ¬ c → P σ) :
    if c then tAsg (tC v) (gName i) { D with nx := u D } σ H else u D σ H := by
  by_cases hc : c
  · rw [if_pos hc]
    exact h _ (h1 hc)
  · rw [if_neg hc]
    exact h _ (h2 hc)
/-- a constant tuple of the module, by its data -/
def GC (K : PySem.W.Frag) (mg : Str → Option Value) (x : Str) (d : PyData) : Prop := ∃ (u : Value) (v : V), mg x = some u ∧ RelV v u ∧ Dp K (fun _ => Option.none) v d
theorem none_same (H : Hp) : Same (fun _ => Option.none) H := fun _ _ e => nomatch e
theorem kt_of {K : PySem.W.Frag} {a : Addr} {its : Array Value} {n : Nat} {dd : Option Addr} {sl : Array (Option Value)} {xs : List V} {ds : List PyData} (h : K.lookup a = some ⟨.type "tuple", dd, .seq its n, sl⟩) (hz : its.size ≤ 1000) (hv : Vals xs its.toList) (ha : DpAll K (fun _ => Option.none) xs ds) :
    Dp K (fun _ => Option.none) (.ref a) (.tuple ds) := .tup (.inr ⟨_, its, n, h, rfl, rfl, Nat.le_trans hz (by decide), hv⟩) ha
/-! ### list.extend(tuple) -/
section
open Builtin
theorem extT (l b : Addr) (xs ys : Array Value) (n k : Nat) (dd : Option Addr) (sl : Array (Option Value)) (hlong : ¬(!xs.isEmpty && Builtin.List.listTooLong (xs.size + ys.size)) = true) (h1 : xs.size ≤ sizeLine) (h2 : xs.size + ys.size ≤ sizeLine + 1) :
    Meets (Builtin.«list.extend» ⟨[.ref l, .ref b], []⟩) (fun _ R s => s.heap.get? l = some { cls := .type "list", dict := none, data := .seq xs n, slots := #[] } ∧ s.heap.get? b = some { cls := .type "tuple", dict := dd, data := .seq ys k, slots := sl } ∧ R (.ok (.ret Value.none)) { s with heap := s.heap.update l (Obj.mapSeq fun x => x ++ ys), toks := s.toks }) := by
  refine .of_wp fun prog w A R s h => ?_
  obtain ⟨hp, g, d, tk, os⟩ := s
  obtain ⟨ea, eb, q⟩ := h
  have i1 := AutoSeq1.idx_int
  have i2 := AutoSeq1.sub_tuple_tuple
  have i3 := AutoSeq1.sub_list_list
  have i4 := AutoSeq1.sub_tuple_list
  have i5 := AutoSeq1.sub_list_tuple
  have hz : (xs ++ ys).size ≤ sizeLine + 1 := by rw [Array.size_append]; exact h2
  wp_walk using (wpAny_updateSeq ea rfl (hz := h1) (_hz' := hz)), AutoSeq1.wpAny_loadPart' ea, AutoSeq1.wpAny_loadPart' eb
  exact ⟨_, rfl, q⟩
end
section
variable {X : Cx}
def rExtT (K : PySem.W.Frag) : V → List V → Hp → VK → Prop := fun x vs H Q => ∃ l b xs zs, x = .ref l ∧ vs = [.ref b] ∧ H l = some (.lst xs) ∧ SqT K H b zs ∧ xs.length + zs.length ≤ sizeLine ∧ Q .non (upd H l (.lst (xs ++ zs)))
theorem mt_extT : MtR X "list.extend" (rExtT X.K) := by
  intro pins s σ H x vs v us Q I rx rv h
  obtain ⟨l, b, xs, zs, rfl, rfl, hH, hB, hz, q⟩ := h
  cases rx
  obtain ⟨u, rfl, ru⟩ := rv.one
  cases ru
  obtain ⟨z, its, n, r, hl, e⟩ := I.lstM hH
  obtain ⟨its2, r2, ⟨⟨oc, od, dt, sl⟩, e2, ec, k2, ed⟩, _⟩ := I.tuple hB
  simp only at ec ed
  subst ec ed
  have z1 := r.length
  have z2 := r2.length
  have hsz : its.toArray.size + its2.toArray.size ≤ sizeLine := by rw [List.size_toArray, List.size_toArray]; omega
  have nl : ¬ (!its.toArray.isEmpty && Builtin.List.listTooLong (its.toArray.size + its2.toArray.size)) = true := by
    rw [notLongL hsz, Bool.and_false]
    exact Bool.false_ne_true
  refine call_meets F.slot_list_extend ⟨_, e, rfl⟩ F.entry_list_extend (F.args_list_extend_2 _ _) (extT l b its.toArray its2.toArray n k2 od sl nl (by rw [List.size_toArray]; omega) (by omega)) ⟨e, e2, ?_⟩
  refine ⟨.non, _, I.lset (its' := its ++ its2) hH e (by simp) (r.append r2) ?_, rfl, q⟩
  rw [List.length_append]
  omega
/-! ### x in (a, b, ..), data of any depth -/
def rInT (K : PySem.W.Frag) : R2 := fun x y H Q => ∃ d ds, Dp K H x d ∧ Dp K H y (.tuple ds) ∧ SeqAt.shaped d = true ∧ SeqAt.shaped (.tuple ds) = true ∧ Q (.bl (ds.any fun z => PyData.eqv z d)) H
def rNotInT (K : PySem.W.Frag) : R2 := fun x y H Q => ∃ d ds, Dp K H x d ∧ Dp K H y (.tuple ds) ∧ SeqAt.shaped d = true ∧ SeqAt.shaped (.tuple ds) = true ∧ Q (.bl (!ds.any fun z => PyData.eqv z d)) H
theorem op_inT (hu : X.A.units + 65 < cLine) : OpR X (compareOp .In) (rInT X.K) := by
  intro pins s σ H x y v u Q I rx ry h
  obtain ⟨d, ds, hd, he, sd, se, q⟩ := h
  obtain ⟨as, r1⟩ := Dp.reads I d x v hd rx
  obtain ⟨bs, r2⟩ := Dp.reads I (.tuple ds) y u he ry
  exact SeqAt.in_tuple_reads r2 r1 (SeqAt.canLay_of_shaped se) (SeqAt.canLay_of_shaped sd) (room_in_shaped sd hu) ⟨.bl _, H, I, rfl, q⟩
theorem op_notInT (hu : X.A.units + 65 < cLine) : OpR X (compareOp .NotIn) (rNotInT X.K) := by
  intro pins s σ H x y v u Q I rx ry h
  obtain ⟨d, ds, hd, he, sd, se, q⟩ := h
  obtain ⟨as, r1⟩ := Dp.reads I d x v hd rx
  obtain ⟨bs, r2⟩ := Dp.reads I (.tuple ds) y u he ry
  exact SeqAt.notIn_tuple_reads r2 r1 (SeqAt.canLay_of_shaped se) (SeqAt.canLay_of_shaped sd) (room_in_shaped sd hu) ⟨.bl _, H, I, rfl, q⟩
theorem units65 {k : Nat} {A : Around} (r : Room k A) : A.units + 65 < cLine := by
  have := r.un
  omega
end
section
variable {K : PySem.W.Frag} {H : Hp}
theorem DpAll.dropt : ∀ {xs : List V} {ds : List PyData} (n : Nat), DpAll K H xs ds → DpAll K H (xs.drop n) (ds.drop n)
  | _, _, 0, r => r
  | _, _, _ + 1, .nil => .nil
  | _, _, n + 1, .cons _ t => DpAll.dropt n t
theorem DpAll.taket : ∀ {xs : List V} {ds : List PyData} (n : Nat), DpAll K H xs ds → DpAll K H (xs.take n) (ds.take n)
  | _, _, 0, _ => .nil
  | _, _, _ + 1, .nil => .nil
  | _, _, n + 1, .cons r t => .cons r (DpAll.taket n t)
theorem DpAll.app : ∀ {xs ys : List V} {ds es : List PyData}, DpAll K H xs ds → DpAll K H ys es → DpAll K H (xs ++ ys) (ds ++ es)
  | _, _, _, _, .nil, r => r
  | _, _, _, _, .cons q t, r => .cons q (DpAll.app t r)
theorem DpAll.getV : ∀ {vs : List V} {ds : List PyData} {i : Nat} {v : V}, DpAll K H vs ds → vs[i]? = some v → ∃ d, ds[i]? = some d ∧ Dp K H v d
  | _, _, _, _, .nil, e => by simp at e
  | _, _, 0, _, .cons r _, e => by simp at e; subst e; exact ⟨_, rfl, r⟩
  | _, _, i + 1, _, .cons _ t, e => by
    obtain ⟨u, h1, h2⟩ := DpAll.getV (i := i) t (by simpa using e)
    exact ⟨u, by simpa using h1, h2⟩
end
/-- a part of a tuple, also the whole -/
theorem cut_nat (xs : List V) (i j : Nat) (h1 : i ≤ xs.length) (h2 : j ≤ xs.length) : cutV xs (some (i : Int)) (some (j : Int)) = (xs.drop i).take (j - i) := by
  unfold cutV
  rw [HT.sIx_nat, HT.sIx_nat, Nat.min_eq_left h1, Nat.min_eq_left h2]
theorem slA_nat {K : PySem.W.Frag} {H : Hp} {a : Addr} {xs : List V} {i j : Nat} {Q : VK} (hs : SqT K H a xs) (h1 : i ≤ xs.length) (h2 : j ≤ xs.length) (h : ∀ b H', Same H H' → SqT K H' b ((xs.drop i).take (j - i)) → (∀ c, H c = Option.none → c ≠ b → H' c = Option.none) → Q (.ref b) H') :
    rSlA K (.ref a) (some (i : Int)) (some (j : Int)) H Q := by
  refine ⟨a, xs, rfl, hs, fun z => ?_, fun z p np => ?_⟩
  · rw [HT.sIx_nat, HT.sIx_nat, Nat.min_eq_left h1, Nat.min_eq_left h2] at z
    refine h a H (Same.refl H) ?_ fun _ e _ => e
    rw [z.1, z.2, List.drop_zero, Nat.sub_zero, List.take_length]
    exact hs
  · rw [cut_nat xs i j h1 h2]
    exact h p _ (same_upd np) (SqT.of upd_same) fun c e hc => by rw [upd_ne hc]; exact e
theorem cat_dp {K : PySem.W.Frag} {H : Hp} {x y : V} {ds es : List PyData} {Q : VK} (hx : Dp K H x (.tuple ds)) (hy : Dp K H y (.tuple es)) (hne : ds ≠ []) (hz : ds.length + es.length ≤ 1000) (h : ∀ v H', Same H H' → Dp K H' v (.tuple (ds ++ es)) → Q v H') : rCatT K x y H Q := by
  cases hx with
  | @tup a xs _ sx ax =>
  cases hy with
  | @tup b ys _ sy ay =>
  have lx := DpAll.len ax
  have ly := DpAll.len ay
  refine ⟨a, b, xs, ys, rfl, rfl, sx, sy, fun z => ?_, small_of (by omega), fun z => ?_, fun z p np => ?_⟩
  · rw [z] at lx
    exact hne (List.eq_nil_of_length_eq_zero lx.symm)
  · subst z
    cases ay
    rw [List.append_nil] at h
    exact h _ H (Same.refl H) (.tup sx ax)
  · exact h _ _ (same_upd np) (.tup (SqT.of upd_same) (dp_sameAll (same_upd np) _ _ (DpAll.app ax ay)))
theorem cut_from1 (v : V) (xs : List V) : cutV (v :: xs) (some 1) Option.none = xs := by
  unfold cutV
  rw [show (some (1 : Int)) = some ((1 : Nat) : Int) from rfl, HT.sIx_nat, HT.sIx_none, List.length_cons, Nat.min_eq_left (by omega), List.drop_succ_cons, List.drop_zero, Nat.add_sub_cancel]
  exact List.take_length
section
variable {σ : L2.St} {H : Hp}
theorem args1 {t : TE} {ta : TA} {Q : List V → Hp → Prop} (h : t σ H fun x H1 => ta σ H1 fun xs H2 => Q (x :: xs) H2) : tCons t ta σ H Q := h
theorem tup_of {ta : TA} {Q : VK} (h : ta σ H fun xs H1 => xs.length ≤ sizeLine ∧ ∀ p, H1 p = Option.none → Q (.ref p) (upd H1 p (.tup xs))) : tTup ta σ H Q := h
theorem const_of {v : V} {Q : VK} (h : Q v H) : tC v σ H Q := h
theorem op_of {r : R2} {ta tb : TE} {Q : VK} (h : ta σ H fun x H1 => tb σ H1 fun y H2 => r x y H2 Q) : tOp r ta tb σ H Q := h
theorem nil_of {Q : List V → Hp → Prop} (h : Q [] H) : tNil σ H Q := h
end
section
variable {σ : L2.St} {H : Hp}
theorem call_of {sp : Sp} {dvs : List V} {E : XK} {t : TA} {Q : VK} (h : t σ H fun vs H1 => sp (vs ++ dvs) H1 Q E) : tCall sp dvs E t σ H Q := h
theorem args_and {r : R2} {sp : Sp} {dvs : List V} {E : XK} {t : TA} {tb tc : TE} {D : Ends} (h : t σ H fun vs H1 => sp (vs ++ dvs) H1 (fun x H1 => tb σ H1 fun y H2 => r x y H2 fun x H1 => ∃ c, x = .bl c ∧ if c = true then tc σ H1 D.rt else D.rt (.bl false) H1) E) : tRet (tAndV (tOp r (tCall sp dvs E t) tb) tc) D σ H := h
end
theorem relStr (x : Str) (t : Tok) : RelV (.str x) (.str x t) := ⟨_, rfl⟩
theorem relInt (i : Int) (t : Tok) : RelV (.int i) (.int i t) := ⟨_, rfl⟩
theorem relRef (a : Addr) : RelV (.ref a) (.ref a) := rfl
/-! ### a < b of data whose places are alike -/
section
variable {X : Cx}
def rLtD (K : PySem.W.Frag) : R2 := fun x y H Q => ∃ d e, Dp K H x d ∧ Dp K H y e ∧ PySem.W.alike d e = true ∧ d ≠ .none ∧ d.depth ≤ 8 ∧ Q (.bl (PySem.W.dataLt d e)) H
theorem op_ltD (hu : X.A.units + 64 < cLine) : OpR X (compareOp .Lt) (rLtD X.K) := by
  intro pins s σ H x y v u Q I rx ry h
  obtain ⟨d, e, hd, he, ha, hn, hz, q⟩ := h
  obtain ⟨as, r1⟩ := Dp.reads I d x v hd rx
  obtain ⟨bs, r2⟩ := Dp.reads I e y u he ry
  have R := PySem.W.rcLt_alike d e X.A s v u as bs r1 r2 ha hn (Nat.lt_of_le_of_lt (Nat.add_le_add_left (Nat.le_trans (Nat.min_le_left _ _) (Nat.le_trans hz (by decide : 8 ≤ 64))) _) hu)
  have z : wpAny (model X.prog X.w) X.A (compareOp .Lt v u) (EP X pins σ Q) X.xe s := R X.prog X.w X.xe (EP X pins σ Q) ⟨.bl _, H, I, rfl, q⟩
  exact z
end
/-! ### zip of two tuples -/
theorem walk_zipT {K : PySem.W.Frag} {a b : Addr} {xs ys : List V} {n : Nat} (hn : n = min xs.length ys.length) : Walk (RZ.ItzT K a b) n (fun H => SqT K H a xs ∧ SqT K H b ys) (YPair (fun i => xs[i]?) (fun i => ys[i]?)) := by
  subst hn
  refine ⟨fun i H hi q => ?_, fun H q => ⟨xs, ys, q.1, q.2, by omega⟩, fun i H v H' hi q y => ?_⟩
  · have h1 : i < xs.length := by omega
    have h2 : i < ys.length := by omega
    exact ⟨xs, ys, _, _, q.1, q.2, List.getElem?_eq_getElem h1, List.getElem?_eq_getElem h2⟩
  · obtain ⟨T, x, y, e1, e2, e3, e4, e5⟩ := y
    exact ⟨T, x, y, e1, e2, e3, e4 xs q.1, e5 ys q.2⟩
/-! ### () + t -/
section
open Builtin
theorem addE (l b : Addr) (xs ys : Array Value) (n k : Nat) (dd dd2 : Option Addr) (sl sl2 : Array (Option Value)) (he : xs.isEmpty = true) :
    Meets (Builtin.«tuple.__add__» ⟨[.ref l, .ref b], []⟩) (fun _ R s => s.heap.get? l = some { cls := .type "tuple", dict := dd, data := .seq xs n, slots := sl } ∧ s.heap.get? b = some { cls := .type "tuple", dict := dd2, data := .seq ys k, slots := sl2 } ∧ R (.ok (.ret (Value.ref b))) s) := by
  refine .of_wp fun prog w A R s h => ?_
  obtain ⟨hp, g, d, tk, os⟩ := s
  obtain ⟨ea, eb, q⟩ := h
  have i1 := AutoSeq1.idx_int
  have i2 := AutoSeq1.sub_tuple_tuple
  have i3 := AutoSeq1.sub_list_list
  have i4 := AutoSeq1.sub_tuple_list
  have i5 := AutoSeq1.sub_list_tuple
  wp_walk using AutoSeq1.wpAny_loadPart' ea, AutoSeq1.wpAny_loadPart' eb
  exact ⟨_, rfl, q⟩
end
section
variable {X : Cx}
def rCatA (K : PySem.W.Frag) : R2 := fun x y H Q => ∃ a b xs ys, x = .ref a ∧ y = .ref b ∧ SqT K H a xs ∧ SqT K H b ys ∧ xs.length + ys.length ≤ sizeLine ∧ (xs = [] → Q (.ref b) H) ∧ (ys = [] → Q (.ref a) H) ∧ ∀ p, H p = Option.none → Q (.ref p) (upd H p (.tup (xs ++ ys)))
theorem op_catA : OpR X (binaryOp .Add) (rCatA X.K) := by
  intro pins s σ H x y v u Q I rx ry h
  obtain ⟨a, b, xs, ys, rfl, rfl, ha, hb, hz, q1, q2, q3⟩ := h
  by_cases hx : xs = []
  · subst hx
    cases rx
    cases ry
    obtain ⟨its, r1, p1, _⟩ := I.tuple ha
    obtain ⟨its2, r2, p2, _⟩ := I.tuple hb
    cases r1
    obtain ⟨⟨oc, od, dt, sl⟩, e1, c1, n, d1⟩ := p1
    obtain ⟨⟨oc2, od2, dt2, sl2⟩, e2, c2, n2, d2⟩ := p2
    simp only at c1 d1 c2 d2
    subst c1 d1 c2 d2
    exact concat_meets ⟨_, e1, rfl⟩ ⟨_, e2, rfl⟩ noFill_tuple_add seq_tuple_add PySem.F.slot_tuple_add PySem.F.entry_tuple_add (PySem.F.args_tuple_add_2 _ _)
      (addE a b #[] its2.toArray n n2 od od2 sl sl2 rfl) ⟨e1, e2, ⟨.ref b, H, I, rfl, q1 rfl⟩⟩
  · exact op_catT pins s σ H (.ref a) (.ref b) v u Q I rx ry ⟨a, b, xs, ys, rfl, rfl, ha, hb, hx, hz, q2, fun _ p np => q3 p np⟩
end
section
variable {K : PySem.W.Frag} {G : Addr → Prop} {H : Hp}
theorem ImAll.dropt : ∀ {xs : List V} {ds : List PyData} (n : Nat), ImAll K G H xs ds → ImAll K G H (xs.drop n) (ds.drop n)
  | _, _, 0, r => r
  | _, _, _ + 1, .nil => .nil
  | _, _, n + 1, .cons _ t => ImAll.dropt n t
theorem ImAll.taket : ∀ {xs : List V} {ds : List PyData} (n : Nat), ImAll K G H xs ds → ImAll K G H (xs.take n) (ds.take n)
  | _, _, 0, _ => .nil
  | _, _, _ + 1, .nil => .nil
  | _, _, n + 1, .cons r t => .cons r (ImAll.taket n t)
theorem im_new {xs : List V} {ds : List PyData} {p : Addr} (np : H p = Option.none) (ia : ImAll K G H xs ds) : Im K (fun b => G b ∨ H b = Option.none) (upd H p (.tup xs)) (.ref p) (.tuple ds) :=
  .tup (.inr np) upd_same (Im.monoAll (fun b o _ e => same_upd np b o e) (fun _ g => .inl g) _ _ ia)
theorem im_cut {x : V} {ds es : List PyData} {lo hi : Option Int} {Q : VK} (iv : Im K G H x (.tuple ds)) (hc : ∀ xs : List V, ImAll K G H xs ds → ImAll K G H (cutV xs lo hi) es) (h : ∀ v H', Same H H' → (∀ b, G b ∨ H b = Option.none → G b ∨ H b = Option.none) → Im K (fun b => G b ∨ H b = Option.none) H' v (.tuple es) → Q v H') : rSlA K x lo hi H Q := by
  cases iv with
  | @tup a xs _ g e ia =>
  refine ⟨a, xs, rfl, SqT.of e, fun z => ?_, fun z p np => ?_⟩
  · have hw : cutV xs lo hi = xs := by
      unfold cutV
      rw [z.1, z.2, List.drop_zero, Nat.sub_zero, List.take_length]
    have := hc xs ia
    rw [hw] at this
    exact h _ H (Same.refl H) (fun _ q => q) (.tup (.inl g) e (Im.monoAll (fun _ _ _ e => e) (fun _ g => .inl g) _ _ this))
  · exact h _ _ (same_upd np) (fun _ q => q) (im_new np (hc xs ia))
theorem im_take {x : V} {ds : List PyData} {k : Nat} {Q : VK} (iv : Im K G H x (.tuple ds)) (hk : k ≤ ds.length) (h : ∀ v H', Same H H' → Im K (fun b => G b ∨ H b = Option.none) H' v (.tuple (ds.take k)) → Q v H') : rSlA K x Option.none (some (k : Int)) H Q :=
  im_cut iv (fun xs ia => by
    unfold cutV
    rw [HT.sIx_none, HT.sIx_nat, Nat.min_eq_left (by rw [ia.len]; exact hk), List.drop_zero, Nat.sub_zero]
    exact ImAll.taket _ ia) fun v H' s _ i => h v H' s i
theorem im_drop {x : V} {ds : List PyData} {k : Nat} {Q : VK} (iv : Im K G H x (.tuple ds)) (hk : k ≤ ds.length) (h : ∀ v H', Same H H' → Im K (fun b => G b ∨ H b = Option.none) H' v (.tuple (ds.drop k)) → Q v H') : rSlA K x (some (k : Int)) Option.none H Q :=
  im_cut iv (fun xs ia => by
    unfold cutV
    rw [HT.sIx_none, HT.sIx_nat, Nat.min_eq_left (by rw [ia.len]; exact hk), List.take_of_length_le (by rw [List.length_drop]; exact Nat.le_refl _)]
    exact ImAll.dropt _ ia) fun v H' s _ i => h v H' s i
theorem im_cat {x y : V} {ds es : List PyData} {Q : VK} (iv : Im K G H x (.tuple ds)) (iw : Im K G H y (.tuple es)) (hz : ds.length + es.length ≤ 1000) (h : ∀ v H', Same H H' → Im K (fun b => G b ∨ H b = Option.none) H' v (.tuple (ds ++ es)) → Q v H') : rCatA K x y H Q := by
  have w1 := Im.mono (G' := fun b => G b ∨ H b = Option.none) (fun _ _ _ e => e) (fun _ g => .inl g) _ _ iv
  have w2 := Im.mono (G' := fun b => G b ∨ H b = Option.none) (fun _ _ _ e => e) (fun _ g => .inl g) _ _ iw
  cases iv with
  | @tup a xs _ g e ia =>
  cases iw with
  | @tup b ys _ g2 e2 ib =>
  have l1 := ia.len
  have l2 := ib.len
  refine ⟨a, b, xs, ys, rfl, rfl, SqT.of e, SqT.of e2, small_of (by omega), fun z => ?_, fun z => ?_, fun p np => ?_⟩
  · subst z
    cases ia
    exact h _ H (Same.refl H) w2
  · subst z
    cases ib
    rw [List.append_nil] at h
    exact h _ H (Same.refl H) w1
  · exact h _ _ (same_upd np) (im_new np (ImAll.app ia ib))
end
end My
namespace My
open PySem PySem.Spec PyProof.Rows L2 SkE
/-! ### defs that may raise, and the program's own error classes -/
def HasX (P : Program) (w : World) (K : PySem.W.Frag) (mg : Str → Option Value) (base : Heap) (k : Nat) (x : Str) (ps : List Str) (sp : Sp) : Prop :=
  ∃ (f : Addr) (fd : FuncData), FnOk P w K mg base (L2.CX P w) k f fd ps sp ∧ mg x = some (.ref f) ∧ PySem.W.keepIn K (.ref f) = true ∧ Binds K fd ps []
/-- where the class of this name stands -/
def clsA (K : PySem.W.Frag) (x : Str) : Addr := match PySem.W.nsIn K mainGlobals x with
  | some (some (.ref C)) => C | _ => 0
theorem clsA_of {K : PySem.W.Frag} {x : Str} {C : Addr} (h : PySem.W.nsIn K mainGlobals x = some (some (.ref C))) : clsA K x = C := by
  unfold clsA
  rw [h]
structure Xc (K : PySem.W.Frag) (mg : Str → Option Value) (x : Str) (C : Addr) : Prop where
  gC : mg x = some (.ref C)
  xC : PySem.W.excIn K C [.type "ValueError", .type "Exception", .type "BaseException", .type "object"] "ValueError.__new__" = true
  kC : PySem.W.keepIn K (.ref C) = true
  bC : PySem.W.subIn K (.ref C) (.type "BaseException") = some true
  tC : PySem.W.typeIn K (.ref C) = some (.type "type")
  iC : PySem.W.isClsIn K C = true
theorem exm_pair {K : PySem.W.Frag} {T S : Addr} {b : Bool} (h1 : PySem.W.subIn K (.ref S) (.type "BaseException") = some true) (h2 : PySem.W.isClsIn K S = true) (h3 : PySem.W.typeIn K (.ref S) = some (.type "type")) (h4 : PySem.W.subIn K (.ref T) (.ref S) = some b) :
    PySem.W.exmOne K (.ref T) (.ref S) = some b := by
  have e1 : (PySem.W.subIn K (.ref S) (.type "BaseException") == some true) = true := by rw [h1] <;> rfl
  have e2 : ((PySem.W.clsIn K S).isSome && PySem.W.typeIn K (.ref S) == some (.type "type")) = true := by
    have h2' : (PySem.W.clsIn K S).isSome = true := h2
    rw [h2', h3] <;> rfl
  show (if (PySem.W.subIn K (.ref S) (.type "BaseException") == some true) = true then (if ((PySem.W.clsIn K S).isSome && PySem.W.typeIn K (.ref S) == some (.type "type")) = true then PySem.W.subIn K (.ref T) (.ref S) else none) else none) = some b
  rw [if_pos e1, if_pos e2]
  exact h4
theorem pss_under {X : Cx} {b : List Stmt} {t : TS} {P : Prop} (h : P → PSs X b t) : PSs X b (fun D σ H => P ∧ t D σ H) := ⟨fun pins s σ H D I ⟨p, q⟩ => (h p).run pins s σ H D I q⟩
end My
namespace My
open PySem PySem.Spec PyProof.Rows L2
/-! ### one step of a reading each -/
section
variable {σ : L2.St} {H : Hp} {Q : VK} {QA : List V → Hp → Prop} {QT : Bool → Hp → Prop} {te ta tb : TE} {tr tk : TA} {t u : TS} {c d : TT} {D : Ends} {v x y : V} {i j : Int} {g : TG} {K : PySem.W.Frag}
theorem st_of {N : List Str} {vs : List V} (e : L2.start N vs = σ) (h : t D σ H) : t D (L2.start N vs) H := e ▸ h
theorem g_var {n : Nat} (e : σ[n]? = some (some v)) (h : Q v H) : tVar n σ H Q := ⟨v, e, h⟩
theorem g_c (h : Q v H) : tC v σ H Q := h
theorem g_nil (h : QA [] H) : tNil σ H QA := h
theorem g_cons (h : ta σ H fun x H1 => tr σ H1 fun xs H2 => QA (x :: xs) H2) : tCons ta tr σ H QA := h
theorem g_op {r : R2} (h : ta σ H fun x H1 => tb σ H1 fun y H2 => r x y H2 Q) : tOp r ta tb σ H Q := h
theorem g_un {r : V → Hp → VK → Prop} (h : ta σ H fun x H1 => r x H1 Q) : tUn r ta σ H Q := h
theorem g_i0 {f : Int → Int → V} (h : Q (f i j) H) : rI0 f (.int i) (.int j) H Q := ⟨i, j, rfl, rfl, h⟩
theorem g_i1 {C : Int → Int → Prop} {f : Int → Int → V} (hc : C i j) (h : Q (f i j) H) : rI C f (.int i) (.int j) H Q := ⟨i, j, rfl, rfl, hc, h⟩
theorem g_iu {f : Int → V} (h : Q (f i) H) : rU f (.int i) H Q := ⟨i, rfl, h⟩
theorem dec_i : decide (V.int i = V.int j) = decide (i = j) := by
  by_cases e : i = j
  · rw [e]; simp
  · rw [decide_eq_false e, decide_eq_false fun z => e (V.int.inj z)]
theorem dec_s {a b : Str} : decide (V.str a = V.str b) = decide (a = b) := by
  by_cases e : a = b
  · rw [e]; simp
  · rw [decide_eq_false e, decide_eq_false fun z => e (V.str.inj z)]
theorem g_eqi (h : Q (.bl (decide (i = j))) H) : rEq (.int i) (.int j) H Q := ⟨rfl, by rw [dec_i]; exact h⟩
theorem g_nei (h : Q (.bl (!decide (i = j))) H) : rNe (.int i) (.int j) H Q := ⟨rfl, by rw [dec_i]; exact h⟩
theorem g_eqs {a b : Str} (h : Q (.bl (decide (a = b))) H) : rEq (.str a) (.str b) H Q := ⟨rfl, by rw [dec_s]; exact h⟩
theorem g_nes {a b : Str} (h : Q (.bl (!decide (a = b))) H) : rNe (.str a) (.str b) H Q := ⟨rfl, by rw [dec_s]; exact h⟩
theorem g_bl {b : Bool} {P : Bool → Prop} (h : P b) : ∃ k, V.bl b = V.bl k ∧ P k := ⟨b, rfl, h⟩
theorem g_in {P : Int → Prop} (h : P i) : ∃ k, V.int i = V.int k ∧ P k := ⟨i, rfl, h⟩
theorem g_test (h : te σ H fun x H' => ∃ k, x = .bl k ∧ QT k H') : tTest te σ H QT := h
theorem g_b (h : te σ H fun x H' => ∃ k, x = .bl k ∧ QT k H') : tB te σ H QT := h
theorem g_not (h : c σ H fun b H1 => QT (!b) H1) : tNot c σ H QT := h
theorem g_and (h : c σ H fun b H1 => if b = true then d σ H1 QT else QT false H1) : tAnd c d σ H QT := h
theorem g_or (h : c σ H fun b H1 => if b = true then QT true H1 else d σ H1 QT) : tOr c d σ H QT := h
theorem g_andV (h : ta σ H fun x H1 => ∃ k, x = .bl k ∧ if k = true then tb σ H1 Q else Q (.bl false) H1) : tAndV ta tb σ H Q := h
theorem g_orV (h : ta σ H fun x H1 => ∃ k, x = .bl k ∧ if k = true then Q (.bl true) H1 else tb σ H1 Q) : tOrV ta tb σ H Q := h
theorem g_notV (h : ta σ H fun x H1 => ∃ k, x = .bl k ∧ Q (.bl (!k)) H1) : tNotV ta σ H Q := h
theorem g_if (h : c σ H fun b H1 => if b = true then ta σ H1 Q else tb σ H1 Q) : tIf c ta tb σ H Q := h
theorem g_next (h : D.nx σ H) : tNext D σ H := h
theorem g_seq (h : t { D with nx := u D } σ H) : tSeq t u D σ H := h
theorem g_brk (h : D.bk σ H) : tBreak D σ H := h
theorem g_cont (h : D.ct σ H) : tCont D σ H := h
theorem g_drop (h : te σ H fun _ H1 => D.nx σ H1) : tDrop te D σ H := h
theorem g_ret (h : te σ H D.rt) : tRet te D σ H := h
theorem g_retN (h : D.rt .non H) : tRetN D σ H := h
theorem g_ifS (h : c σ H fun b H1 => if b = true then t D σ H1 else u D σ H1) : tIfS c t u D σ H := h
theorem g_asg (h : te σ H fun x H1 => g x σ H1 D.nx) : tAsg te g D σ H := h
theorem g_par {m n : Nat} (h : tr σ H fun vs H1 => ∃ v w, vs = [v, w] ∧ D.nx ((σ.set m (some v)).set n (some w)) H1) : tPar m n tr D σ H := h
theorem g_two {P : V → V → Prop} (h : P x y) : ∃ a b, [x, y] = [a, b] ∧ P a b := ⟨x, y, rfl, h⟩
theorem g_aug {n : Nat} {ti : TIp} (e : σ[n]? = some (some x)) (h : te σ H fun y H1 => ti x y H1 fun z H2 => D.nx (σ.set n (some z)) H2) : tAug n te ti D σ H := ⟨x, e, h⟩
theorem g_call {sp : Sp} {dvs : List V} {E : XK} (h : tr σ H fun vs H1 => sp (vs ++ dvs) H1 Q E) : tCall sp dvs E tr σ H Q := h
theorem g_callN {n m : Nat} {sp : Sp} {gV : List V → List V → List V} {E : XK} (h : tr σ H fun vs H1 => tk σ H1 fun zs H2 => vs.length = n ∧ zs.length = m ∧ sp (gV vs zs) H2 Q E) : tCallN n m sp gV E tr tk σ H Q := h
theorem g_kw {r : List V → List V → Hp → VK → Prop} (h : tr σ H fun vs H1 => tk σ H1 fun zs H2 => r vs zs H2 Q) : tCKw r tr tk σ H Q := h
theorem g_cb {r : List V → Hp → VK → Prop} (h : tr σ H fun vs H1 => r vs H1 Q) : tCB r tr σ H Q := h
theorem g_tup (h : tr σ H fun xs H1 => xs.length ≤ sizeLine ∧ ∀ p, H1 p = Option.none → Q (.ref p) (upd H1 p (.tup xs))) : tTup tr σ H Q := h
theorem g_lst (h : tr σ H fun xs H1 => xs.length ≤ sizeLine ∧ ∀ p, H1 p = Option.none → Q (.ref p) (upd H1 p (.lst xs))) : tLst tr σ H Q := h
theorem g_sl {r : V → Option Int → Option Int → Hp → VK → Prop} {tl th : TO} (h : te σ H fun x H1 => tl σ H1 fun l H2 => th σ H2 fun u H3 => r x l u H3 Q) : tSl r te tl th σ H Q := h
theorem g_np {QO : Option Int → Hp → Prop} (h : QO Option.none H) : tNoPart σ H QO := h
theorem g_part {QO : Option Int → Hp → Prop} (h : te σ H fun x H1 => ∃ i, x = .int i ∧ QO (some i) H1) : tPart te σ H QO := h
theorem g_bm {T : String} {r : V → List V → Hp → VK → Prop} (h : te σ H fun x H1 => tyV K T x H1 ∧ tr σ H1 fun xs H2 => r x xs H2 Q) : tBM K T r te tr σ H Q := h
theorem g_bm0 {T : String} {r : V → List V → Hp → VK → Prop} (h : te σ H fun x H1 => tyV K T x H1 ∧ r x [] H1 Q) : tBM0 K T r te σ H Q := h
theorem g_rt {N : L2.St → Hp → Prop} {R : VK} {B C : L2.St → Hp → Prop} (h : R v H) : ({ nx := N, rt := R, bk := B, ct := C } : Ends).rt v H := h
theorem g_bk {N : L2.St → Hp → Prop} {R : VK} {B C : L2.St → Hp → Prop} (h : B σ H) : ({ nx := N, rt := R, bk := B, ct := C } : Ends).bk σ H := h
theorem g_ct {N : L2.St → Hp → Prop} {R : VK} {B C : L2.St → Hp → Prop} (h : C σ H) : ({ nx := N, rt := R, bk := B, ct := C } : Ends).ct σ H := h
theorem g_sub {to ti : TE} {ts : TSet} {QS : L2.St → Hp → Prop} (h : to σ H fun o H1 => ti σ H1 fun i H2 => ts o i v H2 fun H3 => QS σ H3) : gSub to ti ts v σ H QS := h
theorem g_isN {P : Bool → Prop} (h : P true) : P (decide (V.non = V.non)) := by rw [decide_eq_true rfl]; exact h
theorem ifv (P : Hp → Prop) (hu : ∀ H, P H → u D σ H) (hc : (∀ H, P H → u D σ H) → c σ H fun b H1 => if b = true then t D σ H1 else u D σ H1) : tIfS c t u D σ H := hc hu
theorem ifc (b : Bool) (hc : ∀ QT : Bool → Hp → Prop, QT b H → c σ H QT) (ht : b = true → t D σ H) (hu : b = false → u D σ H) : tIfS c t u D σ H := hc _ (by cases b with | true => exact iteT (ht rfl) | false => exact iteF (hu rfl))
theorem nx_via {t : TS} {N : L2.St → Hp → Prop} {R : VK} {B C : L2.St → Hp → Prop} (P : L2.St → Hp → Prop) (hu : ∀ σ H, P σ H → N σ H) (ht : (∀ σ H, P σ H → N σ H) → t { nx := N, rt := R, bk := B, ct := C } σ H) : t { nx := N, rt := R, bk := B, ct := C } σ H := ht hu
theorem iteNf {A B : Prop} (h : A) : if (!false) = true then A else B := h
theorem iteSs {α : Type} {u : α} {A B : Prop} (h : A) : if (some u).isSome = true then A else B := h
theorem iteSn {α : Type} {A B : Prop} (h : B) : if (Option.none : Option α).isSome = true then A else B := iteF h
theorem iteNt {A B : Prop} (h : B) : if (!true) = true then A else B := iteF h
theorem g_yes {QT : Bool → Hp → Prop} (h : QT true H) : tYes σ H QT := h
theorem nine {n : Int} (h0 : 0 ≤ n) (h : n ≤ 10 ^ 41) : n.natAbs < 2 ^ 9000 := Nat.lt_of_lt_of_le (show n.natAbs < 2 ^ 140 from Nat.lt_of_le_of_lt (show n.natAbs ≤ 10 ^ 41 by omega) (by decide)) (Nat.pow_le_pow_right (by decide) (by decide))
/-- a while by a measure -/
theorem while_m {tb : TS} (W : Nat → L2.St → Hp → Prop) (h0 : ∃ m, W m σ H) (hs : ∀ m σ H, W m σ H → c σ H fun b H1 => if b = true then ∃ N : L2.St → Hp → Prop, (∀ σ' H', N σ' H' → ∃ m', m' < m ∧ W m' σ' H') ∧ tb { D with nx := N, ct := N, bk := D.nx } σ H1 else D.nx σ H1) : tWhile c tb D σ H := ⟨W, h0, hs⟩
theorem while_n {tb : TS} {W : Nat → L2.St → Hp → Prop} {m : Nat} (h : tb { D with nx := fun σ' H' => ∃ m', m' < m ∧ W m' σ' H', ct := fun σ' H' => ∃ m', m' < m ∧ W m' σ' H', bk := D.nx } σ H) :
    ∃ N : L2.St → Hp → Prop, (∀ σ' H', N σ' H' → ∃ m', m' < m ∧ W m' σ' H') ∧ tb { D with nx := N, ct := N, bk := D.nx } σ H := ⟨_, fun _ _ z => z, h⟩
end
section
variable {K : PySem.W.Frag} {a p : Addr} {xs ys : List V} {H : Hp} {Q : VK} {v y : V} {j : Nat} {P : Prop} {D : Ends} {σ : L2.St} {g : TG} {tb : TS}
theorem ixL (hs : SqL K H p xs) (e : xs[j]? = some v) (q : Q v H) : rIxL K (.ref p) (.int (j : Int)) H Q := ⟨p, xs, _, v, rfl, rfl, hs, atI_nat e, q⟩
theorem ixT (hs : SqT K H p xs) (e : xs[j]? = some v) (q : Q v H) : rIxT K (.ref p) (.int (j : Int)) H Q := ⟨p, xs, _, v, rfl, rfl, hs, atI_nat e, q⟩
theorem tyl (hs : SqL K H p xs) (q : P) : tyV K "list" (.ref p) H ∧ P := ⟨.inl ⟨rfl, _, hs⟩, q⟩
theorem rap (e : H p = some (.lst xs)) (l : xs.length ≤ 10000000) (q : Q .non (upd H p (.lst (xs ++ [y])))) : rAppend (.ref p) [y] H Q := ⟨p, xs, y, rfl, rfl, e, Nat.lt_of_le_of_lt l (by decide), q⟩
theorem lenL (hs : SqL K H p xs) (q : Q (.int (xs.length : Nat)) H) : ∃ p' ys, [V.ref p] = [V.ref p'] ∧ (SqL K H p' ys ∨ SqT K H p' ys) ∧ Q (.int (ys.length : Nat)) H := ⟨p, xs, rfl, .inl hs, q⟩
theorem lenT (hs : SqT K H p xs) (q : Q (.int (xs.length : Nat)) H) : ∃ p' ys, [V.ref p] = [V.ref p'] ∧ (SqL K H p' ys ∨ SqT K H p' ys) ∧ Q (.int (ys.length : Nat)) H := ⟨p, xs, rfl, .inr hs, q⟩
theorem slL {lo hi : Option Int} (hs : SqL K H p xs) (q : ∀ b, H b = Option.none → Q (.ref b) (upd H b (.lst (cutV xs lo hi)))) : rSlL K (.ref p) lo hi H Q := ⟨p, xs, rfl, hs, q⟩
theorem newN {ws : List V} {n : Nat} (e : ws.length = n) (l : n ≤ 100000) {P : Addr → Prop} (q : ∀ b, H b = Option.none → P b) : ws.length ≤ sizeLine ∧ ∀ b, H b = Option.none → P b := ⟨Nat.le_trans (Nat.le_of_eq e) (Nat.le_trans l (by decide)), q⟩
end
section
variable {σ : L2.St} {H : Hp} {D : Ends} {K : PySem.W.Frag} {wi : TI} {g : TG} {tb : TS} {tl : TE} {ta : TA} {R : It → Hp → Prop}
theorem g_for (h : wi σ H fun J H1 => ∃ W : Nat → Nat → L2.St → Hp → Prop, (∃ m, W 0 m σ H1) ∧ ∀ i m σ H, W i m σ H →
    (J.stop i H ∧ D.nx σ H) ∨ (J.go i H ∧ ∃ N : L2.St → Hp → Prop, (∀ σ' H', N σ' H' → ∃ m', m' < m ∧ W (i + 1) m' σ' H') ∧ ∀ x H', J.yld i H x H' → g x σ H' fun σ2 H2 => tb { D with nx := N, ct := N, bk := D.nx } σ2 H2)) : tFor wi g tb D σ H := h
theorem g_iL (h : tl σ H fun x H1 => ∃ a, x = .ref a ∧ (∃ xs, SqL K H1 a xs) ∧ R (Itl K a) H1) : iList K tl σ H R := h
theorem g_iT (h : tl σ H fun x H1 => ∃ a, x = .ref a ∧ (∃ xs, SqT K H1 a xs) ∧ R (Itt K a) H1) : iTup K tl σ H R := h
theorem g_iR1 (h : ta σ H fun vs H1 => ∃ j : Int, vs = [.int j] ∧ -(2 ^ 62) ≤ j ∧ j < 2 ^ 62 ∧ R (Itr 0 j.toNat) H1) : iRng1 ta σ H R := h
theorem g_iR2 (h : ta σ H fun vs H1 => ∃ i j : Int, vs = [.int i, .int j] ∧ (-(2 ^ 62) ≤ i ∧ i < 2 ^ 62 ∧ -(2 ^ 62) ≤ j ∧ j < 2 ^ 62) ∧ R (Itr i (j - i).toNat) H1) : iRng2 ta σ H R := h
theorem itR {j : Int} {n : Nat} (e : j.toNat = n) (l : n ≤ 1000000) (h0 : 0 ≤ j) (q : R (Itr 0 n) H) : ∃ j' : Int, [V.int j] = [V.int j'] ∧ -(2 ^ 62) ≤ j' ∧ j' < 2 ^ 62 ∧ R (Itr 0 j'.toNat) H := ⟨j, rfl, by omega, by omega, by rw [e]; exact q⟩
theorem itRn {j : Int} (h0 : j ≤ 0) (l : -1000000 ≤ j) (q : R (Itr 0 0) H) : ∃ j' : Int, [V.int j] = [V.int j'] ∧ -(2 ^ 62) ≤ j' ∧ j' < 2 ^ 62 ∧ R (Itr 0 j'.toNat) H := ⟨j, rfl, by omega, by omega, by rw [Int.toNat_of_nonpos h0]; exact q⟩
theorem itL {a : Addr} {xs : List V} (hs : SqL K H a xs) (q : R (Itl K a) H) : ∃ a', V.ref a = .ref a' ∧ (∃ xs, SqL K H a' xs) ∧ R (Itl K a') H := ⟨a, rfl, ⟨xs, hs⟩, q⟩
theorem itT {a : Addr} {xs : List V} (hs : SqT K H a xs) (q : R (Itt K a) H) : ∃ a', V.ref a = .ref a' ∧ (∃ xs, SqT K H a' xs) ∧ R (Itt K a') H := ⟨a, rfl, ⟨xs, hs⟩, q⟩
theorem g_iZ (h : ta σ H fun vs H1 => ∃ a b xs ys, vs = [.ref a, .ref b] ∧ ((SqL K H1 a xs ∧ SqL K H1 b ys ∧ R (Itz K a b) H1) ∨ (SqT K H1 a xs ∧ SqT K H1 b ys ∧ R (RZ.ItzT K a b) H1))) : RZ.iZipA K ta σ H R := h
theorem itZ {a b : Addr} {xs ys : List V} (h1 : SqL K H a xs) (h2 : SqL K H b ys) (q : R (Itz K a b) H) : ∃ a' b' xs ys, [V.ref a, V.ref b] = [V.ref a', .ref b'] ∧ ((SqL K H a' xs ∧ SqL K H b' ys ∧ R (Itz K a' b') H) ∨ (SqT K H a' xs ∧ SqT K H b' ys ∧ R (RZ.ItzT K a' b') H)) := ⟨a, b, xs, ys, rfl, .inl ⟨h1, h2, q⟩⟩
theorem cutV_to (xs : List V) (n : Nat) : cutV xs Option.none (some (n : Int)) = xs.take n := by
  unfold cutV
  rw [HT.sIx_none, HT.sIx_nat, List.drop_zero, Nat.sub_zero]
  rcases Nat.le_total n xs.length with h | h
  · rw [Nat.min_eq_left h]
  · rw [Nat.min_eq_right h, List.take_length, List.take_of_length_le h]
theorem cutV_from (xs : List V) (n : Nat) : cutV xs (some (n : Int)) Option.none = xs.drop n := by
  unfold cutV
  rw [HT.sIx_none, HT.sIx_nat, List.take_of_length_le (by rw [List.length_drop]; exact Nat.le_refl _)]
  rcases Nat.le_total n xs.length with h | h
  · rw [Nat.min_eq_left h]
  · rw [Nat.min_eq_right h, List.drop_length, List.drop_of_length_le h]
theorem cutV_last (xs : List V) : cutV xs Option.none (some (-1)) = xs.dropLast := by
  unfold cutV
  rw [HT.sIx_none, show HT.sIx xs.length xs.length (some (-1)) = xs.length - 1 from by
    show (if (-1 : Int) < 0 then ((-1 : Int) + (xs.length : Int)).toNat else min (-1 : Int).toNat xs.length) = _
    rw [if_pos (by decide)]
    omega, List.drop_zero, Nat.sub_zero, List.dropLast_eq_take]
theorem g_gtup {n : Nat} {gs : TGs} {QS : L2.St → Hp → Prop} {a : Addr} {xs : List V} (hs : SqT K H a xs) (l : xs.length = n) (q : gs xs σ H QS) : gTup K n gs (.ref a) σ H QS := ⟨a, xs, rfl, hs, l, q⟩
theorem g_gnil {QS : L2.St → Hp → Prop} (q : QS σ H) : gNil [] σ H QS := ⟨rfl, q⟩
theorem g_gcons {gs : TGs} {v : V} {r : List V} {QS : L2.St → Hp → Prop} (q : g v σ H fun σ' H' => gs r σ' H' QS) : gCons g gs (v :: r) σ H QS := ⟨v, r, rfl, q⟩
theorem g_lc {tt : TT} {te : TE} {vs : List Nat} {Q : VK} (h : wi σ H fun J H1 => ∀ D, H1 D = Option.none → ∃ W : Nat → Nat → Hp → Prop, (∃ m, W 0 m (upd H1 D (.lst []))) ∧ ∀ i m H, W i m H →
  (J.stop i H ∧ Q (.ref D) H) ∨ (J.go i H ∧ ∃ Nx : Hp → Prop, (∀ H', Nx H' → ∃ m', m' < m ∧ W (i + 1) m' H') ∧ ∀ x H', J.yld i H x H' → g x (wipe σ vs) H' fun σ2 H2 => wipe σ2 vs = wipe σ vs ∧ tt σ2 H2 fun b H3 =>
    if b = true then te σ2 H3 fun y H4 => ∃ acc, H4 D = some (.lst acc) ∧ acc.length < sizeLine ∧ Nx (upd H4 D (.lst (acc ++ [y]))) else Nx H3)) : tLc wi g tt te vs σ H Q := h
end
/-! ### data without lists stay where a list is changed -/
mutual
def nL : PyData → Bool
  | .list _ => false
  | .tuple ds => nLs ds
  | _ => true
def nLs : List PyData → Bool
  | [] => true
  | d :: ds => nL d && nLs ds
end
section
variable {K : PySem.W.Frag} {H H' : Hp} {D : Addr}
/-- all but the object at D, which is no tuple -/
structure ButL (D : Addr) (H H' : Hp) : Prop where
  keep : ∀ b o, b ≠ D → H b = some o → H' b = some o
  list : ∃ o, H D = some o ∧ (∀ xs, o ≠ .tup xs) ∧ ∀ u xs, o ≠ .frz u (.tup xs)
theorem ButL.sqT (h : ButL D H H') {a : Addr} {xs : List V} (q : SqT K H a xs) : SqT K H' a xs := by
  obtain ⟨o, e, n1, n2⟩ := h.list
  rcases q with (q | ⟨u, q⟩) | q
  · exact .inl (.inl (h.keep _ _ (fun z => by rw [z, e] at q; exact n1 _ (Option.some.inj q)) q))
  · exact .inl (.inr ⟨u, h.keep _ _ (fun z => by rw [z, e] at q; exact n2 _ _ (Option.some.inj q)) q⟩)
  · exact .inr q
theorem ButL.put {zs : List V} {o : HO} (e : H D = some (.lst zs)) : ButL D H (upd H D o) :=
  ⟨fun b u hb g => by rw [upd_ne hb]; exact g, ⟨_, e, (fun _ z => by cases z), (fun _ _ z => by cases z)⟩⟩
mutual
theorem dp_nL (h : ButL D H H') : ∀ (d : PyData) (v : V), nL d = true → Dp K H v d → Dp K H' v d
  | .none, _, _, r => by cases r; exact .non
  | .bool b, _, _, r => by cases r; exact .bl b
  | .int i, _, _, r => by cases r; exact .int i
  | .str x, _, _, r => by cases r; exact .str x
  | .list ds, _, n, _ => by simp [nL] at n
  | .tuple ds, _, n, r => by
    cases r with
    | tup g ha => exact .tup (h.sqT g) (dp_nLs h ds _ (by simpa [nL] using n) ha)
  | .dict _, _, _, r => by cases r
theorem dp_nLs (h : ButL D H H') : ∀ (ds : List PyData) (vs : List V), nLs ds = true → DpAll K H vs ds → DpAll K H' vs ds
  | [], _, _, r => by cases r; exact .nil
  | d :: ds, _, n, r => by
    cases r with
    | cons r1 r2 =>
      simp only [nLs, Bool.and_eq_true] at n
      exact .cons (dp_nL h d _ n.1 r1) (dp_nLs h ds _ n.2 r2)
end
theorem nLs_of {ds : List PyData} (h : ∀ d ∈ ds, nL d = true) : nLs ds = true := by
  induction ds with
  | nil => simp [nLs]
  | cons d ds ih => simp only [nLs, h d (.head _), ih fun e he => h e (.tail _ he), Bool.and_self]
theorem nLs_mem {ds : List PyData} (h : nLs ds = true) : ∀ d ∈ ds, nL d = true := by
  induction ds with
  | nil => exact fun d hd => nomatch hd
  | cons d ds ih =>
    simp only [nLs, Bool.and_eq_true] at h
    intro e he
    rcases List.mem_cons.mp he with rfl | he
    · exact h.1
    · exact ih h.2 e he
theorem dpAll_end : ∀ {vs : List V} {ds : List PyData} {v : V} {d : PyData}, DpAll K H vs ds → Dp K H v d → DpAll K H (vs ++ [v]) (ds ++ [d])
  | _, _, _, _, .nil, r => .cons r .nil
  | _, _, _, _, .cons q t, r => .cons q (dpAll_end t r)
end
section
variable {v : V} {H : Hp} {QS : L2.St → Hp → Prop} {s : L2.St}
theorem g_n0 {a0 : Option V} (h : QS (some v :: s) H) : gName 0 v (a0 :: s) H QS := h
theorem g_n1 {a0 a1 : Option V} (h : QS (a0 :: some v :: s) H) : gName 1 v (a0 :: a1 :: s) H QS := h
theorem g_n2 {a0 a1 a2 : Option V} (h : QS (a0 :: a1 :: some v :: s) H) : gName 2 v (a0 :: a1 :: a2 :: s) H QS := h
theorem g_n3 {a0 a1 a2 a3 : Option V} (h : QS (a0 :: a1 :: a2 :: some v :: s) H) : gName 3 v (a0 :: a1 :: a2 :: a3 :: s) H QS := h
theorem g_n4 {a0 a1 a2 a3 a4 : Option V} (h : QS (a0 :: a1 :: a2 :: a3 :: some v :: s) H) : gName 4 v (a0 :: a1 :: a2 :: a3 :: a4 :: s) H QS := h
theorem g_n5 {a0 a1 a2 a3 a4 a5 : Option V} (h : QS (a0 :: a1 :: a2 :: a3 :: a4 :: some v :: s) H) : gName 5 v (a0 :: a1 :: a2 :: a3 :: a4 :: a5 :: s) H QS := h
theorem g_n6 {a0 a1 a2 a3 a4 a5 a6 : Option V} (h : QS (a0 :: a1 :: a2 :: a3 :: a4 :: a5 :: some v :: s) H) : gName 6 v (a0 :: a1 :: a2 :: a3 :: a4 :: a5 :: a6 :: s) H QS := h
theorem g_n7 {a0 a1 a2 a3 a4 a5 a6 a7 : Option V} (h : QS (a0 :: a1 :: a2 :: a3 :: a4 :: a5 :: a6 :: some v :: s) H) : gName 7 v (a0 :: a1 :: a2 :: a3 :: a4 :: a5 :: a6 :: a7 :: s) H QS := h
theorem g_n8 {a0 a1 a2 a3 a4 a5 a6 a7 a8 : Option V} (h : QS (a0 :: a1 :: a2 :: a3 :: a4 :: a5 :: a6 :: a7 :: some v :: s) H) : gName 8 v (a0 :: a1 :: a2 :: a3 :: a4 :: a5 :: a6 :: a7 :: a8 :: s) H QS := h
theorem g_n9 {a0 a1 a2 a3 a4 a5 a6 a7 a8 a9 : Option V} (h : QS (a0 :: a1 :: a2 :: a3 :: a4 :: a5 :: a6 :: a7 :: a8 :: some v :: s) H) : gName 9 v (a0 :: a1 :: a2 :: a3 :: a4 :: a5 :: a6 :: a7 :: a8 :: a9 :: s) H QS := h
theorem g_n10 {a0 a1 a2 a3 a4 a5 a6 a7 a8 a9 a10 : Option V} (h : QS (a0 :: a1 :: a2 :: a3 :: a4 :: a5 :: a6 :: a7 :: a8 :: a9 :: some v :: s) H) : gName 10 v (a0 :: a1 :: a2 :: a3 :: a4 :: a5 :: a6 :: a7 :: a8 :: a9 :: a10 :: s) H QS := h
theorem g_n11 {a0 a1 a2 a3 a4 a5 a6 a7 a8 a9 a10 a11 : Option V} (h : QS (a0 :: a1 :: a2 :: a3 :: a4 :: a5 :: a6 :: a7 :: a8 :: a9 :: a10 :: some v :: s) H) : gName 11 v (a0 :: a1 :: a2 :: a3 :: a4 :: a5 :: a6 :: a7 :: a8 :: a9 :: a10 :: a11 :: s) H QS := h
theorem g_n12 {a0 a1 a2 a3 a4 a5 a6 a7 a8 a9 a10 a11 a12 : Option V} (h : QS (a0 :: a1 :: a2 :: a3 :: a4 :: a5 :: a6 :: a7 :: a8 :: a9 :: a10 :: a11 :: some v :: s) H) : gName 12 v (a0 :: a1 :: a2 :: a3 :: a4 :: a5 :: a6 :: a7 :: a8 :: a9 :: a10 :: a11 :: a12 :: s) H QS := h
theorem g_n13 {a0 a1 a2 a3 a4 a5 a6 a7 a8 a9 a10 a11 a12 a13 : Option V} (h : QS (a0 :: a1 :: a2 :: a3 :: a4 :: a5 :: a6 :: a7 :: a8 :: a9 :: a10 :: a11 :: a12 :: some v :: s) H) : gName 13 v (a0 :: a1 :: a2 :: a3 :: a4 :: a5 :: a6 :: a7 :: a8 :: a9 :: a10 :: a11 :: a12 :: a13 :: s) H QS := h
theorem g_n14 {a0 a1 a2 a3 a4 a5 a6 a7 a8 a9 a10 a11 a12 a13 a14 : Option V} (h : QS (a0 :: a1 :: a2 :: a3 :: a4 :: a5 :: a6 :: a7 :: a8 :: a9 :: a10 :: a11 :: a12 :: a13 :: some v :: s) H) : gName 14 v (a0 :: a1 :: a2 :: a3 :: a4 :: a5 :: a6 :: a7 :: a8 :: a9 :: a10 :: a11 :: a12 :: a13 :: a14 :: s) H QS := h
theorem g_n15 {a0 a1 a2 a3 a4 a5 a6 a7 a8 a9 a10 a11 a12 a13 a14 a15 : Option V} (h : QS (a0 :: a1 :: a2 :: a3 :: a4 :: a5 :: a6 :: a7 :: a8 :: a9 :: a10 :: a11 :: a12 :: a13 :: a14 :: some v :: s) H) : gName 15 v (a0 :: a1 :: a2 :: a3 :: a4 :: a5 :: a6 :: a7 :: a8 :: a9 :: a10 :: a11 :: a12 :: a13 :: a14 :: a15 :: s) H QS := h
theorem g_n16 {a0 a1 a2 a3 a4 a5 a6 a7 a8 a9 a10 a11 a12 a13 a14 a15 a16 : Option V} (h : QS (a0 :: a1 :: a2 :: a3 :: a4 :: a5 :: a6 :: a7 :: a8 :: a9 :: a10 :: a11 :: a12 :: a13 :: a14 :: a15 :: some v :: s) H) : gName 16 v (a0 :: a1 :: a2 :: a3 :: a4 :: a5 :: a6 :: a7 :: a8 :: a9 :: a10 :: a11 :: a12 :: a13 :: a14 :: a15 :: a16 :: s) H QS := h
theorem g_n17 {a0 a1 a2 a3 a4 a5 a6 a7 a8 a9 a10 a11 a12 a13 a14 a15 a16 a17 : Option V} (h : QS (a0 :: a1 :: a2 :: a3 :: a4 :: a5 :: a6 :: a7 :: a8 :: a9 :: a10 :: a11 :: a12 :: a13 :: a14 :: a15 :: a16 :: some v :: s) H) : gName 17 v (a0 :: a1 :: a2 :: a3 :: a4 :: a5 :: a6 :: a7 :: a8 :: a9 :: a10 :: a11 :: a12 :: a13 :: a14 :: a15 :: a16 :: a17 :: s) H QS := h
theorem g_n18 {a0 a1 a2 a3 a4 a5 a6 a7 a8 a9 a10 a11 a12 a13 a14 a15 a16 a17 a18 : Option V} (h : QS (a0 :: a1 :: a2 :: a3 :: a4 :: a5 :: a6 :: a7 :: a8 :: a9 :: a10 :: a11 :: a12 :: a13 :: a14 :: a15 :: a16 :: a17 :: some v :: s) H) : gName 18 v (a0 :: a1 :: a2 :: a3 :: a4 :: a5 :: a6 :: a7 :: a8 :: a9 :: a10 :: a11 :: a12 :: a13 :: a14 :: a15 :: a16 :: a17 :: a18 :: s) H QS := h
theorem g_n19 {a0 a1 a2 a3 a4 a5 a6 a7 a8 a9 a10 a11 a12 a13 a14 a15 a16 a17 a18 a19 : Option V} (h : QS (a0 :: a1 :: a2 :: a3 :: a4 :: a5 :: a6 :: a7 :: a8 :: a9 :: a10 :: a11 :: a12 :: a13 :: a14 :: a15 :: a16 :: a17 :: a18 :: some v :: s) H) : gName 19 v (a0 :: a1 :: a2 :: a3 :: a4 :: a5 :: a6 :: a7 :: a8 :: a9 :: a10 :: a11 :: a12 :: a13 :: a14 :: a15 :: a16 :: a17 :: a18 :: a19 :: s) H QS := h
theorem g_n20 {a0 a1 a2 a3 a4 a5 a6 a7 a8 a9 a10 a11 a12 a13 a14 a15 a16 a17 a18 a19 a20 : Option V} (h : QS (a0 :: a1 :: a2 :: a3 :: a4 :: a5 :: a6 :: a7 :: a8 :: a9 :: a10 :: a11 :: a12 :: a13 :: a14 :: a15 :: a16 :: a17 :: a18 :: a19 :: some v :: s) H) : gName 20 v (a0 :: a1 :: a2 :: a3 :: a4 :: a5 :: a6 :: a7 :: a8 :: a9 :: a10 :: a11 :: a12 :: a13 :: a14 :: a15 :: a16 :: a17 :: a18 :: a19 :: a20 :: s) H QS := h
theorem g_n21 {a0 a1 a2 a3 a4 a5 a6 a7 a8 a9 a10 a11 a12 a13 a14 a15 a16 a17 a18 a19 a20 a21 : Option V} (h : QS (a0 :: a1 :: a2 :: a3 :: a4 :: a5 :: a6 :: a7 :: a8 :: a9 :: a10 :: a11 :: a12 :: a13 :: a14 :: a15 :: a16 :: a17 :: a18 :: a19 :: a20 :: some v :: s) H) : gName 21 v (a0 :: a1 :: a2 :: a3 :: a4 :: a5 :: a6 :: a7 :: a8 :: a9 :: a10 :: a11 :: a12 :: a13 :: a14 :: a15 :: a16 :: a17 :: a18 :: a19 :: a20 :: a21 :: s) H QS := h
theorem g_n22 {a0 a1 a2 a3 a4 a5 a6 a7 a8 a9 a10 a11 a12 a13 a14 a15 a16 a17 a18 a19 a20 a21 a22 : Option V} (h : QS (a0 :: a1 :: a2 :: a3 :: a4 :: a5 :: a6 :: a7 :: a8 :: a9 :: a10 :: a11 :: a12 :: a13 :: a14 :: a15 :: a16 :: a17 :: a18 :: a19 :: a20 :: a21 :: some v :: s) H) : gName 22 v (a0 :: a1 :: a2 :: a3 :: a4 :: a5 :: a6 :: a7 :: a8 :: a9 :: a10 :: a11 :: a12 :: a13 :: a14 :: a15 :: a16 :: a17 :: a18 :: a19 :: a20 :: a21 :: a22 :: s) H QS := h
theorem g_n23 {a0 a1 a2 a3 a4 a5 a6 a7 a8 a9 a10 a11 a12 a13 a14 a15 a16 a17 a18 a19 a20 a21 a22 a23 : Option V} (h : QS (a0 :: a1 :: a2 :: a3 :: a4 :: a5 :: a6 :: a7 :: a8 :: a9 :: a10 :: a11 :: a12 :: a13 :: a14 :: a15 :: a16 :: a17 :: a18 :: a19 :: a20 :: a21 :: a22 :: some v :: s) H) : gName 23 v (a0 :: a1 :: a2 :: a3 :: a4 :: a5 :: a6 :: a7 :: a8 :: a9 :: a10 :: a11 :: a12 :: a13 :: a14 :: a15 :: a16 :: a17 :: a18 :: a19 :: a20 :: a21 :: a22 :: a23 :: s) H QS := h
theorem g_n24 {a0 a1 a2 a3 a4 a5 a6 a7 a8 a9 a10 a11 a12 a13 a14 a15 a16 a17 a18 a19 a20 a21 a22 a23 a24 : Option V} (h : QS (a0 :: a1 :: a2 :: a3 :: a4 :: a5 :: a6 :: a7 :: a8 :: a9 :: a10 :: a11 :: a12 :: a13 :: a14 :: a15 :: a16 :: a17 :: a18 :: a19 :: a20 :: a21 :: a22 :: a23 :: some v :: s) H) : gName 24 v (a0 :: a1 :: a2 :: a3 :: a4 :: a5 :: a6 :: a7 :: a8 :: a9 :: a10 :: a11 :: a12 :: a13 :: a14 :: a15 :: a16 :: a17 :: a18 :: a19 :: a20 :: a21 :: a22 :: a23 :: a24 :: s) H QS := h
theorem g_n25 {a0 a1 a2 a3 a4 a5 a6 a7 a8 a9 a10 a11 a12 a13 a14 a15 a16 a17 a18 a19 a20 a21 a22 a23 a24 a25 : Option V} (h : QS (a0 :: a1 :: a2 :: a3 :: a4 :: a5 :: a6 :: a7 :: a8 :: a9 :: a10 :: a11 :: a12 :: a13 :: a14 :: a15 :: a16 :: a17 :: a18 :: a19 :: a20 :: a21 :: a22 :: a23 :: a24 :: some v :: s) H) : gName 25 v (a0 :: a1 :: a2 :: a3 :: a4 :: a5 :: a6 :: a7 :: a8 :: a9 :: a10 :: a11 :: a12 :: a13 :: a14 :: a15 :: a16 :: a17 :: a18 :: a19 :: a20 :: a21 :: a22 :: a23 :: a24 :: a25 :: s) H QS := h
end
end My
namespace My
open PySem PySem.Spec PyProof.Rows L2
/-! ### classes of the program: methods, attributes -/
def HasM (P : Program) (w : World) (K : PySem.W.Frag) (mg : Str → Option Value) (base : Heap) (k : Nat) (C m : Str) (ps : List Str) (sp : Sp) : Prop :=
  ∃ (f : Addr) (fd : FuncData), FnOk P w K mg base CX0 k f fd ps sp ∧ Meth K (clsA K C) m f ∧ Binds K fd ps []
def HasI (P : Program) (w : World) (K : PySem.W.Frag) (mg : Str → Option Value) (base : Heap) (k : Nat) (C : Str) (ps : List Str) (sp : Sp) : Prop :=
  ∃ (f : Addr) (fd : FuncData), FnOk P w K mg base CX0 k f fd ps sp ∧ Mk K (clsA K C) f ∧ mg C = some (.ref (clsA K C)) ∧ Binds K fd ps []
theorem lk_nil {k : Str} : List.lookup k ([] : List (Str × V)) = Option.none := rfl
theorem lk_hit {k : Str} {v : V} {r : List (Str × V)} : List.lookup k ((k, v) :: r) = some v := by
  show (match k == k with | true => some v | false => List.lookup k r) = some v
  rw [beq_self_eq_true]
theorem lk_miss {k j : Str} {v : V} {r : List (Str × V)} {o : Option V} (h : (k == j) = false) (e : List.lookup k r = o) : List.lookup k ((j, v) :: r) = o := by
  show (match k == j with | true => some v | false => List.lookup k r) = o
  rw [h]
  exact e
theorem pf_nil {k : Str} {v : V} : putF k v [] = [(k, v)] := rfl
theorem pf_hit {k : Str} {v x : V} {r : List (Str × V)} : putF k v ((k, x) :: r) = (k, v) :: r := by
  show (if k = k then (k, v) :: r else _) = _
  rw [if_pos rfl]
theorem pf_miss {k j : Str} {v x : V} {r s : List (Str × V)} (h : (j == k) = false) (e : putF k v r = s) : putF k v ((j, x) :: r) = (j, x) :: s := by
  show (if j = k then _ else (j, x) :: putF k v r) = _
  rw [if_neg (by simpa using h), e]
section
variable {σ : L2.St} {H : Hp} {Q : VK} {K : PySem.W.Frag} {ta tv : TE} {f : Str} {D : Ends} {tr : TA} {m : Str} {sp : Sp} {dvs : List V} {E : XK} {C p dx : Addr} {fs : List (Str × V)} {v : V} {rd : V → V → Hp → VK → Prop}
theorem g_fld (h : ta σ H fun x H1 => ∃ a C dx fs v, x = .ref a ∧ H1 a = some (.ins C dx fs) ∧ Cls K C ∧ NoAttr K C f ∧ fs.lookup f = some v ∧ Q v H1) : tFld K ta f σ H Q := h
theorem g_sfld (h : tv σ H fun y H1 => ta σ H1 fun x H2 => ∃ a C dx fs, x = .ref a ∧ H2 a = some (.ins C dx fs) ∧ Cls K C ∧ NoAttr K C f ∧ fs.length < 1000 ∧ D.nx σ (upd H2 a (.ins C dx (putF f y fs)))) : sFld K ta tv f D σ H := h
theorem g_afld (h : ta σ H fun x H1 => ∃ a C dx fs v, x = .ref a ∧ H1 a = some (.ins C dx fs) ∧ Cls K C ∧ NoAttr K C f ∧ fs.lookup f = some v ∧
  tv σ H1 fun y H2 => rd v y H2 fun z H3 => ∃ dx' fs', H3 a = some (.ins C dx' fs') ∧ fs'.length < 1000 ∧ D.nx σ (upd H3 a (.ins C dx' (putF f z fs')))) : sFldAug K ta tv rd f D σ H := h
theorem g_meth (h : ta σ H fun x H1 => ∃ a dx fs, x = .ref a ∧ H1 a = some (.ins C dx fs) ∧ fs.lookup m = Option.none ∧ tr σ H1 fun vs H2 => sp (x :: (vs ++ dvs)) H2 Q E) : tMeth C m sp dvs E ta tr σ H Q := h
theorem g_make (h : tr σ H fun vs H1 => ∀ x dx, H1 x = Option.none → H1 dx = Option.none → dx ≠ x → sp (.ref x :: (vs ++ dvs)) (upd (upd H1 dx (.own x)) x (.ins C dx [])) (fun v H2 => v = .non ∧ Q (.ref x) H2) E) : tMake C sp dvs E tr σ H Q := h
end
/-! ### t[::-1] of a tuple -/
theorem back_places (n : Nat) : Builtin.Slice.sliceAdjust Option.none Option.none (-1) (n : Int) = ((n : Int) - 1, -1) := rfl
theorem back_many (n : Nat) : Builtin.Slice.slicePlaces ((n : Int) - 1) (-1) (-1) = n := by
  unfold Builtin.Slice.slicePlaces
  rw [if_neg (by decide)]
  by_cases h : (n : Int) - 1 > -1
  · rw [if_pos h, show (-(-1) : Int) = 1 by decide, Int.ediv_one]
    omega
  · rw [if_neg h]
    omega
theorem back_items (xs : Array Value) : ((List.range xs.size).filterMap fun (k : Nat) => xs[((xs.size : Int) - 1 + (k : Int) * (-1)).toNat]?).toArray = xs.toList.reverse.toArray := by
  have e := PySem.W.krv_pick xs
  unfold slicePick at e
  rw [PySem.W.krv_bounds] at e
  have e2 : ((sliceRange ((xs.size : Int) - 1) (-1) (-1)).filterMap (xs[·]?)).toArray = xs.toList.reverse.toArray := e
  rw [PySem.W.krv_sliceRange, List.filterMap_map] at e2
  rw [← e2]
  have e3 : (fun (k : Nat) => xs[((xs.size : Int) - 1 + (k : Int) * (-1)).toNat]?) = ((xs[·]?) ∘ fun k => xs.size - 1 - k) := by
    funext k
    show xs[((xs.size : Int) - 1 + (k : Int) * (-1)).toNat]? = xs[xs.size - 1 - k]?
    congr 1
    omega
  rw [e3]
section
variable {prog : Program} {w : World} {A : Around} {E : Value → Shared → Prop} {s : Shared}
theorem applied_back {sl : Addr} {n : Nat} {t : Tok} {Q : Int × Int × Nat → Shared → Prop} (hs : s.heap.IsSliceOf sl .none .none (.int (-1) t)) (h : Q ((n : Int) - 1, -1, n) s) :
    wpAny (model prog w) A (Builtin.Slice.sliceApplied (.ref sl) (pure (n : Int))) Q E s := by
  obtain ⟨os, hos, hcs, hds⟩ := id hs
  unfold Builtin.Slice.sliceApplied Builtin.Slice.sliceFields
  refine wpAny_bind (wpAny_bind (wpAny_field hos hds (x := .none) rfl (wpAny_bind (wpAny_field hos hds (x := .none) rfl (wpAny_bind (wpAny_field hos hds (x := .int (-1) t) rfl (wpAny_pure ?_)))))))
  refine wpAny_bind (slicePart_int ?_)
  show wpAny _ _ (if ((-1 : Int) == 0) = true then _ else _) _ _ s
  rw [if_neg (by decide)]
  refine wpAny_bind (slicePart_none (wpAny_bind (slicePart_none (wpAny_bind (wpAny_pure ?_)))))
  show wpAny _ _ (match Builtin.Slice.sliceAdjust Option.none Option.none (-1) (n : Int) with | (lo, hi) => pure (lo, (-1 : Int), Builtin.Slice.slicePlaces lo hi (-1))) _ _ s
  rw [back_places]
  show wpAny _ _ (pure ((n : Int) - 1, (-1 : Int), Builtin.Slice.slicePlaces ((n : Int) - 1) (-1) (-1))) _ _ s
  rw [back_many]
  exact wpAny_pure h
theorem item_back {t sl : Addr} {items : Array Value} {tk : Tok} {Q : Value → Shared → Prop} (ht : IsTup s.heap t items) (hs : s.heap.IsSliceOf sl .none .none (.int (-1) tk)) (hsz : items.size ≤ sizeLine)
    (h : Q (.ref s.heap.objs.size) { s with heap := s.heap.push { cls := .type "tuple", data := .seq items.toList.reverse.toArray } }) : wpAny (model prog w) A (getItem (.ref t) (.ref sl)) Q E s := by
  have hz : sizeOk (.seq items.toList.reverse.toArray) := by
    show items.toList.reverse.toArray.size ≤ sizeLine
    rw [List.size_toArray, List.length_reverse, Array.length_toList]
    exact hsz
  obtain ⟨os, hos, hcs, hds⟩ := id hs
  have hTs : s.TypeIs (.ref sl) "slice" := ⟨os, hos, hcs⟩
  unfold getItem
  try with_reducible refine wpAny_holding ?_
  first | refine wpAny_bind (wpAny_pure ?_) | skip
  refine wpAny_bind (wpAny_sequenceKey ht.typeIs (by decide) ?_)
  refine wpAny_bind (wpAny_callSpecial?_slot (name := Str.ofString "__getitem__") ht.typeIs PyProof.Rows.slot_tuple_getitem (wpAny_call_entry PyProof.Rows.slot_tuple_getitem ht.typeIs entry_tuple_getitem ?_ (args_tuple_getitem _ _)))
  show wpAny _ _ (Builtin.Tuple.tupleItemsOf (.ref t) >>= _) _ _ s
  refine wpAny_bind (tupleItemsOf_ ht (wpAny_bind (wpAny_typeOf hTs ?_)))
  rw [if_pos (by decide)]
  refine wpAny_bind (applied_back hs ?_)
  show wpAny _ _ (if (((items.size : Int) - 1 == 0 && (-1 : Int) == 1 && items.size == items.size)) = true then _ else _) _ _ s
  rw [if_neg (by rw [show ((-1 : Int) == 1) = false from rfl, Bool.and_false, Bool.false_and]; exact Bool.false_ne_true), back_items]
  first
    | exact wpAny_bind (m := Builtin.Tuple.tupleExact _) (wpAny_newObj_type (wpAny_pure ⟨_, rfl, wpAny_pure h⟩) hz)
    | exact wpAny_bind (m := Builtin.Tuple.tupleExact _) (wpAny_newObj_type (wpAny_bind (wpAny_pure (wpAny_pure ⟨_, rfl, wpAny_pure h⟩))) hz)
    | exact wpAny_bind (wpAny_bind (m := Builtin.Tuple.tupleExact _) (wpAny_newObj_type (wpAny_pure (wpAny_pure ⟨_, rfl, wpAny_pure h⟩)) hz))
    | exact wpAny_bind (wpAny_bind (m := Builtin.Tuple.tupleExact _) (wpAny_newObj_type (wpAny_pure ⟨_, rfl, wpAny_pure h⟩) hz))
end
def tRevT (K : PySem.W.Frag) (te : TE) : TE := fun σ H Q => te σ H fun x H1 => ∃ a xs, x = .ref a ∧ SqT K H1 a xs ∧ ∀ p, H1 p = Option.none → Q (.ref p) (upd H1 p (.tup xs.reverse))
theorem pe_revT {X : Cx} {e : Expr} {te : TE} {k : Nat} {p1 p2 p3 pos : Pos} (he : PE X e te) : PE X (.Subscript e (.Slice Option.none Option.none (some (.UnaryOp .USub (.Constant (.int 1) k p1) p2)) p3) pos) (tRevT X.K te) := by
  refine ⟨fun pins s σ H Q I h => ?_⟩
  refine Subscript_ (thn (he.run pins s σ H _ I h) fun v s1 ⟨x, H1, I1, r1, q1⟩ => ?_)
  obtain ⟨a, xs, ex, hx, q⟩ := q1
  subst ex
  cases r1
  have hst : PO X (some (.UnaryOp .USub (.Constant (.int 1) k p1) p2)) (tPart (tUn (rU fun i => .int (-i)) (tC (.int 1)))) := po_some (pe_un un_neg pe_int)
  refine wpAny_Slice (thn (po_none.run pins s1 σ H1 (fun o H2 => o = Option.none ∧ H2 = H1) I1 ⟨rfl, rfl⟩) fun vl s2 ⟨l, H2, I2, pl, el, e2⟩ => ?_)
  subst el e2
  refine thn (po_none.run pins s2 σ H2 (fun o H3 => o = Option.none ∧ H3 = H2) I2 ⟨rfl, rfl⟩) fun vu s3 ⟨u, H3, I3, pu, eu, e3⟩ => ?_
  subst eu e3
  refine thn (hst.run pins s3 σ H3 (fun o H4 => o = some (-1) ∧ H4 = H3) I3 ⟨1, rfl, -1, rfl, rfl, rfl⟩) fun vs s4 ⟨o, H4, I4, ps, eo, e4⟩ => ?_
  subst eo e4
  have I5 : Inv X pins σ H4 { s4 with heap := s4.heap.push { cls := .type "slice", data := .fields #[vl, vu, vs] } } := I4.kept (t' := s4.toks) fun b ob q => Heap.get?_push_of_some _ q
  obtain ⟨its, r, ht, hz⟩ := I5.tuple hx
  have hlen := r.length
  cases pl
  cases pu
  cases ps with
  | int i tk =>
  show wpAny (model X.prog X.w) X.A (subscriptTail e (.Slice Option.none Option.none (some (.UnaryOp .USub (.Constant (.int 1) k p1) p2)) p3) (.ref a) (.ref s4.heap.objs.size)) (EP X pins σ Q) X.xe { s4 with heap := s4.heap.push { cls := .type "slice", data := .fields #[.none, .none, .int (-1) tk] } }
  refine tail_any (ops := [.ref a, .ref s4.heap.objs.size]) ht.typeIs PyProof.Rows.slot_tuple_getitem.lookup ?_ (by with_unfolding_all rfl)
  refine item_back ht (Heap.IsSliceOf.new _ .none .none (.int (-1) tk)) (by rw [List.size_toArray]; omega) ?_
  refine ⟨.ref _, _, I5.laid (t' := s4.toks) (o := .tup xs.reverse) (fun b ob q => Heap.get?_push_of_some _ q) (Nat.le_refl _) ?_, rfl, q _ (I5.hok.fresh (Nat.le_refl _))⟩
  exact ⟨by rw [List.length_reverse]; exact hz, its.reverse, r.reverse, IsTup.new _ _⟩
theorem g_revT {σ : L2.St} {H : Hp} {Q : VK} {K : PySem.W.Frag} {te : TE} (h : te σ H fun x H1 => ∃ a xs, x = .ref a ∧ SqT K H1 a xs ∧ ∀ p, H1 p = Option.none → Q (.ref p) (upd H1 p (.tup xs.reverse))) : tRevT K te σ H Q := h
theorem g_revL {σ : L2.St} {H : Hp} {Q : VK} {K : PySem.W.Frag} {te : TE} (h : te σ H fun x H1 => ∃ a xs, x = .ref a ∧ SqL K H1 a xs ∧ ∀ p, H1 p = Option.none → Q (.ref p) (upd H1 p (.lst xs.reverse))) : tRevL K te σ H Q := h
section
variable {σ : L2.St} {H : Hp} {Q : VK} {td ty tx tv : TE} {D : Ends} {ta : TA} {K : PySem.W.Frag} {R : It → Hp → Prop}
theorem g_din (h : ty σ H fun y H1 => td σ H1 fun x H2 => ∃ a o, x = .ref a ∧ DGet H2 a y o ∧ Q (.bl o.isSome) H2) : tDIn ty td σ H Q := h
theorem g_dnin (h : ty σ H fun y H1 => td σ H1 fun x H2 => ∃ a o, x = .ref a ∧ DGet H2 a y o ∧ Q (.bl (!o.isSome)) H2) : tDNotIn ty td σ H Q := h
theorem g_dget (h : td σ H fun x H1 => ty σ H1 fun y H2 => ∃ a v, x = .ref a ∧ DGet H2 a y (some v) ∧ Q v H2) : tDGet td ty σ H Q := h
theorem g_dget2 (h : td σ H fun x H1 => ∃ a, x = .ref a ∧ IsD H1 a ∧ ty σ H1 fun y H2 => tx σ H2 fun z H3 => ∃ o, DGet H3 a y o ∧ Q (o.getD z) H3) : tDGet2 td ty tx σ H Q := h
theorem g_dpop2 (h : td σ H fun x H1 => ∃ a, x = .ref a ∧ IsD H1 a ∧ ty σ H1 fun y H2 => tx σ H2 fun z H3 => ∃ kvs k, H3 a = some (.dK kvs) ∧ y = kV k ∧ (∀ v, valV kvs k = some v → Q v (upd H3 a (.dK (dropK kvs k)))) ∧ (valV kvs k = Option.none → Q z H3)) : tDPop2 td ty tx σ H Q := h
theorem g_dput (h : tv σ H fun v H1 => td σ H1 fun x H2 => ty σ H2 fun y H3 => ∃ a H4, x = .ref a ∧ DPut H3 a y v H4 ∧ D.nx σ H4) : sDPut td ty tv D σ H := h
theorem g_rev (h : ta σ H fun vs H1 => ∃ (a : Addr) (xs : List V), vs = [.ref a] ∧ SqL K H1 a xs ∧ R (Itv K a xs.length) H1) : iRev K ta σ H R := h
theorem g_dnew (h : ∀ p, H p = Option.none → Q (.ref p) (upd H p (.dK []))) : tDNewK σ H Q := h
end
section
variable {σ : L2.St} {H : Hp} {Q : VK} {sp : Sp} {E : L2.St → XK} {t : TA}
theorem g_callS (h : t σ H fun vs H1 => sp vs H1 Q (E σ)) : tCallS sp E t σ H Q := h
end
theorem dpAll_last {K : PySem.W.Frag} {H : Hp} : ∀ {l : List PyData} {xs : List V} {d : PyData}, DpAll K H xs (l ++ [d]) → ∃ ys v, xs = ys ++ [v] ∧ DpAll K H ys l ∧ Dp K H v d
  | [], _, d, h => by
    have h' : DpAll K H _ [d] := h
    cases h' with
    | cons a b => cases b; exact ⟨[], _, rfl, .nil, a⟩
  | e :: l, _, d, h => by
    have h' : DpAll K H _ (e :: (l ++ [d])) := h
    cases h' with
    | cons a b =>
      obtain ⟨ys, v, rfl, h1, h2⟩ := dpAll_last b
      exact ⟨_ :: ys, v, rfl, .cons a h1, h2⟩
theorem last_at {ys : List V} {v : V} : (ys ++ [v])[(ys ++ [v]).length - 1]? = some v := by simp
theorem dpAll_rev {K : PySem.W.Frag} {H : Hp} : ∀ {xs : List V} {ds : List PyData}, DpAll K H xs ds → DpAll K H xs.reverse ds.reverse
  | _, _, .nil => .nil
  | _, _, .cons a b => by
    rw [List.reverse_cons, List.reverse_cons]
    exact dpAll_end (dpAll_rev b) a
theorem nL_app {a b : List PyData} : nLs (a ++ b) = (nLs a && nLs b) := by
  induction a with
  | nil => simp [nLs]
  | cons d a ih => simp only [List.cons_append, nLs, ih, Bool.and_assoc]
theorem nL_rev {a : List PyData} (h : nLs a = true) : nLs a.reverse = true := nLs_of fun d hd => nLs_mem h d (List.mem_reverse.mp hd)
theorem valV_dropK (kvs : List (Key × V)) (k j : Key) : valV (dropK kvs k) j = if j = k then Option.none else valV kvs j := by
  induction kvs with
  | nil => simp [dropK, valV_nil]
  | cons p r ih =>
    unfold dropK at ih ⊢
    rw [List.filter_cons]
    by_cases e : p.1 = k
    · rw [if_neg (by simp [e]), ih]
      by_cases z : j = k
      · rw [if_pos z, if_pos z]
      · rw [if_neg z, if_neg z, valV_neg (by rw [e]; exact fun w => z w.symm)]
    · rw [if_pos (by simp [e])]
      by_cases f : p.1 = j
      · rw [valV_pos f, valV_pos f, if_neg (by rw [← f]; exact e)]
      · rw [valV_neg f, valV_neg f, ih]
end My
namespace My
open PySem PySem.Spec PyProof.Rows L2
open PySem.AutoSeq1 (wpAny_loadPart')
open PySem.SeqAt (EqP)
open PySem.MeetsSeq PySem.MeetsSeq2 PySem.MeetsSeq3
/-! ### equal values, dicts among them -/
section
variable {P : Program} {w : World}
theorem tupEqT (a b : Addr) (us vs : Array Value) (n k : Nat) (da db : Option Addr) (sa sb : Array (Option Value)) (hz : us.size = vs.size) (ne : Bool) :
    MeetsIn P w ((if ne then Builtin.«tuple.__ne__» else Builtin.«tuple.__eq__») ⟨[.ref a, .ref b], []⟩) (fun A R s =>
      s.heap.get? a = some { cls := .type "tuple", dict := da, data := .seq us n, slots := sa } ∧ s.heap.get? b = some { cls := .type "tuple", dict := db, data := .seq vs k, slots := sb } ∧
      (∀ j (h1 : j < us.size) (h2 : j < vs.size), EqP P w A.in1 s us[j] vs[j] true) ∧ R (.ok (.ret (.bool (!ne)))) s) := by
  intro A R s h
  obtain ⟨hp, g, d, tk, os⟩ := s
  obtain ⟨ea, eb, he, q⟩ := h
  have i2 := AutoSeq1.sub_tuple_tuple
  have hl : (us.toList.zip vs.toList).length = us.size := by simp [hz]
  cases ne with
  | false =>
    show wpAny _ _ (Builtin.«tuple.__eq__» ⟨[.ref a, .ref b], []⟩) _ _ _
    wp_walk using wpAny_loadPart' ea, wpAny_loadPart' eb, wpAny_forIn_list _ (fun r c t => c.1 = none ∧ t = ⟨hp, g, d, tk, os⟩ ∧ ∃ i, r = (us.toList.zip vs.toList).drop i) _
    case turn =>
      rintro ⟨y, x⟩ r c t ⟨hc, rfl, i, hi⟩
      have lt : i < (us.toList.zip vs.toList).length := Nat.lt_of_not_le fun z => by rw [List.drop_of_length_le z] at hi; cases hi
      have l1 : i < us.size := by omega
      have l2 : i < vs.size := by omega
      rw [List.drop_eq_getElem_cons lt] at hi
      injection hi with e1 e2
      have ey : y = us[i] := by simpa using congrArg Prod.fst e1
      have ex : x = vs[i] := by simpa using congrArg Prod.snd e1
      subst ey ex
      refine wpAny_bind (he i l1 l2 _ _ ?_)
      wp_walk
      exact ⟨rfl, rfl, i + 1, e2⟩
    case fin =>
      rintro ⟨c1, c2⟩ t ⟨hc, rfl, i, hi⟩
      simp only at hc
      subst hc
      wp_walk
      simpa [Builtin.Tuple.tupleCompareSizes, hz] using q
    case h => exact ⟨rfl, rfl, 0, rfl⟩
  | true =>
    show wpAny _ _ (Builtin.«tuple.__ne__» ⟨[.ref a, .ref b], []⟩) _ _ _
    wp_walk using wpAny_loadPart' ea, wpAny_loadPart' eb, wpAny_forIn_list _ (fun r c t => c.1 = none ∧ t = ⟨hp, g, d, tk, os⟩ ∧ ∃ i, r = (us.toList.zip vs.toList).drop i) _
    case turn =>
      rintro ⟨y, x⟩ r c t ⟨hc, rfl, i, hi⟩
      have lt : i < (us.toList.zip vs.toList).length := Nat.lt_of_not_le fun z => by rw [List.drop_of_length_le z] at hi; cases hi
      have l1 : i < us.size := by omega
      have l2 : i < vs.size := by omega
      rw [List.drop_eq_getElem_cons lt] at hi
      injection hi with e1 e2
      have ey : y = us[i] := by simpa using congrArg Prod.fst e1
      have ex : x = vs[i] := by simpa using congrArg Prod.snd e1
      subst ey ex
      refine wpAny_bind (he i l1 l2 _ _ ?_)
      wp_walk
      exact ⟨rfl, rfl, i + 1, e2⟩
    case fin =>
      rintro ⟨c1, c2⟩ t ⟨hc, rfl, i, hi⟩
      simp only at hc
      subst hc
      wp_walk
      simpa [Builtin.Tuple.tupleCompareSizes, hz, bne] using q
    case h => exact ⟨rfl, rfl, 0, rfl⟩
theorem lstNeLoop (a b : Addr) (us vs : Array Value) (n k : Nat) (da db : Option Addr) (sa sb : Array (Option Value)) (hz : us.size = vs.size) (m : Nat) :
    ∀ i : Nat, us.size - i = m → MeetsIn P w (Builtin.«list.__eq__.loop» ⟨[.ref a, .ref b, rawInt i, rawInt 3], []⟩) (fun A R s =>
      s.heap.get? a = some { cls := .type "list", dict := da, data := .seq us n, slots := sa } ∧ s.heap.get? b = some { cls := .type "list", dict := db, data := .seq vs k, slots := sb } ∧
      (∀ j (h1 : j < us.size) (h2 : j < vs.size), EqP P w A.in1 s us[j] vs[j] true) ∧ R (.ok (.ret (.bool false))) s) := by
  induction m with
  | zero =>
    intro i hk A R s h
    obtain ⟨hp, g, d, tk, os⟩ := s
    obtain ⟨ea, eb, he, q⟩ := h
    wp_walk using wpAny_loadPart' ea, wpAny_loadPart' eb
    have o1 : us[((i : Nat) : Int).toNat]? = none := by simp; omega
    have o2 : vs[((i : Nat) : Int).toNat]? = none := by simp; omega
    rw [o1, o2]
    wp_walk using wpAny_loadPart' ea, wpAny_loadPart' eb
    show R (.ok (.ret (.bool (us.size != vs.size)))) _
    rw [hz]
    simpa using q
  | succ m ih =>
    intro i hk A R s h
    obtain ⟨hp, g, d, tk, os⟩ := s
    obtain ⟨ea, eb, he, q⟩ := h
    wp_walk using wpAny_loadPart' ea, wpAny_loadPart' eb
    have l1 : i < us.size := by omega
    have l2 : i < vs.size := by omega
    have o1 : us[((i : Nat) : Int).toNat]? = some us[i] := by simp [l1]
    have o2 : vs[((i : Nat) : Int).toNat]? = some vs[i] := by simp [l2]
    have up : ((i : Int) + 1) = ((i + 1 : Nat) : Int) := by push_cast; rfl
    rw [o1, o2]
    refine wpAny_bind (he i l1 l2 _ _ ?_)
    wp_walk
    rw [up]
    refine ⟨plainId_quiet plain_eq_loop _, codeAny_builtin entry_eq_loop ?_⟩
    rw [Around.under_plainId plain_eq_loop _]
    exact ih (i + 1) (by omega) A R _ ⟨ea, eb, he, q⟩
theorem lstNe (a b : Addr) (us vs : Array Value) (n k : Nat) (da db : Option Addr) (sa sb : Array (Option Value)) (hz : us.size = vs.size) :
    MeetsIn P w (Builtin.«list.__ne__» ⟨[.ref a, .ref b], []⟩) (fun A R s =>
      s.heap.get? a = some { cls := .type "list", dict := da, data := .seq us n, slots := sa } ∧ s.heap.get? b = some { cls := .type "list", dict := db, data := .seq vs k, slots := sb } ∧
      (∀ j (h1 : j < us.size) (h2 : j < vs.size), EqP P w A.in1 s us[j] vs[j] true) ∧ R (.ok (.ret (.bool false))) s) := by
  intro A R s h
  obtain ⟨hp, g, d, tk, os⟩ := s
  obtain ⟨ea, eb, he, q⟩ := h
  have i3 := AutoSeq1.sub_list_list
  have nz : ¬ (us.size != vs.size) = true := by simp [hz]
  wp_walk using wpAny_loadPart' ea, wpAny_loadPart' eb
  refine ⟨plainId_quiet plain_eq_loop _, codeAny_builtin entry_eq_loop ?_⟩
  rw [Around.under_plainId plain_eq_loop _]
  exact lstNeLoop a b us vs n k da db sa sb hz _ 0 rfl A R _ ⟨ea, eb, he, q⟩
theorem rcTup {A : Around} {s : Shared} {a b : Addr} {us vs : Array Value} (ha : IsTup s.heap a us) (hb : IsTup s.heap b vs) (hz : us.size = vs.size) (hu : A.units < cLine)
    (he : ∀ j (h1 : j < us.size) (h2 : j < vs.size), EqP P w A.in1 s us[j] vs[j] true) (E Q : Value → Shared → Prop) (q : Q (.bool true) s) : wpAny (model P w) A (richCompare .Eq (.ref a) (.ref b)) Q E s := by
  obtain ⟨⟨c1, da, d1, sa⟩, e1, k1, n, f1⟩ := ha
  obtain ⟨⟨c2, db, d2, sb⟩, e2, k2, k, f2⟩ := hb
  simp only at k1 f1 k2 f2
  subst k1 f1 k2 f2
  have ta : s.TypeIs (.ref a) "tuple" := ⟨_, e1, rfl⟩
  have tb : s.TypeIs (.ref b) "tuple" := ⟨_, e2, rfl⟩
  exact wpAny_richCompare_same_room (op := .Eq) ta tb F.slot_tuple_eq (call_meetsIn F.slot_tuple_eq ta F.entry_tuple_eq (F.args_tuple_eq_2 _ _) (tupEqT a b us vs n k da db sa sb hz false)
    ⟨e1, e2, he, show Value.bool true ≠ Value.notImplemented ∧ Q (.bool true) s from ⟨(fun x => nomatch x), q⟩⟩) hu
theorem rcTupNe {A : Around} {s : Shared} {a b : Addr} {us vs : Array Value} (ha : IsTup s.heap a us) (hb : IsTup s.heap b vs) (hz : us.size = vs.size) (hu : A.units < cLine)
    (he : ∀ j (h1 : j < us.size) (h2 : j < vs.size), EqP P w A.in1 s us[j] vs[j] true) (E Q : Value → Shared → Prop) (q : Q (.bool false) s) : wpAny (model P w) A (richCompare .NotEq (.ref a) (.ref b)) Q E s := by
  obtain ⟨⟨c1, da, d1, sa⟩, e1, k1, n, f1⟩ := ha
  obtain ⟨⟨c2, db, d2, sb⟩, e2, k2, k, f2⟩ := hb
  simp only at k1 f1 k2 f2
  subst k1 f1 k2 f2
  have ta : s.TypeIs (.ref a) "tuple" := ⟨_, e1, rfl⟩
  have tb : s.TypeIs (.ref b) "tuple" := ⟨_, e2, rfl⟩
  exact wpAny_richCompare_same_room (op := .NotEq) ta tb F.slot_tuple_ne (call_meetsIn F.slot_tuple_ne ta F.entry_tuple_ne (F.args_tuple_ne_2 _ _) (tupEqT a b us vs n k da db sa sb hz true)
    ⟨e1, e2, he, show Value.bool false ≠ Value.notImplemented ∧ Q (.bool false) s from ⟨(fun x => nomatch x), q⟩⟩) hu
theorem rcLstNe {A : Around} {s : Shared} {a b : Addr} {us vs : Array Value} (ha : s.heap.IsList a us) (hb : s.heap.IsList b vs) (hz : us.size = vs.size) (hu : A.units < cLine)
    (he : ∀ j (h1 : j < us.size) (h2 : j < vs.size), EqP P w A.in1 s us[j] vs[j] true) (E Q : Value → Shared → Prop) (q : Q (.bool false) s) : wpAny (model P w) A (richCompare .NotEq (.ref a) (.ref b)) Q E s := by
  obtain ⟨⟨c1, da, d1, sa⟩, e1, k1, n, f1⟩ := ha
  obtain ⟨⟨c2, db, d2, sb⟩, e2, k2, k, f2⟩ := hb
  simp only at k1 f1 k2 f2
  subst k1 f1 k2 f2
  have ta : s.TypeIs (.ref a) "list" := ⟨_, e1, rfl⟩
  have tb : s.TypeIs (.ref b) "list" := ⟨_, e2, rfl⟩
  exact wpAny_richCompare_same_room (op := .NotEq) ta tb F.slot_list_ne (call_meetsIn F.slot_list_ne ta F.entry_list_ne (F.args_list_ne_2 _ _) (lstNe a b us vs n k da db sa sb hz)
    ⟨e1, e2, he, show Value.bool false ≠ Value.notImplemented ∧ Q (.bool false) s from ⟨(fun x => nomatch x), q⟩⟩) hu
theorem rcDictNe {K : Type} [DecidableEq K] {knd : KeyKind P w K} {A : Around} {s : Shared} {a b : Addr} {ka kb : List (K × Value)} (ha : (a == sysModules) = false) (hb : (b == sysModules) = false)
    (da : s.heap.DictOf knd a ka) (db : s.heap.DictOf knd b kb) (hl : ka.length = kb.length) (hu : A.units < cLine) (hits : PySem.W.KeqHitsP P w A.in1 s kb ka true) (E Q : Value → Shared → Prop) (q : Q (.bool false) s) :
    wpAny (model P w) A (richCompare .NotEq (.ref a) (.ref b)) Q E s := by
  have e1 : (ka.length == kb.length && true) = true := by rw [hl]; simp
  refine wpAny_richCompare_same_room (op := .NotEq) da.typeIs db.typeIs PySem.F.slot_dict_ne (wpAny_call_entry PySem.F.slot_dict_ne da.typeIs PySem.F.entry_dict_ne ?_ (PySem.F.args_dict_ne_2 _ _)) hu
  show wpAny _ _ (Builtin.Dict.dictSlotArgs "__ne__" ⟨[.ref a, .ref b], []⟩ >>= _) _ _ s
  refine wpAny_bind ?_
  unfold Builtin.Dict.dictSlotArgs
  refine wpAny_bind (wpAny_notOrdered_dict da.typeIs ?_)
  show wpAny _ _ (pure (Value.ref a, Value.ref b)) _ _ s
  refine wpAny_pure ?_
  refine wpAny_bind (wpAny_isInstance (T := "dict") db.typeIs PySem.F.sub_dict_dict ?_)
  simp only [Bool.not_true, Bool.false_eq_true, if_false]
  refine wpAny_bind (wpAny_pure (wpAny_bind (wpAny_pure ?_)))
  refine wpAny_bind (PySem.W.samePairsP ha hb da db (fun _ => hits) ?_)
  refine wpAny_pure ⟨_, rfl, ?_, ?_⟩
  · exact fun x => nomatch x
  · rw [e1]
    exact q
end
/-- two lists of equal items, two tuples of such, two dicts of the same keys -/
def EqS (K : PySem.W.Frag) (H : Hp) (E : V → V → Prop) (x y : V) : Prop := EqR K H E x y ∨ ∃ a b xs ys, x = .ref a ∧ y = .ref b ∧ SqT K H a xs ∧ SqT K H b ys ∧ Paired E xs ys
/-- equal, of nesting below n: data, one object, or such ones -/
def EqW (K : PySem.W.Frag) (H : Hp) : Nat → V → V → Prop
  | 0 => fun _ _ => False
  | n + 1 => fun x y => (∃ d e, Dp K H x d ∧ Dp K H y e ∧ SeqAt.shaped d = true ∧ SeqAt.shaped e = true ∧ PyData.eqv d e = true) ∨ (∃ a, x = .ref a ∧ y = .ref a) ∨ EqS K H (EqW K H n) x y
section
variable {X : Cx} {pins : List (Addr × Obj)} {σ : L2.St} {H : Hp} {s : Shared}
theorem eqS_run (I : Inv X pins σ H s) {A : Around} {F : V → V → Prop} (hu : A.units < cLine) (ih : ∀ x y v u, F x y → RelV x v → RelV y u → EqP X.prog X.w A.in1 s v u true) {x y : V} {v u : Value} (h : EqS X.K H F x y) (rx : RelV x v) (ry : RelV y u)
    (E Q : Value → Shared → Prop) (q : Q (.bool true) s) : wpAny (model X.prog X.w) A (richCompare .Eq v u) Q E s := by
  rcases h with h | ⟨a, b, xs, ys, rfl, rfl, ha, hb, hp⟩
  · exact eqR_run I hu ih h rx ry E Q q
  · cases (show v = Value.ref a from rx)
    cases (show u = Value.ref b from ry)
    obtain ⟨us, r1, p1, _⟩ := I.tuple ha
    obtain ⟨ws, r2, p2, _⟩ := I.tuple hb
    have hz : us.toArray.size = ws.toArray.size := by
      rw [List.size_toArray, List.size_toArray, ← r1.length, ← r2.length]
      exact Paired.length hp
    refine rcTup p1 p2 hz hu (fun j h1 h2 => ?_) E Q q
    have k := items_run ih hp r1 r2 j (by simpa using h1) (by simpa using h2)
    simpa using k
theorem neS_run (I : Inv X pins σ H s) {A : Around} {F : V → V → Prop} (hu : A.units < cLine) (ih : ∀ x y v u, F x y → RelV x v → RelV y u → EqP X.prog X.w A.in1 s v u true) {x y : V} {v u : Value} (h : EqS X.K H F x y) (rx : RelV x v) (ry : RelV y u)
    (E Q : Value → Shared → Prop) (q : Q (.bool false) s) : wpAny (model X.prog X.w) A (richCompare .NotEq v u) Q E s := by
  rcases h with (⟨a, b, xs, ys, rfl, rfl, ha, hb, hp⟩ | ⟨a, b, ks, ls, rfl, rfl, ha, hb, hl, hp⟩) | ⟨a, b, xs, ys, rfl, rfl, ha, hb, hp⟩
  · cases (show v = Value.ref a from rx)
    cases (show u = Value.ref b from ry)
    obtain ⟨us, r1, p1, _⟩ := I.list ha
    obtain ⟨ws, r2, p2, _⟩ := I.list hb
    have hz : us.toArray.size = ws.toArray.size := by
      rw [List.size_toArray, List.size_toArray, ← r1.length, ← r2.length]
      exact Paired.length hp
    refine rcLstNe p1.isList p2.isList hz hu (fun j h1 h2 => ?_) E Q q
    have k := items_run ih hp r1 r2 j (by simpa using h1) (by simpa using h2)
    simpa using k
  · cases (show v = Value.ref a from rx)
    cases (show u = Value.ref b from ry)
    obtain ⟨_, ya, va, ra, da⟩ := (show ObjOk X.prog X.w H s.heap a (.dK ks) from I.hok a _ ha)
    obtain ⟨_, yb, vb, rb, db⟩ := (show ObjOk X.prog X.w H s.heap b (.dK ls) from I.hok b _ hb)
    exact rcDictNe (knd := mixKind X.prog X.w) ya yb da db (by rw [← ra.length, ← rb.length]; exact hl) hu (hits_run ih rb ra hp) E Q q
  · cases (show v = Value.ref a from rx)
    cases (show u = Value.ref b from ry)
    obtain ⟨us, r1, p1, _⟩ := I.tuple ha
    obtain ⟨ws, r2, p2, _⟩ := I.tuple hb
    have hz : us.toArray.size = ws.toArray.size := by
      rw [List.size_toArray, List.size_toArray, ← r1.length, ← r2.length]
      exact Paired.length hp
    refine rcTupNe p1 p2 hz hu (fun j h1 h2 => ?_) E Q q
    have k := items_run ih hp r1 r2 j (by simpa using h1) (by simpa using h2)
    simpa using k
theorem eqW_run (I : Inv X pins σ H s) : ∀ (n : Nat) (A : Around), A.units + n + 64 < cLine → ∀ (x y : V) (v u : Value), EqW X.K H n x y → RelV x v → RelV y u → EqP X.prog X.w A s v u true
  | 0, _, _, _, _, _, _, h, _, _ => (show False from h).elim
  | n + 1, A, hu, x, y, v, u, h, rx, ry => by
    rcases h with ⟨d, e, hd, he, sd, se, q⟩ | ⟨a, rfl, rfl⟩ | h
    · obtain ⟨as, r1⟩ := Dp.reads I d x v hd rx
      obtain ⟨bs, r2⟩ := Dp.reads I e y u he ry
      have k := SeqAt.eqAt_reads d e A s v u as bs r1 r2 (SeqAt.canLay_of_shaped sd) (SeqAt.canLay_of_shaped se) (SeqAt.room_of_shaped sd (by omega))
      rw [q] at k
      exact SeqAt.EqAt.eqP k
    · cases (show v = Value.ref a from rx)
      cases (show u = Value.ref a from ry)
      exact (SeqAt.EqAt.same _).eqP
    · have step := eqS_run I (A := A) (by omega) (eqW_run I n A.in1 (by show A.units + 1 + n + 64 < cLine; omega)) h rx ry
      obtain ⟨a, b, rfl, rfl⟩ : ∃ a b, x = .ref a ∧ y = .ref b := by
        rcases h with (⟨a, b, _, _, e1, e2, _⟩ | ⟨a, b, _, _, e1, e2, _⟩) | ⟨a, b, _, _, e1, e2, _⟩ <;> exact ⟨a, b, e1, e2⟩
      cases (show v = Value.ref a from rx)
      cases (show u = Value.ref b from ry)
      by_cases e : a = b
      · subst e
        exact (SeqAt.EqAt.same _).eqP
      · exact SeqAt.eqP_refs e step
end
section
variable {X : Cx}
def rEqW (K : PySem.W.Frag) : R2 := fun x y H Q => ∃ n, n ≤ 60 ∧ EqS K H (EqW K H n) x y ∧ Q (.bl true) H
def rNeW (K : PySem.W.Frag) : R2 := fun x y H Q => ∃ n, n ≤ 60 ∧ EqS K H (EqW K H n) x y ∧ Q (.bl false) H
theorem op_eqW (hu : X.A.units + 150 < cLine) : OpR X (compareOp .Eq) (rEqW X.K) := by
  intro pins s σ H x y v u Q I rx ry h
  obtain ⟨n, hn, h, q⟩ := h
  exact eqS_run I (A := X.A) (by omega) (eqW_run I n X.A.in1 (by show X.A.units + 1 + n + 64 < cLine; omega)) h rx ry _ _ ⟨.bl true, H, I, rfl, q⟩
theorem op_neW (hu : X.A.units + 150 < cLine) : OpR X (compareOp .NotEq) (rNeW X.K) := by
  intro pins s σ H x y v u Q I rx ry h
  obtain ⟨n, hn, h, q⟩ := h
  exact neS_run I (A := X.A) (by omega) (eqW_run I n X.A.in1 (by show X.A.units + 1 + n + 64 < cLine; omega)) h rx ry _ _ ⟨.bl false, H, I, rfl, q⟩
end
theorem units150 {k : Nat} {A : Around} (r : Room k A) : A.units + 150 < cLine := by
  have := r.un
  omega
end My
namespace My
open PySem PySem.Spec PyProof.Rows L2
/-! ### list(d.values()) -/
theorem paired_at {α β : Type} {F : α → β → Prop} : ∀ {xs : List α} {ys : List β} {j : Nat} {x : α} {y : β}, Paired F xs ys → xs[j]? = some x → ys[j]? = some y → F x y
  | _, _, _, _, _, .nil, h, _ => by simp at h
  | _, _, 0, _, _, .cons h _, h1, h2 => by
    simp at h1 h2
    subst h1 h2
    exact h
  | _, _, j + 1, _, _, .cons _ t, h1, h2 => paired_at (j := j) t (by simpa using h1) (by simpa using h2)
def tListVals (td : TE) : TE := fun σ H Q => td σ H fun x H1 => ∃ d kvs, x = .ref d ∧ H1 d = some (.dK kvs) ∧ ∀ q, H1 q = Option.none → Q (.ref q) (upd H1 q (.lst (kvs.map (·.2))))
theorem g_lvals {td : TE} {σ : L2.St} {H : Hp} {Q : VK} (h : td σ H fun x H1 => ∃ d kvs, x = .ref d ∧ H1 d = some (.dK kvs) ∧ ∀ q, H1 q = Option.none → Q (.ref q) (upd H1 q (.lst (kvs.map (·.2))))) : tListVals td σ H Q := h
theorem pe_listVals {X : Cx} {e : Expr} {td : TE} {p pos apos cpos : Pos} (hc : X.calm = true) (hg : Gl X "list") (hm : X.mg "list" = Option.none) (he : PE X e td)
    (hbase : attributeBase e "values" X.env (eval e X.env) = eval e X.env := by rfl) (hline : (apos.endLine == cpos.line) = true := by rfl)
    (na : starEach [Expr.Call (.Attribute e "values" apos) [] [] cpos] X.env = (false, eval (.Call (.Attribute e "values" apos) [] [] cpos) X.env) :: starEach [] X.env := by rfl) :
    PE X (.Call (.Name "list" p) [.Call (.Attribute e "values" apos) [] [] cpos] [] pos) (tListVals td) := by
  refine ⟨fun pins s σ H Q I h => ?_⟩
  refine Call_ (ld_blt I hg hm boot_list (PyProof.Rows.callWith_type1 (args_cons ?_ na) na))
  refine wpAny_Call_method (T := "dict") (id := "dict.values") hbase rfl hline F.plainAttrs_dict F.slot_dict_values F.type_dict_values (thn (he.run pins s σ H _ I h) fun u s1 ⟨x, H1, I1, rx, d, kvs, ex, hd, q⟩ => ?_)
  subst ex
  obtain rfl : u = Value.ref d := rx
  obtain ⟨z, lo, vs, rk, hm2⟩ := (show ObjOk X.prog X.w H1 s1.heap d (.dK kvs) from I1.hok d _ hd)
  obtain ⟨ep, hat⟩ := hm2.dictAt
  have hl : kvs.length = vs.length := Paired.length rk
  refine ⟨hm2.typeIs, hm2.mapOf.noDict, ?_⟩
  have I2 : Inv X pins σ H1 { s1 with heap := s1.heap.push { cls := .type "dict_values", data := .fields #[.ref d] } } := I1.kept (t' := s1.toks) fun b ob q => Heap.get?_push_of_some _ q
  show wpAny _ _ (callWith cpos (.builtin "dict.values") [.ref d] [] []) _ X.xe s1
  refine method_meetsIn F.slot_dict_values F.entry_dict_values rfl (PySem.evalArgs_none ⟨rfl, hm2.typeIs, F.args_dict_values_1 _, _, meets_dict_values (mixKind X.prog X.w) d lo, ⟨vs, hm2⟩, ?_⟩)
  refine args_nil ?_
  refine PySem.W.kdl_call (PySem.W.kdl_values (knd := mixKind X.prog X.w) (d := d) (kvs := vs) (ep := ep)) (I2.ok.hd hc) ⟨⟨_, Heap.get?_push_size _ rfl, rfl, rfl⟩, hat.push _⟩ (by rw [← hl]; exact z) fun h' tk acc' c' hkeep hS hacc => ?_
  refine ⟨.ref _, upd H1 _ (.lst (kvs.map (·.2))), I2.laid hkeep (Nat.le_refl _) (show ObjOk X.prog X.w _ _ _ (.lst (kvs.map (·.2))) from ⟨?_, acc'.toList, c', ?_, ?_⟩), rfl, q _ (I2.hok.fresh (Nat.le_refl _))⟩
  · rw [List.length_map]; exact z
  · have el : acc'.toList.length = acc'.size := by simp
    refine vals_of_at (by rw [List.length_map, el, hacc.1, hl]) fun j x w h1 h2 => ?_
    obtain ⟨k, hky⟩ := hacc.2 j w (by rw [← Array.getElem?_toList]; exact h2)
    rw [List.getElem?_map] at h1
    obtain ⟨kv, hkv, rfl⟩ := Option.map_eq_some_iff.mp h1
    exact (paired_at rk hkv hky).2
  · rw [Array.toArray_toList]; exact hS
end My

namespace My
open PySem PySem.Spec PyProof.Rows L2 SkE
/-! ### the text -/
def topS (i : Nat) : Stmt := PySem.Challenge.pw_hornbook_k92_whole_slide_keeps_terms.main.body.getD i (.Pass ⟨0, 0, 0, 0⟩)
abbrev s_is_symbol : Stmt := topS 1
abbrev N_is_symbol : List Str := ["node"]
theorem sc_is_symbol : FnScope N_is_symbol ["node"] (defScope s_is_symbol) := ⟨rfl, rfl, rfl, by decide +kernel, rfl, by decide +kernel, by decide +kernel⟩
abbrev s_arity_of : Stmt := topS 2
abbrev N_arity_of : List Str := ["node"]
theorem sc_arity_of : FnScope N_arity_of ["node"] (defScope s_arity_of) := ⟨rfl, rfl, rfl, by decide +kernel, rfl, by decide +kernel, by decide +kernel⟩
abbrev s_is_link : Stmt := topS 4
abbrev N_is_link : List Str := ["cell"]
theorem sc_is_link : FnScope N_is_link ["cell"] (defScope s_is_link) := ⟨rfl, rfl, rfl, by decide +kernel, rfl, by decide +kernel, by decide +kernel⟩
abbrev s_marks : Stmt := topS 5
abbrev N_marks : List Str := ["cells", "roots", "marked", "waiting", "root", "at", "cell"]
theorem sc_marks : FnScope N_marks ["cells", "roots"] (defScope s_marks) := ⟨rfl, rfl, rfl, by decide +kernel, rfl, by decide +kernel, by decide +kernel⟩
abbrev s_reachable : Stmt := topS 6
abbrev N_reachable : List Str := ["cells", "roots", "at", "is_marked"]
theorem sc_reachable : FnScope N_reachable ["cells", "roots"] (defScope s_reachable) := ⟨rfl, rfl, rfl, by decide +kernel, rfl, by decide +kernel, by decide +kernel⟩
abbrev s_moved : Stmt := topS 7
abbrev N_moved : List Str := ["cell", "places"]
theorem sc_moved : FnScope N_moved ["cell", "places"] (defScope s_moved) := ⟨rfl, rfl, rfl, by decide +kernel, rfl, by decide +kernel, by decide +kernel⟩
abbrev s_slide : Stmt := topS 8
abbrev N_slide : List Str := ["cells", "roots", "places", "new", "old", "kept", "at", "root"]
theorem sc_slide : FnScope N_slide ["cells", "roots"] (defScope s_slide) := ⟨rfl, rfl, rfl, by decide +kernel, rfl, by decide +kernel, by decide +kernel⟩
abbrev s__law_stream : Stmt := topS 10
abbrev N__law_stream : List Str := ["script", "mixed", "cell"]
theorem sc__law_stream : FnScope N__law_stream ["script"] (defScope s__law_stream) := ⟨rfl, rfl, rfl, by decide +kernel, rfl, by decide +kernel, by decide +kernel⟩
abbrev s__law_draw : Stmt := topS 11
abbrev N__law_draw : List Str := ["stream", "many", "value"]
theorem sc__law_draw : FnScope N__law_draw ["stream", "many"] (defScope s__law_draw) := ⟨rfl, rfl, rfl, by decide +kernel, rfl, by decide +kernel, by decide +kernel⟩
abbrev s__law_cells : Stmt := topS 12
abbrev N__law_cells : List Str := ["stream", "size", "cells", "k", "pick", "at", "arity", "n", "symbols", "others"]
theorem sc__law_cells : FnScope N__law_cells ["stream", "size"] (defScope s__law_cells) := ⟨rfl, rfl, rfl, by decide +kernel, rfl, by decide +kernel, by decide +kernel⟩
abbrev s__law_is_symbol : Stmt := topS 13
abbrev N__law_is_symbol : List Str := ["cell"]
theorem sc__law_is_symbol : FnScope N__law_is_symbol ["cell"] (defScope s__law_is_symbol) := ⟨rfl, rfl, rfl, by decide +kernel, rfl, by decide +kernel, by decide +kernel⟩
abbrev s__law_settled : Stmt := topS 14
abbrev N__law_settled : List Str := ["cells", "at", "symbols", "others", "cell"]
theorem sc__law_settled : FnScope N__law_settled ["cells", "at", "symbols", "others"] (defScope s__law_settled) := ⟨rfl, rfl, rfl, by decide +kernel, rfl, by decide +kernel, by decide +kernel⟩
abbrev s__law_roots : Stmt := topS 15
abbrev N__law_roots : List Str := ["stream", "cells", "roots", "k", "at"]
theorem sc__law_roots : FnScope N__law_roots ["stream", "cells"] (defScope s__law_roots) := ⟨rfl, rfl, rfl, by decide +kernel, rfl, by decide +kernel, by decide +kernel⟩
abbrev s__law_reachable : Stmt := topS 16
abbrev N__law_reachable : List Str := ["cells", "roots", "found", "cell", "waiting", "k", "at", "n"]
theorem sc__law_reachable : FnScope N__law_reachable ["cells", "roots"] (defScope s__law_reachable) := ⟨rfl, rfl, rfl, by decide +kernel, rfl, by decide +kernel, by decide +kernel⟩
abbrev s__law_moved : Stmt := topS 17
abbrev N__law_moved : List Str := ["cell", "places"]
theorem sc__law_moved : FnScope N__law_moved ["cell", "places"] (defScope s__law_moved) := ⟨rfl, rfl, rfl, by decide +kernel, rfl, by decide +kernel, by decide +kernel⟩
abbrev s_law : Stmt := topS 18
abbrev N_law : List Str := ["script", "stream", "cells", "roots", "given", "rows", "actual", "kept", "places", "new", "due", "at", "root", "again", "same"]
theorem sc_law : FnScope N_law ["script"] (defScope s_law) := ⟨rfl, rfl, rfl, by decide +kernel, rfl, by decide +kernel, by decide +kernel⟩
/-- names that the top leaves to the built-ins, and its constants -/
structure Bi (K : PySem.W.Frag) (mg : Str → Option Value) : Prop where
  b_abs : mg "abs" = Option.none
  b_any : mg "any" = Option.none
  b_bool : mg "bool" = Option.none
  b_dict : mg "dict" = Option.none
  b_enumerate : mg "enumerate" = Option.none
  b_int : mg "int" = Option.none
  b_isinstance : mg "isinstance" = Option.none
  b_len : mg "len" = Option.none
  b_list : mg "list" = Option.none
  b_max : mg "max" = Option.none
  b_range : mg "range" = Option.none
  b_tuple : mg "tuple" = Option.none

/-! ### names, nodes, terms -/
def okSign (c : Nat) : Bool := decide (32 ≤ c) && decide (c ≤ 126) && !decide (c = 37)
def okName (x : Str) : Bool := decide (1 ≤ x.length) && decide (x.length ≤ 40) && x.cps.toList.all okSign
def names20 : List Str := ["a", "b", "f", "g", "hello", "[]", "+", "-", ",", "it's", "X", "a b", "{}", ".", "=", "'", "aB_1", "!", "0", "lvjkuwnd"]
def signs : Str := (Str.ofString " !\"#$&'()*+,-./0123456789:;<=>?@ABCDEFGHIJKLMNOPQRSTUVWXYZ[\\]^_`") ++ (Str.ofString "abcdefghijklmnopqrstuvwxyz{|}~")
theorem names20_ok : names20.all okName = true := by decide +kernel
theorem signs_ok : signs.cps.toList.all okSign = true := by decide +kernel
theorem signs_len : signs.length = 94 := by decide +kernel
theorem join_ones (e : Str) (he : e.cps = #[]) : ∀ cs : List Nat, (Str.join e (cs.map fun c => ⟨#[c]⟩)).cps.toList = cs
  | [] => rfl
  | [c] => rfl
  | c :: d :: r => by
    have ih := join_ones e he (d :: r)
    show ((⟨#[c]⟩ : Str) ++ e ++ Str.join e ((d :: r).map fun c => (⟨#[c]⟩ : Str))).cps.toList = c :: d :: r
    show (#[c] ++ e.cps ++ (Str.join e ((d :: r).map fun c => (⟨#[c]⟩ : Str))).cps).toList = c :: d :: r
    rw [he, Array.toList_append, ih]
    rfl
inductive Nd (wd : Int) : PyData → Prop
  | v (n : Int) : 0 ≤ n → n < wd → Nd wd (.tuple [.str "v", .int n])
  | i (n : Int) : -(10 ^ 40) < n → n < 10 ^ 40 → Nd wd (.int n)
  | f (x : Str) (n : Int) : okName x = true → 0 ≤ n → n ≤ 8 → Nd wd (.tuple [.str "f", .str x, .int n])
def arN : PyData → Nat
  | .tuple [_, _, c] => (match c with | .int n => n.toNat | _ => 0) | _ => 0
/-- from m missing terms on, the nodes are just these terms -/
def Cls : Nat → List PyData → Prop
  | m, [] => m = 0
  | m, d :: r => 0 < m ∧ Cls (m - 1 + arN d) r
structure Term (wd : Int) (ds : List PyData) : Prop where
  cl : Cls 1 ds
  nd : ∀ d ∈ ds, Nd wd d
/-! ### the promises -/
def sp__law_stream (K : PySem.W.Frag) : Sp := fun vs H Q _ => ∃ (a : Addr) (ns : List Int), vs = [.ref a] ∧ SqL K H a (ns.map V.int) ∧ ns.length ≤ 63 ∧ ∀ s l H', H s = Option.none → H l = Option.none → Same H H' → Stm H' s l → Q (.ref s) H'
def sp__law_draw (K : PySem.W.Frag) : Sp := fun vs H Q _ => ∃ (s l : Addr) (n : Int), vs = [.ref s, .int n] ∧ Stm H s l ∧ 0 < n ∧ n.natAbs < 2 ^ 9000 ∧ ∀ r H', 0 ≤ r → r < n → But s H H' → Stm H' s l → Q (.int r) H'
/-! ### nodes -/
def isSymN : PyData → Bool
  | .tuple [_, _, _] => true | _ => false
def NdA (d : PyData) : Prop := ∃ wd, Nd wd d
/-- how many nodes m terms take -/
def tk : Nat → List PyData → Nat
  | _, [] => 0
  | m, d :: r => if m = 0 then 0 else 1 + tk (m - 1 + arN d) r
theorem tk_zero (l : List PyData) : tk 0 l = 0 := by
  cases l with
  | nil => rfl
  | cons d r => exact if_pos rfl
theorem tk_cons {m : Nat} (h : 0 < m) (d : PyData) (r : List PyData) : tk m (d :: r) = 1 + tk (m - 1 + arN d) r := if_neg (by omega)
theorem arN_nsym {d : PyData} (h : isSymN d = false) : arN d = 0 := by
  cases d with
  | tuple ds =>
    rcases ds with _ | ⟨a, _ | ⟨b, _ | ⟨c, _ | ⟨e, r⟩⟩⟩⟩
    · rfl
    · rfl
    · rfl
    · cases h
    · rfl
  | _ => rfl
theorem tk_le : ∀ (l : List PyData) (m : Nat), tk m l ≤ l.length
  | [], _ => Nat.le_refl 0
  | d :: r, m => by
    by_cases h : m = 0
    · subst h; rw [tk_zero]; exact Nat.zero_le _
    · rw [tk_cons (by omega)]
      have := tk_le r (m - 1 + arN d)
      rw [List.length_cons]
      omega
theorem tk_add : ∀ (l : List PyData) (j m : Nat), tk (j + m) l = tk j l + tk m (l.drop (tk j l))
  | [], j, m => by simp [tk]
  | d :: r, j, m => by
    by_cases h : j = 0
    · subst h
      rw [tk_zero, Nat.zero_add, Nat.zero_add, List.drop_zero]
    · rw [tk_cons (by omega), tk_cons (m := j) (by omega), show j + m - 1 + arN d = (j - 1 + arN d) + m by omega, tk_add r (j - 1 + arN d) m]
      rw [show 1 + tk (j - 1 + arN d) r = tk (j - 1 + arN d) r + 1 by omega, List.drop_succ_cons]
      omega
/-- the rest of what is closed is closed -/
theorem cls_drop : ∀ (l : List PyData) (k j : Nat), Cls k l → j ≤ k → Cls (k - j) (l.drop (tk j l))
  | [], k, j, h, hj => by
    have hk : k = 0 := h
    rw [List.drop_nil]
    show k - j = 0
    omega
  | d :: r, k, j, h, hj => by
    by_cases z : j = 0
    · subst z
      rw [tk_zero]
      exact h
    · rw [tk_cons (by omega), show 1 + tk (j - 1 + arN d) r = tk (j - 1 + arN d) r + 1 by omega, List.drop_succ_cons]
      have := cls_drop r (k - 1 + arN d) (j - 1 + arN d) h.2 (by omega)
      rwa [show k - 1 + arN d - (j - 1 + arN d) = k - j by omega] at this
theorem cls_take : ∀ (l : List PyData) (k j : Nat), Cls k l → j ≤ k → Cls j (l.take (tk j l))
  | [], k, j, h, hj => by
    have hk : k = 0 := h
    rw [List.take_nil]
    show j = 0
    omega
  | d :: r, k, j, h, hj => by
    by_cases z : j = 0
    · subst z
      rw [tk_zero]
      rfl
    · rw [tk_cons (by omega), show 1 + tk (j - 1 + arN d) r = tk (j - 1 + arN d) r + 1 by omega, List.take_succ_cons]
      exact ⟨by omega, cls_take r (k - 1 + arN d) (j - 1 + arN d) h.2 (by omega)⟩
theorem tk_take : ∀ (l : List PyData) (i j : Nat), i ≤ j → tk i (l.take (tk j l)) = tk i l
  | [], i, j, _ => by rw [List.take_nil]
  | d :: r, i, j, h => by
    by_cases z : i = 0
    · subst z
      rw [tk_zero, tk_zero]
    · rw [tk_cons (m := j) (by omega), show 1 + tk (j - 1 + arN d) r = tk (j - 1 + arN d) r + 1 by omega, List.take_succ_cons, tk_cons (by omega), tk_cons (by omega), tk_take r _ _ (by omega)]
theorem take_full : ∀ (l : List PyData) (k : Nat), Cls k l → l.take (tk k l) = l
  | [], _, _ => List.take_nil
  | d :: r, k, h => by
    rw [tk_cons h.1, show 1 + tk (k - 1 + arN d) r = tk (k - 1 + arN d) r + 1 by omega, List.take_succ_cons, take_full r _ h.2]
theorem cls_map : ∀ (ds es : List PyData) (m : Nat), es.map arN = ds.map arN → Cls m ds → Cls m es
  | [], [], m, _, h => h
  | [], e :: es, m, h, _ => by cases h
  | d :: ds, [], m, h, _ => by cases h
  | d :: ds, e :: es, m, h, hc => by
    rw [List.map_cons, List.map_cons] at h
    obtain ⟨h1, h2⟩ := List.cons.inj h
    exact ⟨hc.1, by rw [h1]; exact cls_map ds es _ h2 hc.2⟩
/-! ### nodes can be compared -/
theorem okName_cps {x : Str} (h : okName x = true) : PyData.strOk x = true := by
  unfold okName at h
  rw [Bool.and_eq_true] at h
  unfold PyData.strOk
  rw [← Array.all_toList]
  refine List.all_eq_true.mpr fun c hc => ?_
  have := List.all_eq_true.mp h.2 c hc
  unfold okSign at this
  simp only [Bool.and_eq_true, decide_eq_true_eq] at this
  exact decide_eq_true (by omega)
theorem nd_lay {d : PyData} (h : NdA d) : d.canLay0 = true ∧ d.depth ≤ 1 ∧ d.eqv d = true := by
  obtain ⟨wd, h⟩ := h
  cases h with
  | v n _ _ => exact ⟨by simp only [PyData.canLay0, PyData.canLayAll0]; decide +kernel, by simp [PyData.depth, PyData.depthAll], by simp only [PyData.eqv, PyData.eqvAll, beq_self_eq_true, Bool.and_self]⟩
  | i n _ _ => exact ⟨by simp only [PyData.canLay0], by simp [PyData.depth], by simp only [PyData.eqv, beq_self_eq_true]⟩
  | f x n hx _ _ => exact ⟨by simp only [PyData.canLay0, PyData.canLayAll0]; rw [okName_cps hx]; decide +kernel, by simp [PyData.depth, PyData.depthAll], by simp only [PyData.eqv, PyData.eqvAll, beq_self_eq_true, Bool.and_self]⟩
theorem nds_lay : ∀ {ds : List PyData}, (∀ d ∈ ds, NdA d) → PyData.canLayAll0 ds = true ∧ PyData.depthAll ds ≤ 1 ∧ PyData.eqvAll ds ds = true
  | [], _ => ⟨by simp only [PyData.canLayAll0], by simp [PyData.depthAll], by simp only [PyData.eqvAll]⟩
  | d :: r, h => by
    obtain ⟨a1, a2, a3⟩ := nd_lay (h d List.mem_cons_self)
    obtain ⟨b1, b2, b3⟩ := nds_lay (ds := r) fun e he => h e (List.mem_cons_of_mem _ he)
    refine ⟨by simp only [PyData.canLayAll0, a1, b1, Bool.and_self], ?_, by simp only [PyData.eqvAll, a3, b3, Bool.and_self]⟩
    simp only [PyData.depthAll]
    omega
theorem nd_shaped {d : PyData} (h : NdA d) : SeqAt.shaped d = true := by
  obtain ⟨a1, a2, _⟩ := nd_lay h
  show (d.canLay0 && decide (d.depth ≤ 64)) = true
  rw [a1, decide_eq_true (by omega)]
  rfl
theorem tup_shaped {ds : List PyData} (h : ∀ d ∈ ds, NdA d) : SeqAt.shaped (.tuple ds) = true := by
  obtain ⟨a1, a2, _⟩ := nds_lay h
  have hd : (PyData.tuple ds).depth ≤ 64 := by
    simp only [PyData.depth]
    omega
  have hc : (PyData.tuple ds).canLay0 = true := by
    simp only [PyData.canLay0]
    exact a1
  show ((PyData.tuple ds).canLay0 && decide ((PyData.tuple ds).depth ≤ 64)) = true
  rw [hc, decide_eq_true hd]
  rfl
theorem tup_eqv {ds : List PyData} (h : ∀ d ∈ ds, NdA d) : PyData.eqv (.tuple ds) (.tuple ds) = true := by
  simp only [PyData.eqv]
  exact (nds_lay h).2.2
/-- name = {k: v for ..} on one line, the name a local -/
theorem ps_setDc {X : Cx} {i : Nat} {y : Str} {py : Pos} {kx vx tg iter : Expr} {ifs : List Expr} {scope : Scope} {own : List (Str × Nat)} {pos spos : Pos} {wi : TI} {g : TG} {tt : TT} {tk tv : TE} (c1 : X.calm = true) (c2 : X.N.Nodup) (c3 : X.N[i]? = some y) (c4 : X.env.scope.names.lookup y = some .local)
    (c5 : swapsWith (.DictComp kx vx [⟨tg, iter, ifs, 0⟩] scope pos) (some (.Name y py)) spos.line X.env = pure true) (c6 : PI X tg iter wi) (c7 : BlkOk X.N X.env.scope scope own)
    (c8 : ∀ (z : Shared) (H : Hp) (C : Addr) (cl : List (Str × Addr)) (fp : List Addr), PG (X.blk z H scope (compEnvC scope cl C X.env) fp) tg g) (c9 : ∀ (z : Shared) (H : Hp) (C : Addr) (cl : List (Str × Addr)) (fp : List Addr), PTs (X.blk z H scope (compEnvC scope cl C X.env) fp) ifs tt)
    (d1 : ∀ (z : Shared) (H : Hp) (C : Addr) (cl : List (Str × Addr)) (fp : List Addr), PE (X.blk z H scope (compEnvC scope cl C X.env) fp) kx tk)
    (d2 : ∀ (z : Shared) (H : Hp) (C : Addr) (cl : List (Str × Addr)) (fp : List Addr), PE (X.blk z H scope (compEnvC scope cl C X.env) fp) vx tv) (d3 : ∀ x, foldedSetIterable iter X.env x = pure x := by intro _; rfl) :
    PS X (.Assign [.Name y py] (.DictComp kx vx [⟨tg, iter, ifs, 0⟩] scope pos) spos) (tAsg (tDc wi g tt tk tv (own.map (·.2))) (gName i)) := by
  refine ⟨fun pins st0 σ H D inv hyp => ?_⟩
  have hyp' : tDc wi g tt tk tv (own.map (·.2)) σ H (fun v Hq => gName i v σ Hq D.nx) := hyp
  rw [exec_Assign_Name_used _ _ _ _ c5]
  refine wpAny_bind <| wpAny_standAt <| wpAny_bind ?_
  show wpAny _ X.A (do let _ ← comprehension (.DictComp kx vx [⟨tg, iter, ifs, 0⟩] scope pos) scope X.env (firstIterPos [⟨tg, iter, ifs, 0⟩] pos) newDict false (eval iter X.env) (some (assign (.Name y py) X.env))) _ _ st0
  have core := dc_core (Qf := fun _ fin => SP X pins D .next fin) (pos := pos) (pos' := firstIterPos [⟨tg, iter, ifs, 0⟩] pos) (use := some (assign (.Name y py) X.env)) c1 c2 inv c6 c7 c8 c9 d1 d2 d3 hyp' fun L C fin mm Hf inv' qf nsC fp => by
    show wpAny _ _ (assign (.Name y py) X.env (.ref L)) _ _ _
    obtain ⟨e0, e1, e2, e3, e4, e5⟩ := fp
    refine wpAny_assign_Name (store_ok2 (v := V.ref L) inv' c2 c3 (.inl c4) rfl (fun fin2 inv2 ⟨w, same, hw⟩ => ?_) (.inr c4))
    have cw : C ≠ w := by
      intro z
      cases hw with
      | inl hw => exact e1 (z.trans hw)
      | inr hw => exact e4 y w hw z.symm
    exact ⟨mm, nsC.sameBut same cw, fun h3 sb3 => ⟨_, Hf, inv2.turned (t' := fin2.toks) (fun b o hb e => (sb3.2 b hb).trans e) e0 e1 e3 e4 e5, qf⟩⟩
  exact wpAny_bind (thn core fun _ fin hq => wpAny_pure (wpAny_pure hq))
theorem seq_via {t u : TS} {D : Ends} {σ : L2.St} {H : Hp} (P : L2.St → Hp → Prop) (hu : ∀ σ H, P σ H → u D σ H) (ht : (∀ σ H, P σ H → u D σ H) → t { D with nx := u D } σ H) : tSeq t u D σ H := ht hu
def isVarN : PyData → Bool
  | .tuple [_, _] => true | _ => false
def numN : PyData → Int
  | .tuple [_, .int n] => n | _ => 0
theorem var_arN {d : PyData} (h : isVarN d = true) : arN d = 0 := by
  cases d with
  | tuple ds =>
    rcases ds with _ | ⟨a, _ | ⟨b, _ | ⟨c, r⟩⟩⟩
    · rfl
    · rfl
    · rfl
    · cases h
  | _ => rfl
theorem nd_eq {d e : PyData} (h : NdA d) (h2 : NdA e) (q : PyData.eqv d e = true) : d = e := by
  obtain ⟨wd, h⟩ := h
  obtain ⟨we, h2⟩ := h2
  cases h with
  | v n _ _ =>
    cases h2 with
    | v m _ _ =>
      simp only [PyData.eqv, PyData.eqvAll, Bool.and_eq_true, beq_iff_eq] at q
      rw [q.2.1]
    | i m _ _ => simp [PyData.eqv] at q
    | f x m _ _ _ => simp [PyData.eqv, PyData.eqvAll] at q
  | i n _ _ =>
    cases h2 with
    | v m _ _ => simp [PyData.eqv] at q
    | i m _ _ =>
      simp only [PyData.eqv, beq_iff_eq] at q
      rw [q]
    | f x m _ _ _ => simp [PyData.eqv] at q
  | f x n _ _ _ =>
    cases h2 with
    | v m _ _ => simp [PyData.eqv, PyData.eqvAll] at q
    | i m _ _ => simp [PyData.eqv] at q
    | f y m _ _ _ =>
      simp only [PyData.eqv, PyData.eqvAll, Bool.and_eq_true, beq_iff_eq] at q
      rw [q.2.1, q.2.2.1]
theorem nds_eq : ∀ {ds es : List PyData}, (∀ d ∈ ds, NdA d) → (∀ e ∈ es, NdA e) → PyData.eqvAll ds es = true → ds = es
  | [], [], _, _, _ => rfl
  | [], _ :: _, _, _, h => by simp [PyData.eqvAll] at h
  | _ :: _, [], _, _, h => by simp [PyData.eqvAll] at h
  | d :: ds, e :: es, h1, h2, h => by
    simp only [PyData.eqvAll, Bool.and_eq_true] at h
    rw [nd_eq (h1 d List.mem_cons_self) (h2 e List.mem_cons_self) h.1, nds_eq (fun x hx => h1 x (List.mem_cons_of_mem _ hx)) (fun x hx => h2 x (List.mem_cons_of_mem _ hx)) h.2]
theorem tup_eq {ds es : List PyData} (h1 : ∀ d ∈ ds, NdA d) (h2 : ∀ e ∈ es, NdA e) (h : PyData.eqv (.tuple ds) (.tuple es) = true) : ds = es := by
  simp only [PyData.eqv] at h
  exact nds_eq h1 h2 h
theorem cls_app : ∀ (l r : List PyData) (j k : Nat), Cls j l → Cls k r → Cls (j + k) (l ++ r)
  | [], r, j, k, h, h2 => by
    have e : j = 0 := h
    rw [e, Nat.zero_add]
    exact h2
  | d :: l, r, j, k, h, h2 => by
    refine ⟨by have := h.1; omega, ?_⟩
    have := cls_app l r (j - 1 + arN d) k h.2 h2
    have e := h.1
    rwa [show j - 1 + arN d + k = j + k - 1 + arN d by omega] at this
/-- at each place of what is closed so many terms are missing -/
theorem cls_split : ∀ (ds : List PyData) (m i : Nat), Cls m ds → i ≤ ds.length → ∃ k, Cls k (ds.drop i) ∧ ∀ t, Cls k t → Cls m (ds.take i ++ t)
  | ds, m, 0, h, _ => ⟨m, h, fun t ht => ht⟩
  | [], m, i + 1, h, hi => absurd hi (by simp)
  | d :: ds, m, i + 1, h, hi => by
    obtain ⟨k, h1, h2⟩ := cls_split ds (m - 1 + arN d) i h.2 (by simpa using hi)
    exact ⟨k, h1, fun t ht => ⟨h.1, h2 t ht⟩⟩
abbrev Tab := List (Int × List PyData)
def valT (t : Tab) (n : Int) : Option (List PyData) := (t.find? fun p => decide (p.1 = n)).map (·.2)
/-- a dict with this table -/
def TabK (K : PySem.W.Frag) (H : Hp) : List (Key × V) → Tab → Prop
  | [], [] => True
  | p :: kvs, q :: t => p.1 = Sum.inl q.1 ∧ Dp K H p.2 (.tuple q.2) ∧ TabK K H kvs t
  | _, _ => False
def TabN (t : Tab) : Prop := ∀ p ∈ t, (∀ d ∈ p.2, NdA d)
theorem TabK.len {K : PySem.W.Frag} {H : Hp} : ∀ {kvs : List (Key × V)} {t : Tab}, TabK K H kvs t → kvs.length = t.length
  | [], [], _ => rfl
  | [], _ :: _, h => h.elim
  | _ :: _, [], h => h.elim
  | p :: kvs, q :: t, h => congrArg (· + 1) (TabK.len h.2.2)
theorem TabK.mono {K : PySem.W.Frag} {H H' : Hp} (f : ∀ v ds, (∀ d ∈ ds, NdA d) → Dp K H v (.tuple ds) → Dp K H' v (.tuple ds)) : ∀ {kvs : List (Key × V)} {t : Tab}, TabN t → TabK K H kvs t → TabK K H' kvs t
  | [], [], _, _ => True.intro
  | [], _ :: _, _, h => h.elim
  | _ :: _, [], _, h => h.elim
  | p :: kvs, q :: t, n, h => ⟨h.1, f _ _ (n q List.mem_cons_self) h.2.1, TabK.mono f (fun x hx => n x (List.mem_cons_of_mem _ hx)) h.2.2⟩
theorem TabK.val {K : PySem.W.Frag} {H : Hp} (n : Int) : ∀ {kvs : List (Key × V)} {t : Tab}, TabK K H kvs t → (valV kvs (Sum.inl n) = none ∧ valT t n = none) ∨ ∃ v ds, valV kvs (Sum.inl n) = some v ∧ valT t n = some ds ∧ Dp K H v (.tuple ds)
  | [], [], _ => .inl ⟨rfl, rfl⟩
  | [], _ :: _, h => h.elim
  | _ :: _, [], h => h.elim
  | p :: kvs, q :: t, h => by
    by_cases e : q.1 = n
    · refine .inr ⟨p.2, q.2, valV_pos (by rw [h.1, e]), ?_, h.2.1⟩
      unfold valT
      rw [List.find?_cons, decide_eq_true e]
      rfl
    · have e1 : ¬ p.1 = Sum.inl n := fun z => e (Sum.inl.inj (h.1.symm.trans z))
      have e2 : valT (q :: t) n = valT t n := by
        unfold valT
        rw [List.find?_cons, decide_eq_false e]
      rw [valV_neg e1, e2]
      exact TabK.val n h.2.2
theorem TabK.snoc {K : PySem.W.Frag} {H : Hp} {n : Int} {v : V} {ds : List PyData} (hd : Dp K H v (.tuple ds)) : ∀ {kvs : List (Key × V)} {t : Tab}, TabK K H kvs t → TabK K H (kvs ++ [(Sum.inl n, v)]) (t ++ [(n, ds)])
  | [], [], _ => ⟨rfl, hd, True.intro⟩
  | [], _ :: _, h => h.elim
  | _ :: _, [], h => h.elim
  | p :: kvs, q :: t, h => ⟨h.1, h.2.1, TabK.snoc hd h.2.2⟩
theorem valT_snoc (t : Tab) (n m : Int) (ds : List PyData) (h : valT t n = none) : valT (t ++ [(n, ds)]) m = if m = n then some ds else valT t m := by
  unfold valT at *
  rw [List.find?_append]
  cases e : t.find? fun p => decide (p.1 = m) with
  | some p =>
    have hm : ¬ m = n := fun z => by rw [z] at e; rw [e] at h; cases h
    rw [if_neg hm]
    rfl
  | none =>
    by_cases hm : m = n
    · rw [if_pos hm, Option.none_or]
      rw [List.find?_cons, decide_eq_true hm.symm]
      rfl
    · rw [if_neg hm, Option.none_or]
      rw [List.find?_cons, decide_eq_false (fun z => hm z.symm)]
      rfl
theorem valT_none {t : Tab} {n : Int} (h : valT t n = none) : ∀ q ∈ t, q.1 ≠ n := by
  intro q hq e
  unfold valT at h
  rw [Option.map_eq_none_iff, List.find?_eq_none] at h
  exact h q hq (decide_eq_true e)
mutual
def noL : PyData → Bool
  | .none => true
  | .bool _ => true
  | .int _ => true
  | .str _ => true
  | .tuple ds => noLA ds
  | .list _ => false
  | .dict _ => false
def noLA : List PyData → Bool
  | [] => true
  | d :: ds => noL d && noLA ds
end
def notTup (H : Hp) (p : Addr) : Prop := (∃ ys, H p = some (.lst ys)) ∨ (∃ kvs, H p = some (.dK kvs)) ∨ ∃ o kvs, H p = some (.frz o (.dK kvs))
theorem sqT_put {K : PySem.W.Frag} {H : Hp} {p b : Addr} {o : HO} {xs : List V} (hp : notTup H p) (h : SqT K H b xs) : SqT K (upd H p o) b xs := by
  rcases h with (h | ⟨q, h⟩) | h
  · exact .inl (.inl (by rw [upd_ne (fun z => by rw [z] at h; rcases hp with ⟨_, hp⟩ | ⟨_, hp⟩ | ⟨_, _, hp⟩ <;> (rw [hp] at h; cases h))]; exact h))
  · exact .inl (.inr ⟨q, by rw [upd_ne (fun z => by rw [z] at h; rcases hp with ⟨_, hp⟩ | ⟨_, hp⟩ | ⟨_, _, hp⟩ <;> (rw [hp] at h; cases h))]; exact h⟩)
  · exact .inr h
section
variable {K : PySem.W.Frag} {H : Hp} {p : Addr} {o : HO}
mutual
theorem dp_put (hp : notTup H p) : ∀ (d : PyData) (v : V), noL d = true → Dp K H v d → Dp K (upd H p o) v d
  | .none, _, _, h => by cases h; exact .non
  | .bool b, _, _, h => by cases h; exact .bl b
  | .int i, _, _, h => by cases h; exact .int i
  | .str x, _, _, h => by cases h; exact .str x
  | .list ds, _, n, h => by simp [noL] at n
  | .tuple ds, _, n, h => by
    cases h with
    | tup g ha => exact .tup (sqT_put hp g) (dp_putAll hp ds _ (by simpa [noL] using n) ha)
  | .dict _, _, n, h => by cases h
theorem dp_putAll (hp : notTup H p) : ∀ (ds : List PyData) (vs : List V), noLA ds = true → DpAll K H vs ds → DpAll K (upd H p o) vs ds
  | [], _, _, h => by cases h; exact .nil
  | d :: ds, _, n, h => by
    rw [noLA, Bool.and_eq_true] at n
    cases h with
    | cons h1 h2 => exact .cons (dp_put hp d _ n.1 h1) (dp_putAll hp ds _ n.2 h2)
end
end
theorem nd_noL {d : PyData} (h : NdA d) : noL d = true := by
  obtain ⟨wd, h⟩ := h
  cases h <;> simp [noL, noLA]
theorem nds_noL : ∀ {ds : List PyData}, (∀ d ∈ ds, NdA d) → noLA ds = true
  | [], _ => by simp [noLA]
  | d :: r, h => by rw [noLA, nd_noL (h d List.mem_cons_self), nds_noL fun e he => h e (List.mem_cons_of_mem _ he)]; rfl
theorem tup_noL {ds : List PyData} (h : ∀ d ∈ ds, NdA d) : noL (.tuple ds) = true := by rw [noL]; exact nds_noL h
theorem tab_put {K : PySem.W.Frag} {H : Hp} {p : Addr} {o : HO} {kvs : List (Key × V)} {t : Tab} (hp : notTup H p) (n : TabN t) (h : TabK K H kvs t) : TabK K (upd H p o) kvs t := TabK.mono (fun v ds hn hd => dp_put hp _ _ (tup_noL hn) hd) n h
theorem tab_same {K : PySem.W.Frag} {H H' : Hp} {kvs : List (Key × V)} {t : Tab} (s : Same H H') (n : TabN t) (h : TabK K H kvs t) : TabK K H' kvs t := TabK.mono (fun v ds _ hd => dp_same s _ _ hd) n h
section
variable {K : PySem.W.Frag} {H H' : Hp}
mutual
theorem dp_map (f : ∀ b xs, SqT K H b xs → SqT K H' b xs) : ∀ (d : PyData) (v : V), noL d = true → Dp K H v d → Dp K H' v d
  | .none, _, _, h => by cases h; exact .non
  | .bool b, _, _, h => by cases h; exact .bl b
  | .int i, _, _, h => by cases h; exact .int i
  | .str x, _, _, h => by cases h; exact .str x
  | .list ds, _, n, h => by simp [noL] at n
  | .tuple ds, _, n, h => by
    cases h with
    | tup g ha => exact .tup (f _ _ g) (dp_mapAll f ds _ (by simpa [noL] using n) ha)
  | .dict _, _, n, h => by cases h
theorem dp_mapAll (f : ∀ b xs, SqT K H b xs → SqT K H' b xs) : ∀ (ds : List PyData) (vs : List V), noLA ds = true → DpAll K H vs ds → DpAll K H' vs ds
  | [], _, _, h => by cases h; exact .nil
  | d :: ds, _, n, h => by
    rw [noLA, Bool.and_eq_true] at n
    cases h with
    | cons h1 h2 => exact .cons (dp_map f d _ n.1 h1) (dp_mapAll f ds _ n.2 h2)
end
theorem sqT_but {p b : Addr} {xs : List V} (hp : notTup H p) (hb : But p H H') (h : SqT K H b xs) : SqT K H' b xs := by
  rcases h with (h | ⟨q, h⟩) | h
  · exact .inl (.inl (hb _ _ (fun z => by rw [z] at h; rcases hp with ⟨_, hp⟩ | ⟨_, hp⟩ | ⟨_, _, hp⟩ <;> (rw [hp] at h; cases h)) h))
  · exact .inl (.inr ⟨q, hb _ _ (fun z => by rw [z] at h; rcases hp with ⟨_, hp⟩ | ⟨_, hp⟩ | ⟨_, _, hp⟩ <;> (rw [hp] at h; cases h)) h⟩)
  · exact .inr h
/-- draws change the stream alone -/
theorem dp_but {s l : Addr} {v : V} {ds : List PyData} (S : Stm H s l) (b : But s H H') (n : ∀ d ∈ ds, NdA d) (h : Dp K H v (.tuple ds)) : Dp K H' v (.tuple ds) := by
  obtain ⟨x, y, m, ns, e, _⟩ := S.ex
  exact dp_map (fun c xs g => sqT_but (.inl ⟨_, e⟩) b g) _ _ (tup_noL n) h
end
theorem TabK.rep {K : PySem.W.Frag} {H : Hp} {n : Int} {v : V} {ds : List PyData} (hd : Dp K H v (.tuple ds)) : ∀ {kvs : List (Key × V)} {t : Tab}, TabK K H kvs t → TabK K H (kvs.map fun kv => if kv.1 = Sum.inl n then (kv.1, v) else kv) (t.map fun q => if q.1 = n then (q.1, ds) else q)
  | [], [], _ => True.intro
  | [], _ :: _, h => h.elim
  | _ :: _, [], h => h.elim
  | p :: kvs, q :: t, h => by
    have i : p.1 = Sum.inl n ↔ q.1 = n := by rw [h.1]; exact ⟨fun z => Sum.inl.inj z, fun z => congrArg _ z⟩
    refine ⟨?_, ?_, TabK.rep hd h.2.2⟩
    · by_cases e : q.1 = n
      · simp only [if_pos e, if_pos (i.mpr e)]; exact h.1
      · simp only [if_neg e, if_neg (fun z => e (i.mp z))]; exact h.1
    · by_cases e : q.1 = n
      · simp only [if_pos e, if_pos (i.mpr e)]; exact hd
      · simp only [if_neg e, if_neg (fun z => e (i.mp z))]; exact h.2.1
theorem TabK.put {K : PySem.W.Frag} {H : Hp} {n : Int} {v : V} {ds : List PyData} (hd : Dp K H v (.tuple ds)) {kvs : List (Key × V)} {t : Tab} (h : TabK K H kvs t) : ∃ t', TabK K H (putK kvs (Sum.inl n) v) t' ∧ (∀ q ∈ t', q ∈ t ∨ q.2 = ds) ∧ t'.length ≤ t.length + 1 := by
  unfold putK
  split
  · refine ⟨_, TabK.rep hd h, fun q hq => ?_, by rw [List.length_map]; exact Nat.le_succ _⟩
    obtain ⟨q', h1, h2⟩ := List.mem_map.mp hq
    split at h2
    · right; rw [← h2]
    · left; rw [← h2]; exact h1
  · refine ⟨_, TabK.snoc hd h, fun q hq => ?_, by rw [List.length_append]; exact Nat.le_refl _⟩
    rcases List.mem_append.mp hq with z | z
    · exact .inl z
    · right; rw [List.mem_singleton.mp z]
theorem TabK.at_ {K : PySem.W.Frag} {H : Hp} : ∀ {kvs : List (Key × V)} {t : Tab} {i : Nat} {k : Key} {v : V}, TabK K H kvs t → kvs[i]? = some (k, v) → ∃ q, q ∈ t ∧ k = Sum.inl q.1
  | [], [], i, k, v, _, h => by simp at h
  | [], _ :: _, _, _, _, h, _ => h.elim
  | _ :: _, [], _, _, _, h, _ => h.elim
  | p :: kvs, q :: t, 0, k, v, h, e => by
    rw [List.getElem?_cons_zero] at e
    cases e
    exact ⟨q, List.mem_cons_self, h.1⟩
  | p :: kvs, q :: t, i + 1, k, v, h, e => by
    rw [List.getElem?_cons_succ] at e
    obtain ⟨q', h1, h2⟩ := TabK.at_ h.2.2 e
    exact ⟨q', List.mem_cons_of_mem _ h1, h2⟩
theorem valT_of {t : Tab} {q : Int × List PyData} (h : q ∈ t) : ∃ ds, valT t q.1 = some ds := by
  cases e : valT t q.1 with
  | some ds => exact ⟨ds, rfl⟩
  | none => exact absurd rfl (valT_none e q h)
theorem putK_old {kvs : List (Key × V)} {k : Key} {v w : V} (h : valV kvs k = some w) : putK kvs k v = kvs.map fun kv => if kv.1 = k then (kv.1, v) else kv := by
  unfold putK
  rw [if_pos (by rw [valV_any, h]; rfl)]
theorem valT_mem {t : Tab} {n : Int} {ds : List PyData} (h : valT t n = some ds) : ∃ q ∈ t, q.2 = ds := by
  unfold valT at h
  cases e : t.find? fun p => decide (p.1 = n) with
  | none => rw [e] at h; cases h
  | some p =>
    rw [e] at h
    exact ⟨p, List.mem_of_find?_eq_some e, Option.some.inj h⟩
/-- a dict comprehension over what is walked -/
theorem dc_it {J : It} {n : Nat} {G : Hp → Prop} {Y : Nat → Hp → V → Hp → Prop} (wk : Walk J n G Y) {g : TG} {tt : TT} {tk tv : TE} {vs : List Nat} {σ : L2.St} {H1 : Hp} {D : Addr} {Qd : Hp → Prop} (Pv : Nat → Hp → Prop) (p0 : Pv 0 (upd H1 D (.dK []))) (pG : ∀ i H, i ≤ n → Pv i H → G H)
    (turn : ∀ i x H H', i < n → Pv i H → Y i H x H' → g x (wipe σ vs) H' fun σ2 H2 => wipe σ2 vs = wipe σ vs ∧ tt σ2 H2 fun b H3 =>
      if b = true then tk σ2 H3 fun y H4 => tv σ2 H4 fun z H5 => ∃ kvs k, y = kV k ∧ H5 D = some (.dK kvs) ∧ kvs.length < sizeLine ∧ Pv (i + 1) (upd H5 D (.dK (putK kvs k z))) else Pv (i + 1) H3) (pd : ∀ H, Pv n H → Qd H) :
    ∃ W : Nat → Nat → Hp → Prop, (∃ m, W 0 m (upd H1 D (.dK []))) ∧ ∀ i m H, W i m H →
      (J.stop i H ∧ Qd H) ∨ (J.go i H ∧ ∃ Nx : Hp → Prop, (∀ H', Nx H' → ∃ m', m' < m ∧ W (i + 1) m' H') ∧ ∀ x H', J.yld i H x H' → g x (wipe σ vs) H' fun σ2 H2 => wipe σ2 vs = wipe σ vs ∧ tt σ2 H2 fun b H3 =>
        if b = true then tk σ2 H3 fun y H4 => tv σ2 H4 fun z H5 => ∃ kvs k, y = kV k ∧ H5 D = some (.dK kvs) ∧ kvs.length < sizeLine ∧ Nx (upd H5 D (.dK (putK kvs k z))) else Nx H3) := by
  refine ⟨fun i m H => m = n - i ∧ i ≤ n ∧ Pv i H, ⟨n, by simp, Nat.zero_le _, p0⟩, ?_⟩
  rintro i m H ⟨rfl, hi, hp⟩
  have hg := pG i H hi hp
  rcases Nat.lt_or_ge i n with hlt | hge
  · exact .inr ⟨wk.goes i H hlt hg, Pv (i + 1), fun σ' p' => ⟨n - (i + 1), by omega, rfl, hlt, p'⟩, fun x H' y => turn i x H H' hlt hp (wk.yields i H x H' hlt hg y)⟩
  · obtain rfl : i = n := by omega
    exact .inl ⟨wk.stops H hg, pd H hp⟩
theorem TabK.get {K : PySem.W.Frag} {H : Hp} : ∀ {kvs : List (Key × V)} {t : Tab} {i : Nat} {kv : Key × V}, TabK K H kvs t → kvs[i]? = some kv → ∃ q, t[i]? = some q ∧ kv.1 = Sum.inl q.1 ∧ Dp K H kv.2 (.tuple q.2)
  | [], [], i, kv, _, h => by simp at h
  | [], _ :: _, _, _, h, _ => h.elim
  | _ :: _, [], _, _, h, _ => h.elim
  | p :: kvs, q :: t, 0, kv, h, e => by
    rw [List.getElem?_cons_zero] at e
    cases e
    exact ⟨q, rfl, h.1, h.2.1⟩
  | p :: kvs, q :: t, i + 1, kv, h, e => by
    rw [List.getElem?_cons_succ] at e
    obtain ⟨q', h1, h2⟩ := TabK.get h.2.2 e
    exact ⟨q', by rw [List.getElem?_cons_succ]; exact h1, h2⟩
theorem valT_notin {t : Tab} {n : Int} (h : n ∉ t.map (·.1)) : valT t n = none := by
  unfold valT
  rw [Option.map_eq_none_iff, List.find?_eq_none]
  exact fun q hq e => h (List.mem_map.mpr ⟨q, hq, of_decide_eq_true e⟩)
theorem TabK.none {K : PySem.W.Frag} {H : Hp} {kvs : List (Key × V)} {t : Tab} {n : Int} (T : TabK K H kvs t) (h : n ∉ t.map (·.1)) : valV kvs (Sum.inl n) = Option.none := by
  rcases TabK.val n T with ⟨w, _⟩ | ⟨v, ds, _, w, _⟩
  · exact w
  · rw [valT_notin h] at w; cases w
theorem TabK.some {K : PySem.W.Frag} {H : Hp} {kvs : List (Key × V)} {t : Tab} {n : Int} (T : TabK K H kvs t) (h : n ∈ t.map (·.1)) : (valV kvs (Sum.inl n)).isSome = true := by
  obtain ⟨q, hq, rfl⟩ := List.mem_map.mp h
  rcases TabK.val q.1 T with ⟨_, w⟩ | ⟨v, ds, w, _, _⟩
  · exact absurd rfl (valT_none w q hq)
  · rw [w]; rfl
/-- a key that is new goes to the end -/
theorem TabK.add {K : PySem.W.Frag} {H : Hp} {kvs : List (Key × V)} {t : Tab} {n : Int} {v : V} {ds : List PyData} (T : TabK K H kvs t) (h : n ∉ t.map (·.1)) (hd : Dp K H v (.tuple ds)) : TabK K H (putK kvs (Sum.inl n) v) (t ++ [(n, ds)]) := by
  rw [putK_new _ (T.none h)]
  exact TabK.snoc hd T
/-- the i-th key is none of those before -/
theorem nodup_new {t : Tab} {i : Nat} {q : Int × List PyData} (h : (t.map (·.1)).Nodup) (hq : t[i]? = some q) : q.1 ∉ (t.take i).map (·.1) := by
  intro hm
  obtain ⟨x, hx, e⟩ := List.mem_map.mp hm
  obtain ⟨j, hj⟩ := List.getElem?_of_mem hx
  have hji : j < i := by
    have := (List.getElem?_eq_some_iff.mp hj).1
    rw [List.length_take] at this
    omega
  rw [List.getElem?_take_of_lt hji] at hj
  have a1 : (t.map (·.1))[j]? = some q.1 := by rw [List.getElem?_map, hj, ← e]; rfl
  have a2 : (t.map (·.1))[i]? = some q.1 := by rw [List.getElem?_map, hq]; rfl
  have b1 := (List.getElem?_eq_some_iff.mp a1).1
  have := (List.getElem?_inj b1 h).mp (a1.trans a2.symm)
  omega
/-! ### substitutions -/
def varN (n : Int) : List PyData := [.tuple [.str "v", .int n]]
def appN (t : Tab) (d : PyData) : List PyData := if isVarN d = true then (match valT t (numN d) with | some w => w | none => [d]) else [d]
def appM (t : Tab) (ds : List PyData) : List PyData := ds.flatMap (appN t)
/-- a value that is the key itself falls out -/
def keepN (n : Int) (w : List PyData) : Option (List PyData) := if PyData.eqv (.tuple w) (.tuple (varN n)) = true then none else some w
def compV (t u : Tab) (n : Int) : Option (List PyData) :=
  match valT t n with
  | some w => keepN n (appM u w)
  | none => (match valT u n with | some w => keepN n w | none => none)
theorem var_form {d : PyData} (h : NdA d) (v : isVarN d = true) : ∃ n, d = .tuple [.str "v", .int n] := by
  obtain ⟨wd, nd⟩ := h
  cases nd with
  | v n _ _ => exact ⟨n, rfl⟩
  | i n _ _ => cases v
  | f x n _ _ _ => cases v
theorem var_nd {n : Int} (h : 0 ≤ n) : ∀ d ∈ varN n, NdA d := fun d hd => ⟨n + 1, by rw [List.mem_singleton.mp hd]; exact .v n h (by omega)⟩
theorem valT_nd {t : Tab} {n : Int} {w : List PyData} (ht : TabN t) (h : valT t n = some w) : ∀ d ∈ w, NdA d := by
  obtain ⟨q, hq, e⟩ := valT_mem h
  rw [← e]
  exact ht q hq
theorem appN_nd {t : Tab} (ht : TabN t) {d : PyData} (hd : NdA d) : ∀ e ∈ appN t d, NdA e := by
  unfold appN
  by_cases v : isVarN d = true
  · rw [if_pos v]
    cases e : valT t (numN d) with
    | some w => exact valT_nd ht e
    | none => exact fun e he => by rw [List.mem_singleton.mp he]; exact hd
  · rw [if_neg v]
    exact fun e he => by rw [List.mem_singleton.mp he]; exact hd
theorem appM_nd {t : Tab} (ht : TabN t) {ds : List PyData} (hd : ∀ d ∈ ds, NdA d) : ∀ e ∈ appM t ds, NdA e := fun e he => by
  obtain ⟨d, h1, h2⟩ := List.mem_flatMap.mp he
  exact appN_nd ht (hd d h1) e h2
theorem var_num {d : PyData} (h : NdA d) (v : isVarN d = true) : ∃ n, 0 ≤ n ∧ d = .tuple [.str "v", .int n] := by
  obtain ⟨wd, nd⟩ := h
  cases nd with
  | v n h1 _ => exact ⟨n, h1, rfl⟩
  | i n _ _ => cases v
  | f x n _ _ _ => cases v
theorem comp_app {t u c : Tab} (nt : TabN t) (nu : TabN u) (hc : ∀ n, valT c n = compV t u n) {ds : List PyData} (nd : ∀ d ∈ ds, NdA d) : appM c ds = appM u (appM t ds) := by
  unfold appM
  rw [List.flatMap_assoc]
  have h : ∀ d ∈ ds, appN c d = (appN t d).flatMap (appN u) := by
    intro d hd
    by_cases v : isVarN d = true
    · obtain ⟨n, n0, rfl⟩ := var_num (nd d hd) v
      have e1 : ∀ s : Tab, appN s (.tuple [.str "v", .int n]) = (match valT s n with | some w => w | none => varN n) := fun s => by
        unfold appN
        rw [if_pos v]
        rfl
      rw [e1, e1, hc n]
      unfold compV
      cases ht : valT t n with
      | some w =>
        simp only
        unfold keepN
        by_cases hk : PyData.eqv (.tuple (appM u w)) (.tuple (varN n)) = true
        · rw [if_pos hk]
          exact (tup_eq (appM_nd nu (valT_nd nt ht)) (var_nd n0) hk).symm
        · rw [if_neg hk]
          rfl
      | none =>
        simp only
        have e2 : (varN n).flatMap (appN u) = (match valT u n with | some w => w | none => varN n) := by
          unfold varN
          rw [List.flatMap_cons, List.flatMap_nil, List.append_nil]
          exact e1 u
        rw [e2]
        cases hu : valT u n with
        | some w =>
          simp only
          unfold keepN
          by_cases hk : PyData.eqv (.tuple w) (.tuple (varN n)) = true
          · rw [if_pos hk]
            exact (tup_eq (valT_nd nu hu) (var_nd n0) hk).symm
          · rw [if_neg hk]
        | none => rfl
    · have e3 : ∀ s : Tab, appN s d = [d] := fun s => if_neg v
      rw [e3, e3, List.flatMap_cons, List.flatMap_nil, List.append_nil, e3]
  clear hc
  induction ds with
  | nil => rfl
  | cons d r ih =>
    rw [List.flatMap_cons, List.flatMap_cons, h d List.mem_cons_self, ih (fun x hx => nd x (List.mem_cons_of_mem _ hx)) fun x hx => h x (List.mem_cons_of_mem _ hx)]
theorem appM_take {t : Tab} {ds : List PyData} {i : Nat} {d : PyData} (h : ds[i]? = some d) : appM t (ds.take (i + 1)) = appM t (ds.take i) ++ appN t d := by
  unfold appM
  rw [List.take_add_one, h, List.flatMap_append]
  show _ ++ (appN t d ++ []) = _
  rw [List.append_nil]
theorem appN_non {t : Tab} {d : PyData} (v : ¬ isVarN d = true) : appN t d = [d] := if_neg v
theorem appN_out {t : Tab} {n : Int} (h : valT t n = none) : appN t (.tuple [.str "v", .int n]) = [.tuple [.str "v", .int n]] := by
  unfold appN
  rw [if_pos (show isVarN (.tuple [.str "v", .int n]) = true from rfl), show numN (.tuple [.str "v", .int n]) = n from rfl, h]
theorem appN_in {t : Tab} {n : Int} {w : List PyData} (h : valT t n = some w) : appN t (.tuple [.str "v", .int n]) = w := by
  unfold appN
  rw [if_pos (show isVarN (.tuple [.str "v", .int n]) = true from rfl), show numN (.tuple [.str "v", .int n]) = n from rfl, h]
/-- the composed table: the first one's values with the second applied, then what the second adds, without a key that is its own value -/
def comp1 (t u : Tab) : Tab := t.map fun x => (x.1, appM u x.2)
def newK (t : Tab) (x : Int × List PyData) : Bool := !(decide (x.1 ∈ t.map (·.1)))
def notOwn (x : Int × List PyData) : Bool := !PyData.eqv (.tuple x.2) (.tuple (varN x.1))
def compT (t u : Tab) : Tab := (comp1 t u ++ u.filter (newK t)).filter notOwn
theorem comp1_keys (t u : Tab) : (comp1 t u).map (·.1) = t.map (·.1) := by unfold comp1; rw [List.map_map]; rfl
theorem comp1_nd {t u : Tab} (ht : TabN t) (hu : TabN u) : TabN (comp1 t u) := fun x hx => by
  obtain ⟨q, h1, rfl⟩ := List.mem_map.mp hx
  exact appM_nd hu (ht q h1)
/-! ### walks, ints, picks -/
theorem walk_gen {J : It} {n : Nat} {G : Hp → Prop} {Y : Nat → Hp → V → Hp → Prop} (wk : Walk J n G Y) {B : V → Hp → (Hp → Prop) → Prop} {H0 : Hp} {Qd : Hp → Prop} (Pv : Nat → Hp → Prop) (p0 : Pv 0 H0) (pG : ∀ i H, i ≤ n → Pv i H → G H)
    (turn : ∀ i x H H', i < n → Pv i H → Y i H x H' → B x H' (Pv (i + 1))) (pd : ∀ H, Pv n H → Qd H) :
    ∃ W : Nat → Nat → Hp → Prop, (∃ m, W 0 m H0) ∧ ∀ i m H, W i m H → (J.stop i H ∧ Qd H) ∨ (J.go i H ∧ ∃ Nx : Hp → Prop, (∀ H', Nx H' → ∃ m', m' < m ∧ W (i + 1) m' H') ∧ ∀ x H', J.yld i H x H' → B x H' Nx) := by
  refine ⟨fun i m H => m = n - i ∧ i ≤ n ∧ Pv i H, ⟨n, by simp, Nat.zero_le _, p0⟩, ?_⟩
  rintro i m H ⟨rfl, hi, hp⟩
  have hg := pG i H hi hp
  rcases Nat.lt_or_ge i n with hlt | hge
  · exact .inr ⟨wk.goes i H hlt hg, Pv (i + 1), fun σ' p' => ⟨n - (i + 1), by omega, rfl, hlt, p'⟩, fun x H' y => turn i x H H' hlt hp (wk.yields i H x H' hlt hg y)⟩
  · obtain rfl : i = n := by omega
    exact .inl ⟨wk.stops H hg, pd H hp⟩
theorem ints_lay : ∀ (ns : List Int), PyData.canLayAll0 (ns.map PyData.int) = true ∧ PyData.depthAll (ns.map PyData.int) = 0 ∧ PyData.eqvAll (ns.map PyData.int) (ns.map PyData.int) = true
  | [] => ⟨by simp [PyData.canLayAll0], by simp [PyData.depthAll], by simp [PyData.eqvAll]⟩
  | n :: ns => by
    obtain ⟨a, b, c⟩ := ints_lay ns
    rw [List.map_cons]
    refine ⟨by simp only [PyData.canLayAll0, PyData.canLay0, a, Bool.and_self], ?_, by simp only [PyData.eqvAll, PyData.eqv, c, beq_self_eq_true, Bool.and_self]⟩
    simp only [PyData.depthAll, PyData.depth, b]
    rfl
theorem ints_shaped (ns : List Int) : SeqAt.shaped (.list (ns.map PyData.int)) = true := by
  obtain ⟨a, b, _⟩ := ints_lay ns
  have hd : (PyData.list (ns.map PyData.int)).depth ≤ 64 := by simp only [PyData.depth, b]; decide
  have hc : (PyData.list (ns.map PyData.int)).canLay0 = true := by simp only [PyData.canLay0]; exact a
  show ((PyData.list (ns.map PyData.int)).canLay0 && decide ((PyData.list (ns.map PyData.int)).depth ≤ 64)) = true
  rw [hc, decide_eq_true hd]
  rfl
theorem ints_eqv (ns : List Int) : PyData.eqv (.list (ns.map PyData.int)) (.list (ns.map PyData.int)) = true := by
  simp only [PyData.eqv]
  exact (ints_lay ns).2.2
theorem dp_ints {K : PySem.W.Frag} {H : Hp} : ∀ ns : List Int, DpAll K H (ns.map V.int) (ns.map PyData.int)
  | [] => .nil
  | n :: r => .cons (.int n) (dp_ints r)
theorem lit_pick {K : PySem.W.Frag} {G : Addr → Prop} {H : Hp} {xs : List V} {names : List Str} {r : Int} (a : ImAll K G H xs (names.map PyData.str)) (r0 : 0 ≤ r) (r1 : r < (names.length : Int)) : ∃ x, x ∈ names ∧ atI xs r = some (.str x) := by
  have hr : r.toNat < names.length := by omega
  have hd : (names.map PyData.str)[r.toNat]? = some (.str names[r.toNat]) := by
    rw [List.getElem?_map, List.getElem?_eq_getElem hr]
    rfl
  obtain ⟨v, hv, iv⟩ := ImAll.get a hd
  cases iv
  exact ⟨_, List.getElem_mem hr, at_of (j := r.toNat) (by omega) hv⟩
theorem ixN_nat {n j : Nat} (h : j < n) : ixN n (j : Int) = some j := by
  unfold ixN
  rw [if_pos (by omega), if_pos (by omega), Int.toNat_natCast]
theorem dp_snoc {K : PySem.W.Frag} {H : Hp} : ∀ {B : List V} {v : V} {es : List PyData}, DpAll K H (B ++ [v]) es → ∃ E e, es = E ++ [e] ∧ DpAll K H B E ∧ Dp K H v e
  | [], v, _, h => by
    cases h with
    | cons h1 h2 =>
      cases h2
      exact ⟨[], _, rfl, .nil, h1⟩
  | b :: B, v, _, h => by
    cases h with
    | cons h1 h2 =>
      obtain ⟨E, e, rfl, a, c⟩ := dp_snoc h2
      exact ⟨_ :: E, e, rfl, .cons h1 a, c⟩
theorem int_pick {K : PySem.W.Frag} {G : Addr → Prop} {H : Hp} {xs : List V} {is : List Int} {r : Int} (a : ImAll K G H xs (is.map PyData.int)) (r0 : 0 ≤ r) (r1 : r < (is.length : Int)) : ∃ x, x ∈ is ∧ atI xs r = some (.int x) := by
  have hr : r.toNat < is.length := by omega
  have hd : (is.map PyData.int)[r.toNat]? = some (.int is[r.toNat]) := by
    rw [List.getElem?_map, List.getElem?_eq_getElem hr]
    rfl
  obtain ⟨v, hv, iv⟩ := ImAll.get a hd
  cases iv
  exact ⟨_, List.getElem_mem hr, at_of (j := r.toNat) (by omega) hv⟩
/-! ### small things that many proofs want -/
theorem dp_tup {K : PySem.W.Frag} {H : Hp} {v : V} {ds : List PyData} (h : Dp K H v (.tuple ds)) : ∃ a xs, v = .ref a ∧ SqT K H a xs ∧ DpAll K H xs ds := by
  cases h with
  | tup s a => exact ⟨_, _, rfl, s, a⟩
theorem dp_lst {K : PySem.W.Frag} {H : Hp} {v : V} {ds : List PyData} (h : Dp K H v (.list ds)) : ∃ a xs, v = .ref a ∧ SqL K H a xs ∧ DpAll K H xs ds := by
  cases h with
  | lst s a => exact ⟨_, _, rfl, s, a⟩
theorem keep_frz {H H' : Hp} {p : Addr} {k : List (Key × V)} (hp : H p = some (.dK k)) {o : HO} (s : Same (upd H p o) H') : Same H (upd H' p (.dK k)) := fun b o e => by
  by_cases z : b = p
  · subst z
    rw [hp] at e
    rw [upd_same]
    exact e
  · rw [upd_ne z]
    exact s b o (by rw [upd_ne z]; exact e)
theorem same_sqL {K : PySem.W.Frag} {H H' : Hp} {a : Addr} {xs : List V} (e : Same H H') (h : SqL K H a xs) : SqL K H' a xs := e.seq h
/-- a new object does not spoil what stood before the call -/
theorem same_new {H H' : Hp} {p : Addr} {o : HO} (np : H p = Option.none) (s : Same H H') : Same H (upd H' p o) := fun b u e => by rw [upd_ne (ne_of_none e np)]; exact s b u e
theorem noLA_of : ∀ {ds : List PyData}, (∀ d ∈ ds, noL d = true) → noLA ds = true
  | [], _ => by simp [noLA]
  | d :: r, h => by rw [noLA, h d (.head _), noLA_of fun e he => h e (.tail _ he)]; rfl
theorem isi_of {K : PySem.W.Frag} {H : Hp} {x : V} {t u : String} {b : Bool} {Q : VK} (h : TyX K H x (.type t)) (k : kitB t u = some b) (q : Q (.bl b) H) : rIsi K [x, .ty u] H Q := ⟨x, .ty u, _, _, _, rfl, .ty _, h, kit_ty k, q⟩
theorem kit_tt : kitB "tuple" "tuple" = some true := by decide +kernel
theorem kit_dd : kitB "dict" "dict" = some true := by decide +kernel
theorem kit_ll : kitB "list" "list" = some true := by decide +kernel
theorem kit_ib : kitB "int" "bool" = some false := by decide +kernel
theorem eqs_tup {K : PySem.W.Frag} {H : Hp} {E : V → V → Prop} {a b : Addr} {xs ys : List V} (h1 : SqT K H a xs) (h2 : SqT K H b ys) (h : Paired E xs ys) : EqS K H E (.ref a) (.ref b) := .inr ⟨a, b, xs, ys, rfl, rfl, h1, h2, h⟩
theorem eqs_dict {K : PySem.W.Frag} {H : Hp} {E : V → V → Prop} {a b : Addr} {ks ls : List (Key × V)} (h1 : H a = some (.dK ks)) (h2 : H b = some (.dK ls)) (hl : ks.length = ls.length) (h : ∀ p ∈ ks, ∃ u, valV ls p.1 = some u ∧ E p.2 u) : EqS K H E (.ref a) (.ref b) := .inl (.inr ⟨a, b, ks, ls, rfl, rfl, h1, h2, hl, h⟩)
theorem eqw_s {K : PySem.W.Frag} {H : Hp} {n : Nat} {x y : V} (h : EqS K H (EqW K H n) x y) : EqW K H (n + 1) x y := .inr (.inr h)
theorem eqw_d {K : PySem.W.Frag} {H : Hp} {n : Nat} {x y : V} {d : PyData} (h1 : Dp K H x d) (h2 : Dp K H y d) (s : SeqAt.shaped d = true) (e : PyData.eqv d d = true) : EqW K H (n + 1) x y := .inl ⟨d, d, h1, h2, s, s, e⟩
theorem eqw_i {K : PySem.W.Frag} {H : Hp} {n : Nat} (i : Int) : EqW K H (n + 1) (.int i) (.int i) := eqw_d (.int i) (.int i) (by show (PyData.canLay0 (.int i) && decide ((PyData.int i).depth ≤ 64)) = true; simp [PyData.canLay0, PyData.depth]) (by simp [PyData.eqv])
/-! ### heaps of cells -/
def refD (j : Nat) : PyData := .tuple [.str "ref", .int (j : Int)]
def strD (j : Nat) : PyData := .tuple [.str "str", .int (j : Int)]
def symD (x : Str) (k : Nat) : PyData := .tuple [.str "f", .str x, .int (k : Int)]
inductive CellD (n : Nat) : PyData → Prop
  | int (z : Int) : -(10 ^ 40) < z → z < 10 ^ 40 → CellD n (.int z)
  | ref (j : Nat) : j < n → CellD n (refD j)
  | str (j : Nat) : j < n → CellD n (strD j)
  | sym (x : Str) (k : Nat) : okName x = true → k ≤ 8 → CellD n (symD x k)
def sucN : PyData → Nat → List Nat
  | .tuple [_, .int j], _ => [j.toNat]
  | .tuple [_, _, .int k], i => (List.range k.toNat).map fun m => i + 1 + m
  | _, _ => []
def rootN : PyData → List Nat
  | .tuple [_, .int j] => [j.toNat]
  | _ => []
def isSy : PyData → Bool
  | .tuple [_, _, .int k] => decide (0 < k)
  | _ => false
structure RootD (cs : List PyData) (d : PyData) : Prop where
  cell : CellD cs.length d
  nsy : isSy d = false
  str : ∀ j, d = strD j → ∃ c, cs[j]? = some c ∧ isSy c = true
  ref : ∀ j, d = refD j → ∃ c, cs[j]? = some c ∧ isSy c = false
structure Wf (cs : List PyData) : Prop where
  good : ∀ d ∈ cs, isSy d = false → RootD cs d
  cell : ∀ d ∈ cs, CellD cs.length d
  sym : ∀ i x k, cs[i]? = some (symD x k) → ∀ m, m < k → ∃ c, cs[i + 1 + m]? = some c ∧ isSy c = false
theorem suc_ref (j i : Nat) : sucN (refD j) i = [j] := by simp [refD, sucN]
theorem suc_str (j i : Nat) : sucN (strD j) i = [j] := by simp [strD, sucN]
theorem suc_int (z : Int) (i : Nat) : sucN (.int z) i = [] := by simp [sucN]
theorem suc_sym (x : Str) (k i : Nat) : sucN (symD x k) i = (List.range k).map fun m => i + 1 + m := by simp [symD, sucN]
theorem root_ref (j : Nat) : rootN (refD j) = [j] := by simp [refD, rootN]
theorem root_str (j : Nat) : rootN (strD j) = [j] := by simp [strD, rootN]
theorem root_int (z : Int) : rootN (.int z) = [] := by simp [rootN]
theorem root_sym (x : Str) (k : Nat) : rootN (symD x k) = [] := by simp [symD, rootN]
theorem suc_low {cs : List PyData} (h : Wf cs) {i : Nat} {d : PyData} (hd : cs[i]? = some d) : ∀ j ∈ sucN d i, j < cs.length := by
  intro j hj
  have hc := h.cell d (List.mem_of_getElem? hd)
  cases hc with
  | int z _ _ => rw [suc_int] at hj; cases hj
  | ref k hk => rw [suc_ref, List.mem_singleton] at hj; omega
  | str k hk => rw [suc_str, List.mem_singleton] at hj; omega
  | sym x k _ _ =>
    rw [suc_sym] at hj
    obtain ⟨m, hm, rfl⟩ := List.mem_map.mp hj
    obtain ⟨c, hc, _⟩ := h.sym i x k hd m (List.mem_range.mp hm)
    exact (List.getElem?_eq_some_iff.mp hc).1
def Clo (cs rs : List PyData) (S : Nat → Prop) : Prop := (∀ r ∈ rs, ∀ j ∈ rootN r, S j) ∧ ∀ i d, cs[i]? = some d → S i → ∀ j ∈ sucN d i, S j
def mkd (mk : List Bool) (i : Nat) : Prop := mk[i]? = some true
def Least (cs rs : List PyData) (mk : List Bool) : Prop := mk.length = cs.length ∧ Clo cs rs (mkd mk) ∧ ∀ S, Clo cs rs S → ∀ i, mkd mk i → S i
theorem least_eq {cs rs : List PyData} {m1 m2 : List Bool} (h1 : Least cs rs m1) (h2 : Least cs rs m2) : m1 = m2 := by
  apply List.ext_getElem?
  intro i
  obtain ⟨l1, c1, d1⟩ := h1
  obtain ⟨l2, c2, d2⟩ := h2
  have a := d1 _ c2 i
  have b := d2 _ c1 i
  unfold mkd at a b
  by_cases hi : i < cs.length
  · have e1 := List.getElem?_eq_getElem (l := m1) (i := i) (by omega)
    have e2 := List.getElem?_eq_getElem (l := m2) (i := i) (by omega)
    rw [e1, e2] at *
    cases x : m1[i] <;> cases y : m2[i] <;> simp_all
  · rw [List.getElem?_eq_none (by omega), List.getElem?_eq_none (by omega)]
structure MkInv (cs rs : List PyData) (mk : List Bool) (W : Nat → Prop) : Prop where
  len : mk.length = cs.length
  low : ∀ j, W j → j < cs.length
  sound : ∀ S, Clo cs rs S → (∀ i, mkd mk i → S i) ∧ ∀ j, W j → S j
  roots : ∀ r ∈ rs, ∀ j ∈ rootN r, mkd mk j ∨ W j
  sucs : ∀ i d, cs[i]? = some d → mkd mk i → ∀ j ∈ sucN d i, mkd mk j ∨ W j
theorem inv_skip {cs rs : List PyData} {mk : List Bool} {W W' : Nat → Prop} (h : MkInv cs rs mk W) (h1 : ∀ j, W j → W' j ∨ mkd mk j) (h2 : ∀ j, W' j → W j) : MkInv cs rs mk W' :=
  ⟨h.len, fun j w => h.low j (h2 j w), fun S hS => ⟨(h.sound S hS).1, fun j w => (h.sound S hS).2 j (h2 j w)⟩,
   fun r hr j hj => (h.roots r hr j hj).elim .inl fun w => (h1 j w).symm, fun i d hd hi j hj => (h.sucs i d hd hi j hj).elim .inl fun w => (h1 j w).symm⟩
theorem mkd_set {mk : List Bool} {w : Nat} (hw : w < mk.length) (i : Nat) : mkd (mk.set w true) i ↔ i = w ∨ mkd mk i := by
  unfold mkd
  by_cases e : i = w
  · subst e
    simp [hw]
  · rw [List.getElem?_set_ne (fun z => e z.symm)]
    simp [e]
theorem inv_visit {cs rs : List PyData} {mk : List Bool} {W W' : Nat → Prop} {w : Nat} {d : PyData} (hwf : Wf cs) (h : MkInv cs rs mk W) (hw : W w) (hd : cs[w]? = some d)
    (h1 : ∀ j, W j → W' j ∨ j = w) (h2 : ∀ j ∈ sucN d w, W' j ∨ mkd (mk.set w true) j) (h3 : ∀ j, W' j → W j ∨ j ∈ sucN d w) : MkInv cs rs (mk.set w true) W' := by
  have hl : w < mk.length := by rw [h.len]; exact h.low w hw
  have up : ∀ j, mkd mk j ∨ W j → mkd (mk.set w true) j ∨ W' j := fun j z => by
    rcases z with z | z
    · exact .inl ((mkd_set hl j).mpr (.inr z))
    · rcases h1 j z with z | z
      · exact .inr z
      · exact .inl ((mkd_set hl j).mpr (.inl z))
  refine ⟨by rw [List.length_set]; exact h.len, fun j z => ?_, fun S hS => ?_, fun r hr j hj => up j (h.roots r hr j hj), fun i e he hi j hj => ?_⟩
  · rcases h3 j z with z | z
    · exact h.low j z
    · exact suc_low hwf hd j z
  · obtain ⟨a, b⟩ := h.sound S hS
    refine ⟨fun i hi => ?_, fun j z => ?_⟩
    · rcases (mkd_set hl i).mp hi with z | z
      · rw [z]; exact b w hw
      · exact a i z
    · rcases h3 j z with z | z
      · exact b j z
      · exact hS.2 w d hd (b w hw) j z
  · rcases (mkd_set hl i).mp hi with z | z
    · subst z
      rw [hd] at he
      cases he
      exact (h2 j hj).symm
    · exact up j (h.sucs i e he z j hj)
theorem inv_done {cs rs : List PyData} {mk : List Bool} {W : Nat → Prop} (h : MkInv cs rs mk W) (n : ∀ j, ¬ W j) : Least cs rs mk :=
  ⟨h.len, ⟨fun r hr j hj => (h.roots r hr j hj).elim id fun z => absurd z (n j), fun i d hd hi j hj => (h.sucs i d hd hi j hj).elim id fun z => absurd z (n j)⟩, fun S hS => (h.sound S hS).1⟩
theorem inv_start {cs rs : List PyData} {W : Nat → Prop} (hl : ∀ j, W j → j < cs.length) (h : ∀ j, W j ↔ ∃ r ∈ rs, j ∈ rootN r) : MkInv cs rs (List.replicate cs.length false) W := by
  have no : ∀ i, ¬ mkd (List.replicate cs.length false) i := fun i z => by
    unfold mkd at z
    rw [List.getElem?_replicate] at z
    by_cases hi : i < cs.length
    · rw [if_pos hi] at z; cases z
    · rw [if_neg hi] at z; cases z
  exact ⟨List.length_replicate, hl, fun S hS => ⟨fun i z => absurd z (no i), fun j z => by obtain ⟨r, hr, hj⟩ := (h j).mp z; exact hS.1 r hr j hj⟩, fun r hr j hj => .inr ((h j).mpr ⟨r, hr, hj⟩), fun i d _ z => absurd z (no i)⟩
def unm (mk : List Bool) : Nat := (mk.filter fun b => !b).length
theorem unm_rep : ∀ n : Nat, unm (List.replicate n false) = n
  | 0 => rfl
  | n + 1 => by
    rw [List.replicate_succ]
    show (false :: (List.replicate n false).filter fun b => !b).length = n + 1
    rw [List.length_cons]
    exact congrArg (· + 1) (unm_rep n)
theorem unm_set : ∀ (mk : List Bool) (w : Nat), mk[w]? = some false → unm (mk.set w true) + 1 = unm mk
  | [], w, h => by simp at h
  | b :: r, 0, h => by
    simp at h
    subst h
    rfl
  | b :: r, w + 1, h => by
    have ih := unm_set r w (by simpa using h)
    rw [List.set_cons_succ]
    unfold unm at ih ⊢
    cases b with
    | true => exact ih
    | false =>
      show (((r.set w true).filter fun b => !b).length + 1) + 1 = ((r.filter fun b => !b).length + 1)
      rw [ih]
def resN (mk : List Bool) (i : Nat) : List Nat := (List.range i).filter fun j => mk[j]? == some true
theorem resN_succ (mk : List Bool) (i : Nat) : resN mk (i + 1) = resN mk i ++ (if mk[i]? = some true then [i] else []) := by
  unfold resN
  rw [List.range_succ, List.filter_append]
  congr 1
  by_cases h : mk[i]? = some true
  · rw [if_pos h]
    simp [h]
  · rw [if_neg h]
    simp [h]
theorem resN_len (mk : List Bool) (i : Nat) : (resN mk i).length ≤ i := by
  have := List.length_filter_le (fun j => mk[j]? == some true) (List.range i)
  rw [List.length_range] at this
  exact this
def resD (mk : List Bool) : List PyData := (resN mk mk.length).map fun (j : Nat) => PyData.int (j : Int)
theorem resD_ints (mk : List Bool) : resD mk = ((resN mk mk.length).map fun (j : Nat) => (j : Int)).map PyData.int := by
  unfold resD
  rw [List.map_map]
  rfl
/-! ### pre-cells -/
def laterD (r : Nat) : PyData := .tuple [.str "later", .int (r : Int)]
inductive PreC (i : Nat) : PyData → Prop
  | self : PreC i (refD i)
  | int (z : Int) : -(10 ^ 40) < z → z < 10 ^ 40 → PreC i (.int z)
  | later (r : Nat) : PreC i (laterD r)
  | sym (x : Str) (k : Nat) : okName x = true → k ≤ 8 → PreC i (symD x k)
structure PreWf (ps : List PyData) : Prop where
  cell : ∀ i d, ps[i]? = some d → PreC i d
  sym : ∀ i x k, ps[i]? = some (symD x k) → ∀ m, m < k → ∃ r, ps[i + 1 + m]? = some (laterD r)
theorem sy_ref (j : Nat) : isSy (refD j) = false := rfl
theorem sy_str (j : Nat) : isSy (strD j) = false := rfl
theorem sy_later (j : Nat) : isSy (laterD j) = false := rfl
theorem sy_int (z : Int) : isSy (.int z) = false := rfl
theorem sy_sym (x : Str) (k : Nat) : isSy (symD x k) = decide (0 < k) := by
  show decide ((0 : Int) < (k : Int)) = decide (0 < k)
  by_cases h : 0 < k
  · rw [decide_eq_true h, decide_eq_true (by omega)]
  · rw [decide_eq_false h, decide_eq_false (by omega)]
theorem sym_inj {x y : Str} {k m : Nat} (h : symD x k = symD y m) : x = y ∧ k = m := by
  unfold symD at h
  injection h with h
  injection h with _ h
  injection h with h1 h
  injection h with h2 _
  injection h1 with h1
  injection h2 with h2
  exact ⟨h1, by omega⟩
theorem sym_ref {x : Str} {k j : Nat} (h : symD x k = refD j) : False := by
  unfold symD refD at h
  injection h with h
  injection h with _ h
  injection h with _ h
  cases h
theorem sym_str {x : Str} {k j : Nat} (h : symD x k = strD j) : False := by
  unfold symD strD at h
  injection h with h
  injection h with _ h
  injection h with _ h
  cases h
theorem sym_later {x : Str} {k j : Nat} (h : symD x k = laterD j) : False := by
  unfold symD laterD at h
  injection h with h
  injection h with _ h
  injection h with _ h
  cases h
theorem ref_inj {j m : Nat} (h : refD j = refD m) : j = m := by
  unfold refD at h
  injection h with h
  injection h with _ h
  injection h with h _
  injection h with h
  omega
theorem str_inj {j m : Nat} (h : strD j = strD m) : j = m := by
  unfold strD at h
  injection h with h
  injection h with _ h
  injection h with h _
  injection h with h
  omega
theorem ref_str {j m : Nat} (h : refD j = strD m) : False := by
  unfold refD strD at h
  injection h with h
  injection h with h _
  injection h with h
  exact absurd h (by decide +kernel)
theorem pre_add1 {ps : List PyData} {d : PyData} (h : PreWf ps) (hc : PreC ps.length d) (hs : isSy d = false) : PreWf (ps ++ [d]) := by
  refine ⟨fun i e he => ?_, fun i x k he m hm => ?_⟩
  · by_cases c : i < ps.length
    · rw [List.getElem?_append_left c] at he
      exact h.cell i e he
    · rw [List.getElem?_append_right (by omega)] at he
      have hl := (List.getElem?_eq_some_iff.mp he).1
      rw [List.length_singleton] at hl
      obtain rfl : i = ps.length := by omega
      rw [Nat.sub_self] at he
      cases he
      exact hc
  · by_cases c : i < ps.length
    · rw [List.getElem?_append_left c] at he
      obtain ⟨r, hr⟩ := h.sym i x k he m hm
      exact ⟨r, by rw [List.getElem?_append_left (List.getElem?_eq_some_iff.mp hr).1]; exact hr⟩
    · rw [List.getElem?_append_right (by omega)] at he
      have hl := (List.getElem?_eq_some_iff.mp he).1
      rw [List.length_singleton] at hl
      obtain rfl : i = ps.length := by omega
      rw [Nat.sub_self] at he
      cases he
      rw [sy_sym, decide_eq_false_iff_not] at hs
      omega
theorem pre_addS {ps ls : List PyData} {x : Str} {k : Nat} (h : PreWf ps) (hx : okName x = true) (hk : k ≤ 8) (hl : ∀ d ∈ ls, ∃ r, d = laterD r) (hn : ls.length = k) : PreWf (ps ++ symD x k :: ls) := by
  have at_l : ∀ i e, (ps ++ symD x k :: ls)[ps.length + 1 + i]? = some e → ∃ r, e = laterD r := fun i e he => by
    rw [List.getElem?_append_right (by omega), show ps.length + 1 + i - ps.length = i + 1 by omega, List.getElem?_cons_succ] at he
    exact hl e (List.mem_of_getElem? he)
  refine ⟨fun i e he => ?_, fun i y n he m hm => ?_⟩
  · by_cases c : i < ps.length
    · rw [List.getElem?_append_left c] at he
      exact h.cell i e he
    · by_cases c2 : i = ps.length
      · subst c2
        rw [List.getElem?_append_right (Nat.le_refl _), Nat.sub_self] at he
        cases he
        exact .sym x k hx hk
      · obtain ⟨j, rfl⟩ : ∃ j, i = ps.length + 1 + j := ⟨i - ps.length - 1, by omega⟩
        obtain ⟨r, rfl⟩ := at_l j e he
        exact .later r
  · by_cases c : i < ps.length
    · rw [List.getElem?_append_left c] at he
      obtain ⟨r, hr⟩ := h.sym i y n he m hm
      exact ⟨r, by rw [List.getElem?_append_left (List.getElem?_eq_some_iff.mp hr).1]; exact hr⟩
    · by_cases c2 : i = ps.length
      · subst c2
        rw [List.getElem?_append_right (Nat.le_refl _), Nat.sub_self] at he
        obtain ⟨rfl, rfl⟩ := sym_inj (Option.some.inj he)
        obtain ⟨e, hel⟩ : ∃ e, ls[m]? = some e := ⟨_, List.getElem?_eq_getElem (by omega)⟩
        obtain ⟨r, rfl⟩ := hl e (List.mem_of_getElem? hel)
        refine ⟨r, ?_⟩
        rw [List.getElem?_append_right (by omega), show ps.length + 1 + m - ps.length = m + 1 by omega, List.getElem?_cons_succ]
        exact hel
      · obtain ⟨j, rfl⟩ : ∃ j, i = ps.length + 1 + j := ⟨i - ps.length - 1, by omega⟩
        obtain ⟨r, hr⟩ := at_l j _ he
        exact (sym_later hr).elim
def Sett (ps : List PyData) (d c : PyData) : Prop := ((∀ r, d ≠ laterD r) ∧ c = d) ∨ ((∃ r, d = laterD r) ∧ ((∃ j e, c = refD j ∧ ps[j]? = some e ∧ isSy e = false) ∨ ∃ j e, c = strD j ∧ ps[j]? = some e ∧ isSy e = true))
theorem sett_sy {ps : List PyData} {d c : PyData} (h : Sett ps d c) : isSy c = isSy d := by
  rcases h with ⟨_, rfl⟩ | ⟨⟨r, rfl⟩, ⟨j, e, rfl, _⟩ | ⟨j, e, rfl, _⟩⟩ <;> rfl
theorem sett_wf {ps cs : List PyData} (h : PreWf ps) (hl : cs.length = ps.length) (hs : ∀ (i : Nat) (d c : PyData), ps[i]? = some d → cs[i]? = some c → Sett ps d c) : Wf cs := by
  have get : ∀ (i : Nat) (d : PyData), ps[i]? = some d → ∃ c, cs[i]? = some c ∧ isSy c = isSy d := fun i d hd => by
    have hi := (List.getElem?_eq_some_iff.mp hd).1
    obtain ⟨c, hc⟩ : ∃ c, cs[i]? = some c := ⟨_, List.getElem?_eq_getElem (by omega)⟩
    exact ⟨c, hc, sett_sy (hs i d c hd hc)⟩
  have back : ∀ (i : Nat) (c : PyData), cs[i]? = some c → ∃ d, ps[i]? = some d ∧ Sett ps d c := fun i c hc => by
    have hi := (List.getElem?_eq_some_iff.mp hc).1
    obtain ⟨d, hd⟩ : ∃ d, ps[i]? = some d := ⟨_, List.getElem?_eq_getElem (by omega)⟩
    exact ⟨d, hd, hs i d c hd hc⟩
  have low : ∀ (j : Nat) (e : PyData), ps[j]? = some e → j < cs.length := fun j e he => by rw [hl]; exact (List.getElem?_eq_some_iff.mp he).1
  have cell : ∀ d ∈ cs, CellD cs.length d := fun c hc => by
    obtain ⟨i, hi⟩ := List.getElem?_of_mem hc
    obtain ⟨d, hd, s⟩ := back i c hi
    rcases s with ⟨n, rfl⟩ | ⟨_, ⟨j, e, rfl, he, _⟩ | ⟨j, e, rfl, he, _⟩⟩
    · have pc := h.cell i _ hd
      cases pc with
      | self => exact .ref i (low _ _ hd)
      | int z a b => exact .int z a b
      | later r => exact absurd rfl (n r)
      | sym x k a b => exact .sym x k a b
    · exact .ref j (low _ _ he)
    · exact .str j (low _ _ he)
  refine ⟨fun c hc hsy => ⟨cell c hc, hsy, fun j e => ?_, fun j e => ?_⟩, cell, fun i x k hi m hm => ?_⟩
  · subst e
    obtain ⟨i, hi⟩ := List.getElem?_of_mem hc
    obtain ⟨d, hd, s⟩ := back i _ hi
    rcases s with ⟨n, rfl⟩ | ⟨_, ⟨j2, e2, q, he, _⟩ | ⟨j2, e2, q, he, hsy2⟩⟩
    · have pc := h.cell i _ hd
      generalize e : strD j = d at pc
      cases pc with
      | self => exact (ref_str e.symm).elim
      | int z a b => cases e
      | later r => exact absurd e (n r)
      | sym x k a b => exact (sym_str e.symm).elim
    · exact (ref_str q.symm).elim
    · rw [str_inj q]
      obtain ⟨c2, hc2, q2⟩ := get j2 e2 he
      exact ⟨c2, hc2, q2.trans hsy2⟩
  · subst e
    obtain ⟨i, hi⟩ := List.getElem?_of_mem hc
    obtain ⟨d, hd, s⟩ := back i _ hi
    rcases s with ⟨n, rfl⟩ | ⟨_, ⟨j2, e2, q, he, hsy2⟩ | ⟨j2, e2, q, he, hsy2⟩⟩
    · have pc := h.cell i _ hd
      generalize e : refD j = d at pc
      cases pc with
      | self =>
        rw [ref_inj e]
        rw [e] at hi
        exact ⟨_, hi, rfl⟩
      | int z a b => cases e
      | later r => exact absurd e (n r)
      | sym x k a b => exact (sym_ref e.symm).elim
    · rw [ref_inj q]
      obtain ⟨c2, hc2, q2⟩ := get j2 e2 he
      exact ⟨c2, hc2, q2.trans hsy2⟩
    · exact (ref_str q).elim
  · obtain ⟨d, hd, s⟩ := back i _ hi
    rcases s with ⟨n, rfl⟩ | ⟨_, ⟨j2, e2, q, he, hsy2⟩ | ⟨j2, e2, q, he, hsy2⟩⟩
    · obtain ⟨r, hr⟩ := h.sym i x k hd m hm
      obtain ⟨c2, hc2, q2⟩ := get _ _ hr
      exact ⟨c2, hc2, q2⟩
    · exact (sym_ref q).elim
    · exact (sym_str q).elim
/-- any cell, settled or not -/
inductive AnyC : PyData → Prop
  | int (z : Int) : AnyC (.int z)
  | pair (w : Str) (j : Nat) : w ≠ "f" → AnyC (.tuple [.str w, .int (j : Int)])
  | sym (x : Str) (k : Nat) : AnyC (symD x k)
theorem cell_any {n : Nat} {d : PyData} (h : CellD n d) : AnyC d := by
  cases h with
  | int z _ _ => exact .int z
  | ref j _ => exact .pair "ref" j (by decide +kernel)
  | str j _ => exact .pair "str" j (by decide +kernel)
  | sym x k _ _ => exact .sym x k
theorem pre_any {n : Nat} {d : PyData} (h : PreC n d) : AnyC d := by
  cases h with
  | int z _ _ => exact .int z
  | self => exact .pair "ref" n (by decide +kernel)
  | later j => exact .pair "later" j (by decide +kernel)
  | sym x k _ _ => exact .sym x k
def isLk : PyData → Bool
  | .tuple [_, .int _] => true
  | _ => false
theorem cell_nd {n : Nat} {d : PyData} (h : CellD n d) (l : isLk d = false) : NdA d ∧ (isSy d = true → 0 < arN d) := by
  cases h with
  | int z a b => exact ⟨⟨0, .i z a b⟩, fun z => nomatch z⟩
  | ref j _ => cases l
  | str j _ => cases l
  | sym x k a b => exact ⟨⟨0, .f x _ a (by omega) (by omega)⟩, fun z => by rw [sy_sym] at z; exact of_decide_eq_true z⟩
theorem cell_lay {n : Nat} {d : PyData} (h : CellD n d) : d.canLay0 = true ∧ d.depth ≤ 1 ∧ d.eqv d = true ∧ noL d = true := by
  cases h with
  | int z a b => exact ⟨by simp only [PyData.canLay0], by simp [PyData.depth], by simp only [PyData.eqv, beq_self_eq_true], by simp [noL]⟩
  | ref j _ => exact ⟨by unfold refD; simp only [PyData.canLay0, PyData.canLayAll0]; decide +kernel, by simp [refD, PyData.depth, PyData.depthAll], by unfold refD; simp only [PyData.eqv, PyData.eqvAll, beq_self_eq_true, Bool.and_self], by simp [refD, noL, noLA]⟩
  | str j _ => exact ⟨by unfold strD; simp only [PyData.canLay0, PyData.canLayAll0]; decide +kernel, by simp [strD, PyData.depth, PyData.depthAll], by unfold strD; simp only [PyData.eqv, PyData.eqvAll, beq_self_eq_true, Bool.and_self], by simp [strD, noL, noLA]⟩
  | sym x k a b => exact ⟨by unfold symD; simp only [PyData.canLay0, PyData.canLayAll0]; rw [okName_cps a]; decide +kernel, by simp [symD, PyData.depth, PyData.depthAll], by unfold symD; simp only [PyData.eqv, PyData.eqvAll, beq_self_eq_true, Bool.and_self], by simp [symD, noL, noLA]⟩
theorem cells_lay {n : Nat} : ∀ {ds : List PyData}, (∀ d ∈ ds, CellD n d) → PyData.canLayAll0 ds = true ∧ PyData.depthAll ds ≤ 1 ∧ PyData.eqvAll ds ds = true ∧ noLA ds = true
  | [], _ => ⟨by simp [PyData.canLayAll0], by simp [PyData.depthAll], by simp [PyData.eqvAll], by simp [noLA]⟩
  | d :: r, h => by
    obtain ⟨a1, a2, a3, a4⟩ := cell_lay (h d List.mem_cons_self)
    obtain ⟨b1, b2, b3, b4⟩ := cells_lay (ds := r) fun e he => h e (List.mem_cons_of_mem _ he)
    refine ⟨by simp only [PyData.canLayAll0, a1, b1, Bool.and_self], ?_, by simp only [PyData.eqvAll, a3, b3, Bool.and_self], by simp only [noLA, a4, b4, Bool.and_self]⟩
    simp only [PyData.depthAll]
    omega
theorem cells_shaped {n : Nat} {ds : List PyData} (h : ∀ d ∈ ds, CellD n d) : SeqAt.shaped (.list ds) = true := by
  obtain ⟨a1, a2, _⟩ := cells_lay h
  have hd : (PyData.list ds).depth ≤ 64 := by
    simp only [PyData.depth]
    omega
  have hc : (PyData.list ds).canLay0 = true := by
    simp only [PyData.canLay0]
    exact a1
  show ((PyData.list ds).canLay0 && decide ((PyData.list ds).depth ≤ 64)) = true
  rw [hc, decide_eq_true hd]
  rfl
theorem cells_eqv {n : Nat} {ds : List PyData} (h : ∀ d ∈ ds, CellD n d) : PyData.eqv (.list ds) (.list ds) = true := by
  simp only [PyData.eqv]
  exact (cells_lay h).2.2.1
theorem rg_suc (j k : Nat) : rgV ((j : Int) + 1) ((j : Int) + (k : Int) + 1) = ((List.range k).map fun m => j + 1 + m).map fun (n : Nat) => V.int (n : Int) := by
  unfold rgV
  rw [show ((j : Int) + (k : Int) + 1 - ((j : Int) + 1)).toNat = k by omega, List.map_map]
  apply List.map_congr_left
  intro m _
  show V.int ((j : Int) + 1 + (m : Int)) = V.int ((j + 1 + m : Nat) : Int)
  rw [show ((j + 1 + m : Nat) : Int) = (j : Int) + 1 + (m : Int) by omega]
theorem suc_root {n : Nat} {d : PyData} (h : CellD n d) (hs : isSy d = false) (t : Nat) : sucN d t = rootN d := by
  cases h with
  | int z _ _ => rw [suc_int, root_int]
  | ref j _ => rw [suc_ref, root_ref]
  | str j _ => rw [suc_str, root_str]
  | sym x k _ _ =>
    rw [sy_sym, decide_eq_false_iff_not] at hs
    obtain rfl : k = 0 := by omega
    rw [suc_sym, root_sym]
    rfl
theorem sy_form {n : Nat} {d : PyData} (h : CellD n d) (hs : isSy d = true) : ∃ x k, d = symD x k ∧ 0 < k ∧ k ≤ 8 := by
  cases h with
  | int z _ _ => cases hs
  | ref j _ => cases hs
  | str j _ => cases hs
  | sym x k _ hk =>
    rw [sy_sym, decide_eq_true_eq] at hs
    exact ⟨x, k, rfl, hs, hk⟩
theorem root_form {cs : List PyData} {e : PyData} (h : RootD cs e) : (∃ z, e = .int z) ∨ (∃ x k, e = symD x k) ∨ ∃ (wd : Str) (t : Nat), e = .tuple [.str wd, .int (t : Int)] ∧ rootN e = [t] ∧ wd ≠ "f" ∧ t < cs.length ∧ ∃ c, cs[t]? = some c ∧ ((wd = "ref" ∧ isSy c = false) ∨ (wd = "str" ∧ isSy c = true)) := by
  have hc := h.cell
  cases hc with
  | int z _ _ => exact .inl ⟨z, rfl⟩
  | sym x k _ _ => exact .inr (.inl ⟨x, k, rfl⟩)
  | ref j hj =>
    obtain ⟨c, hc, hs⟩ := h.ref j rfl
    exact .inr (.inr ⟨"ref", j, rfl, root_ref j, by decide +kernel, hj, c, hc, .inl ⟨rfl, hs⟩⟩)
  | str j hj =>
    obtain ⟨c, hc, hs⟩ := h.str j rfl
    exact .inr (.inr ⟨"str", j, rfl, root_str j, by decide +kernel, hj, c, hc, .inr ⟨rfl, hs⟩⟩)
theorem pick_ab {y : Int} (h0 : 0 ≤ y) (h1 : y < 2) : ∃ c, atI (Str.ofString "ab").cps.toList y = some c ∧ okName ⟨#[c]⟩ = true := by
  have h : y = 0 ∨ y = 1 := by omega
  rcases h with rfl | rfl
  · exact ⟨97, by decide +kernel, by decide +kernel⟩
  · exact ⟨98, by decide +kernel, by decide +kernel⟩
theorem pick_fgh {y : Int} (h0 : 0 ≤ y) (h1 : y < 3) : ∃ c, atI (Str.ofString "fgh").cps.toList y = some c ∧ okName ⟨#[c]⟩ = true := by
  have h : y = 0 ∨ y = 1 ∨ y = 2 := by omega
  rcases h with rfl | rfl | rfl
  · exact ⟨102, by decide +kernel, by decide +kernel⟩
  · exact ⟨103, by decide +kernel, by decide +kernel⟩
  · exact ⟨104, by decide +kernel, by decide +kernel⟩
def selN (ps : List PyData) (b : Bool) (i : Nat) : List Nat := (List.range i).filter fun j => (ps[j]?).map isSy == some b
theorem selN_succ {ps : List PyData} (b : Bool) {i : Nat} {d : PyData} (h : ps[i]? = some d) : selN ps b (i + 1) = selN ps b i ++ (if isSy d = b then [i] else []) := by
  unfold selN
  rw [List.range_succ, List.filter_append]
  congr 1
  by_cases c : isSy d = b
  · rw [if_pos c]
    simp [h, c]
  · rw [if_neg c]
    simp [h, c]
theorem selN_len (ps : List PyData) (b : Bool) (i : Nat) : (selN ps b i).length ≤ i := by
  have := List.length_filter_le (fun j => (ps[j]?).map isSy == some b) (List.range i)
  rw [List.length_range] at this
  exact this
theorem selN_mem {ps : List PyData} {b : Bool} {i j : Nat} (h : j ∈ selN ps b i) : ∃ e, ps[j]? = some e ∧ isSy e = b := by
  have := (List.mem_filter.mp h).2
  cases hp : ps[j]? with
  | none => rw [hp] at this; simp at this
  | some e => rw [hp] at this; exact ⟨e, rfl, by simpa using this⟩
theorem selN_ne {ps : List PyData} {b : Bool} {i j : Nat} {d : PyData} (hi : j < i) (h : ps[j]? = some d) (hb : isSy d = b) : selN ps b i ≠ [] := by
  intro z
  have : j ∈ selN ps b i := List.mem_filter.mpr ⟨List.mem_range.mpr hi, by simp [h, hb]⟩
  rw [z] at this
  cases this
structure CellsOk (K : PySem.W.Frag) (H H' : Hp) (R s l : Addr) (vs : List V) (ps : List PyData) : Prop where
  eR : H' R = some (.lst vs)
  im : ImAll K (fun b => H b = Option.none ∧ b ≠ R) H' vs ps
  wf : PreWf ps
  len : ps.length ≤ 46
  st : Stm H' s l
  keep : ∀ b o, b ≠ s → H b = some o → H' b = some o
/-! ### the promises -/
def sp_is_symbol (K : PySem.W.Frag) : Sp := fun vs H Q _ => ∃ (x : V) (d : PyData), vs = [x] ∧ Dp K H x d ∧ NdA d ∧ Q (.bl (isSymN d)) H
def sp_arity_of (K : PySem.W.Frag) : Sp := fun vs H Q _ => ∃ (x : V) (d : PyData), vs = [x] ∧ Dp K H x d ∧ NdA d ∧ Q (.int (arN d)) H
def sp_is_link (K : PySem.W.Frag) : Sp := fun vs H Q _ => ∃ (x : V) (d : PyData), vs = [x] ∧ Dp K H x d ∧ AnyC d ∧ Q (.bl (isLk d)) H
def sp__law_is_symbol (K : PySem.W.Frag) : Sp := fun vs H Q _ => ∃ (x : V) (d : PyData), vs = [x] ∧ Dp K H x d ∧ AnyC d ∧ Q (.bl (isSy d)) H
def sp_marks (K : PySem.W.Frag) : Sp := fun vs H Q _ => ∃ (c r : V) (cs rs : List PyData), vs = [c, r] ∧ Dp K H c (.list cs) ∧ Dp K H r (.list rs) ∧ Wf cs ∧ (∀ d ∈ rs, RootD cs d) ∧ cs.length ≤ 60 ∧ rs.length ≤ 10 ∧ ∀ p mk H', Least cs rs mk → Same H H' → H p = Option.none → H' p = some (.lst (mk.map V.bl)) → Q (.ref p) H'
def sp_reachable (K : PySem.W.Frag) : Sp := fun vs H Q _ => ∃ (c r : V) (cs rs : List PyData), vs = [c, r] ∧ Dp K H c (.list cs) ∧ Dp K H r (.list rs) ∧ Wf cs ∧ (∀ d ∈ rs, RootD cs d) ∧ cs.length ≤ 60 ∧ rs.length ≤ 10 ∧ ∀ p mk H', Least cs rs mk → Same H H' → H' p = some (.lst ((resN mk mk.length).map fun (j : Nat) => V.int (j : Int))) → Q (.ref p) H'
def sp__law_reachable (K : PySem.W.Frag) : Sp := fun vs H Q _ => ∃ (c r : V) (cs rs : List PyData), vs = [c, r] ∧ Dp K H c (.list cs) ∧ Dp K H r (.list rs) ∧ Wf cs ∧ (∀ d ∈ rs, RootD cs d) ∧ cs.length ≤ 60 ∧ rs.length ≤ 10 ∧ ∀ p mk H', Least cs rs mk → Same H H' → H' p = some (.lst ((resN mk mk.length).map fun (j : Nat) => V.int (j : Int))) → Q (.ref p) H'
def sp__law_cells (K : PySem.W.Frag) : Sp := fun vs H Q _ => ∃ (s l : Addr) (n : Int), vs = [.ref s, .int n] ∧ Stm H s l ∧ 0 ≤ n ∧ n ≤ 37 ∧ ∀ v cs H', Wf cs → cs.length ≤ 50 → But s H H' → Stm H' s l → Im K (fun b => H b = Option.none) H' v (.list cs) → Q v H'
def sp__law_settled (K : PySem.W.Frag) : Sp := fun vs H Q _ => ∃ (G : Addr → Prop) (c : V) (i : Nat) (sy ot : Addr) (ps : List PyData) (d : PyData) (S O : List Nat), vs = [c, .int (i : Int), .ref sy, .ref ot] ∧ Im K G H c (.list ps) ∧ ps[i]? = some d ∧ PreC i d ∧ H sy = some (.lst (S.map fun (j : Nat) => V.int (j : Int))) ∧ H ot = some (.lst (O.map fun (j : Nat) => V.int (j : Int))) ∧ (∀ j ∈ S, ∃ e, ps[j]? = some e ∧ isSy e = true) ∧ (∀ j ∈ O, ∃ e, ps[j]? = some e ∧ isSy e = false) ∧ (isSy d = false → O ≠ []) ∧ S.length ≤ 60 ∧ O.length ≤ 60 ∧
  ∀ v e H', Sett ps d e → Same H H' → Im K (fun b => G b ∨ H b = Option.none) H' v e → Q v H'
def sp__law_roots (K : PySem.W.Frag) : Sp := fun vs H Q _ => ∃ (s l : Addr) (c : V) (cs : List PyData), vs = [.ref s, c] ∧ Stm H s l ∧ Im K (fun b => b ≠ s) H c (.list cs) ∧ Wf cs ∧ cs.length ≤ 50 ∧ ∀ v rs H', (∀ d ∈ rs, RootD cs d) → rs.length ≤ 5 → But s H H' → Stm H' s l → Im K (fun b => H b = Option.none) H' v (.list rs) → Q v H'
def sp_law (K : PySem.W.Frag) : Sp := fun vs H Q _ => ∃ (a : Addr) (ns : List Int), vs = [.ref a] ∧ SqL K H a (ns.map V.int) ∧ ns.length ≤ 63 ∧ ∀ H', Q (.bl true) H'
/-! ### sliding -/
def kvP (L : List Nat) (i : Nat) : List (Key × V) := (L.take i).zipIdx.map fun p => ((Sum.inl (p.1 : Int) : Key), V.int (p.2 : Int))
def movD (L : List Nat) : PyData → PyData
  | .tuple [a, .int j] => .tuple [a, .int ((L.idxOf j.toNat : Nat) : Int)]
  | d => d
def cells2 (L : List Nat) (cs : List PyData) : List PyData := L.map fun j => movD L (cs.getD j .none)
def roots2 (L : List Nat) (rs : List PyData) : List PyData := rs.map (movD L)
structure Sl (cs rs : List PyData) (L : List Nat) : Prop where
  asc : L.Pairwise (· < ·)
  low : ∀ j ∈ L, j < cs.length
  root : ∀ r ∈ rs, ∀ j ∈ rootN r, j ∈ L
  suc : ∀ i d, cs[i]? = some d → i ∈ L → ∀ j ∈ sucN d i, j ∈ L
  least : ∀ S, Clo cs rs S → ∀ i ∈ L, S i
theorem resN_mem {mk : List Bool} {n j : Nat} : j ∈ resN mk n ↔ j < n ∧ mkd mk j := by
  unfold resN mkd
  rw [List.mem_filter, List.mem_range]
  simp
theorem resN_full {mk : List Bool} {j : Nat} : j ∈ resN mk mk.length ↔ mkd mk j := by
  rw [resN_mem]
  refine ⟨fun h => h.2, fun h => ⟨?_, h⟩⟩
  exact (List.getElem?_eq_some_iff.mp h).1
theorem sl_of {cs rs : List PyData} {mk : List Bool} (h : Least cs rs mk) : Sl cs rs (resN mk mk.length) := by
  obtain ⟨l, c, d⟩ := h
  refine ⟨?_, fun j hj => by rw [← l]; exact (resN_mem.mp hj).1, fun r hr j hj => resN_full.mpr (c.1 r hr j hj), fun i e he hi j hj => resN_full.mpr (c.2 i e he (resN_full.mp hi) j hj), fun S hS i hi => d S hS i (resN_full.mp hi)⟩
  unfold resN
  exact List.Pairwise.filter _ List.pairwise_lt_range
theorem Sl.nodup {cs rs : List PyData} {L : List Nat} (h : Sl cs rs L) : L.Nodup := h.asc.imp fun h => Nat.ne_of_lt h
theorem mov_ref (L : List Nat) (j : Nat) : movD L (refD j) = refD (L.idxOf j) := by simp [movD, refD]
theorem mov_str (L : List Nat) (j : Nat) : movD L (strD j) = strD (L.idxOf j) := by simp [movD, strD]
theorem mov_int (L : List Nat) (z : Int) : movD L (.int z) = .int z := by simp [movD]
theorem mov_sym (L : List Nat) (x : Str) (k : Nat) : movD L (symD x k) = symD x k := by simp [movD, symD]
theorem mov_sy (L : List Nat) (d : PyData) : isSy (movD L d) = isSy d := by
  unfold movD
  split <;> rfl
theorem idx_at {L : List Nat} (h : L.Nodup) {i j : Nat} (e : L[i]? = some j) : L.idxOf j = i := by
  obtain ⟨hi, rfl⟩ := List.getElem?_eq_some_iff.mp e
  exact h.idxOf_getElem i hi
theorem at_idx {L : List Nat} {j : Nat} (h : j ∈ L) : L[L.idxOf j]? = some j := by
  have hl := List.idxOf_lt_length_iff.mpr h
  rw [List.getElem?_eq_getElem hl, List.getElem_idxOf]
theorem next_asc {L : List Nat} (h : L.Pairwise (· < ·)) {p a : Nat} (e : L[p]? = some a) (m : a + 1 ∈ L) : L[p + 1]? = some (a + 1) := by
  obtain ⟨hp, ep⟩ := List.getElem?_eq_some_iff.mp e
  obtain ⟨q, hq, eq⟩ := List.getElem_of_mem m
  have w := List.pairwise_iff_getElem.mp h
  have h1 : p < q := by
    rcases Nat.lt_or_ge p q with z | z
    · exact z
    · rcases Nat.lt_or_ge q p with z2 | z2
      · have := w q p hq hp z2
        omega
      · have : q = p := by omega
        subst this
        omega
  rcases Nat.lt_or_ge (p + 1) q with z | z
  · have w1 := w p (p + 1) hp (by omega) (by omega)
    have w2 := w (p + 1) q (by omega) hq z
    omega
  · have : q = p + 1 := by omega
    subst this
    rw [List.getElem?_eq_getElem hq, eq]
theorem run_asc {L : List Nat} (h : L.Pairwise (· < ·)) {p a k : Nat} (e : L[p]? = some a) (m : ∀ i, i < k → a + 1 + i ∈ L) : ∀ i, i < k → L[p + 1 + i]? = some (a + 1 + i)
  | 0, h0 => next_asc h e (m 0 h0)
  | i + 1, h1 => next_asc h (run_asc h e m i (by omega)) (by have := m (i + 1) h1; rwa [show a + 1 + (i + 1) = a + 1 + i + 1 by omega] at this)
theorem mov_suc {cs rs : List PyData} {L : List Nat} (s : Sl cs rs L) {n : Nat} {d : PyData} (h : CellD n d) {i j : Nat} (hj : L[i]? = some j) (hs : ∀ t ∈ sucN d j, t ∈ L) : sucN (movD L d) i = (sucN d j).map L.idxOf := by
  cases h with
  | int z _ _ => rw [mov_int, suc_int, suc_int]; rfl
  | ref t _ => rw [mov_ref, suc_ref, suc_ref]; rfl
  | str t _ => rw [mov_str, suc_str, suc_str]; rfl
  | sym x k _ _ =>
    rw [suc_sym] at hs
    rw [mov_sym, suc_sym, suc_sym, List.map_map]
    refine List.map_congr_left fun m hm => ?_
    have r := run_asc s.asc hj (k := k) (fun t ht => hs _ (List.mem_map.mpr ⟨t, List.mem_range.mpr ht, rfl⟩)) m (List.mem_range.mp hm)
    exact (idx_at s.nodup r).symm
theorem mov_root {n : Nat} {d : PyData} (h : CellD n d) (L : List Nat) : rootN (movD L d) = (rootN d).map L.idxOf := by
  cases h with
  | int z _ _ => rw [mov_int, root_int]; rfl
  | ref t _ => rw [mov_ref, root_ref, root_ref]; rfl
  | str t _ => rw [mov_str, root_str, root_str]; rfl
  | sym x k _ _ => rw [mov_sym, root_sym]; rfl
theorem cells2_at {cs : List PyData} {L : List Nat} {i : Nat} {e : PyData} (low : ∀ j ∈ L, j < cs.length) (h : (cells2 L cs)[i]? = some e) : ∃ j d, L[i]? = some j ∧ cs[j]? = some d ∧ e = movD L d := by
  unfold cells2 at h
  rw [List.getElem?_map] at h
  obtain ⟨j, hj, rfl⟩ := Option.map_eq_some_iff.mp h
  have hl := low j (List.mem_of_getElem? hj)
  refine ⟨j, cs[j], hj, List.getElem?_eq_getElem hl, ?_⟩
  rw [List.getD_eq_getElem?_getD, List.getElem?_eq_getElem hl]
  rfl
theorem cells2_of {cs : List PyData} {L : List Nat} {i j : Nat} {d : PyData} (h : L[i]? = some j) (e : cs[j]? = some d) : (cells2 L cs)[i]? = some (movD L d) := by
  unfold cells2
  rw [List.getElem?_map, h]
  show some (movD L (cs.getD j .none)) = _
  rw [List.getD_eq_getElem?_getD, e]
  rfl
theorem cells2_len (L : List Nat) (cs : List PyData) : (cells2 L cs).length = L.length := List.length_map _
theorem mov_cell {n : Nat} {d : PyData} {L : List Nat} (h : CellD n d) (hs : ∀ j ∈ rootN d, j ∈ L) : CellD L.length (movD L d) := by
  cases h with
  | int z a b => rw [mov_int]; exact .int z a b
  | ref t _ => rw [mov_ref]; exact .ref _ (List.idxOf_lt_length_iff.mpr (hs t (by rw [root_ref]; exact List.mem_singleton.mpr rfl)))
  | str t _ => rw [mov_str]; exact .str _ (List.idxOf_lt_length_iff.mpr (hs t (by rw [root_str]; exact List.mem_singleton.mpr rfl)))
  | sym x k a b => rw [mov_sym]; exact .sym x k a b
theorem mov_rootD {cs : List PyData} {L : List Nat} {d : PyData} (h : RootD cs d) (hs : ∀ j ∈ rootN d, j ∈ L) : RootD (cells2 L cs) (movD L d) := by
  have hc := h.cell
  refine ⟨by rw [cells2_len]; exact mov_cell hc hs, by rw [mov_sy]; exact h.nsy, fun j e => ?_, fun j e => ?_⟩
  · cases hc with
    | int z a b => rw [mov_int] at e; unfold strD at e; cases e
    | ref t _ => rw [mov_ref] at e; exact (ref_str e).elim
    | sym x k a b => rw [mov_sym] at e; exact (sym_str e).elim
    | str t _ =>
      rw [mov_str] at e
      obtain ⟨c, hc, hy⟩ := h.str t rfl
      rw [← str_inj e]
      exact ⟨_, cells2_of (at_idx (hs t (by rw [root_str]; exact List.mem_singleton.mpr rfl))) hc, by rw [mov_sy]; exact hy⟩
  · cases hc with
    | int z a b => rw [mov_int] at e; unfold refD at e; cases e
    | str t _ => rw [mov_str] at e; exact (ref_str e.symm).elim
    | sym x k a b => rw [mov_sym] at e; exact (sym_ref e).elim
    | ref t _ =>
      rw [mov_ref] at e
      obtain ⟨c, hc, hy⟩ := h.ref t rfl
      rw [← ref_inj e]
      exact ⟨_, cells2_of (at_idx (hs t (by rw [root_ref]; exact List.mem_singleton.mpr rfl))) hc, by rw [mov_sy]; exact hy⟩
theorem Sl.roots {cs rs : List PyData} {L : List Nat} (s : Sl cs rs L) (rd : ∀ d ∈ rs, RootD cs d) : ∀ d ∈ roots2 L rs, RootD (cells2 L cs) d := fun d hd => by
  obtain ⟨e, he, rfl⟩ := List.mem_map.mp hd
  exact mov_rootD (rd e he) (s.root e he)
theorem Sl.cell {cs rs : List PyData} {L : List Nat} (s : Sl cs rs L) (wf : Wf cs) {j : Nat} {d : PyData} (hj : j ∈ L) (hd : cs[j]? = some d) : CellD cs.length d ∧ ∀ t ∈ rootN d, t ∈ L := by
  have hc := wf.cell d (List.mem_of_getElem? hd)
  refine ⟨hc, fun t ht => s.suc j d hd hj t ?_⟩
  cases hc with
  | int z _ _ => rw [root_int] at ht; cases ht
  | ref k _ => rw [root_ref] at ht; rw [suc_ref]; exact ht
  | str k _ => rw [root_str] at ht; rw [suc_str]; exact ht
  | sym x k _ _ => rw [root_sym] at ht; cases ht
theorem Sl.wf {cs rs : List PyData} {L : List Nat} (s : Sl cs rs L) (wf : Wf cs) : Wf (cells2 L cs) := by
  refine ⟨fun e he hy => ?_, fun e he => ?_, fun i x k he m hm => ?_⟩
  · obtain ⟨i, hi⟩ := List.getElem?_of_mem he
    obtain ⟨j, d, hj, hd, rfl⟩ := cells2_at s.low hi
    rw [mov_sy] at hy
    exact mov_rootD (wf.good d (List.mem_of_getElem? hd) hy) (s.cell wf (List.mem_of_getElem? hj) hd).2
  · obtain ⟨i, hi⟩ := List.getElem?_of_mem he
    obtain ⟨j, d, hj, hd, rfl⟩ := cells2_at s.low hi
    obtain ⟨a, b⟩ := s.cell wf (List.mem_of_getElem? hj) hd
    rw [cells2_len]
    exact mov_cell a b
  · obtain ⟨j, d, hj, hd, e⟩ := cells2_at s.low he
    have hc := wf.cell d (List.mem_of_getElem? hd)
    cases hc with
    | int z _ _ => rw [mov_int] at e; unfold symD at e; cases e
    | ref t _ => rw [mov_ref] at e; exact (sym_ref e).elim
    | str t _ => rw [mov_str] at e; exact (sym_str e).elim
    | sym y q _ _ =>
      rw [mov_sym] at e
      obtain ⟨rfl, rfl⟩ := sym_inj e
      have r := run_asc s.asc hj (k := k) (fun t ht => s.suc j _ hd (List.mem_of_getElem? hj) _ (by rw [suc_sym]; exact List.mem_map.mpr ⟨t, List.mem_range.mpr ht, rfl⟩)) m hm
      obtain ⟨c, hc, hy⟩ := wf.sym j x k hd m hm
      exact ⟨_, cells2_of r hc, by rw [mov_sy]; exact hy⟩
theorem Sl.least2 {cs rs : List PyData} {L : List Nat} (s : Sl cs rs L) (wf : Wf cs) (rd : ∀ d ∈ rs, RootD cs d) : Least (cells2 L cs) (roots2 L rs) (List.replicate L.length true) := by
  have all : ∀ i, i < L.length → mkd (List.replicate L.length true) i := fun i hi => by
    unfold mkd
    rw [List.getElem?_replicate, if_pos hi]
  have wf2 := s.wf wf
  have rd2 := s.roots rd
  refine ⟨by rw [List.length_replicate, cells2_len], ⟨fun r hr j hj => all j ?_, fun i d hd _ j hj => all j ?_⟩, fun S hS i hi => ?_⟩
  · have hc := (rd2 r hr).cell
    rw [cells2_len] at hc
    cases hc with
    | int z _ _ => rw [root_int] at hj; cases hj
    | ref k hk => rw [root_ref, List.mem_singleton] at hj; omega
    | str k hk => rw [root_str, List.mem_singleton] at hj; omega
    | sym x k _ _ => rw [root_sym] at hj; cases hj
  · have := suc_low wf2 hd j hj
    rwa [cells2_len] at this
  · have hi : i < L.length := by
      unfold mkd at hi
      have := (List.getElem?_eq_some_iff.mp hi).1
      rwa [List.length_replicate] at this
    have key : ∀ j ∈ L, j ∈ L ∧ S (L.idxOf j) := s.least (fun j => j ∈ L ∧ S (L.idxOf j)) ⟨fun r hr j hj => ⟨s.root r hr j hj, hS.1 (movD L r) (List.mem_map.mpr ⟨r, hr, rfl⟩) _ ?_⟩, fun t d hd ht j hj => ⟨s.suc t d hd ht.1 j hj, hS.2 (L.idxOf t) (movD L d) (cells2_of (at_idx ht.1) hd) ht.2 _ ?_⟩⟩
    · have := (key L[i] (List.getElem_mem hi)).2
      rwa [idx_at s.nodup (List.getElem?_eq_getElem hi)] at this
    · rw [mov_root (rd r hr).cell]
      exact List.mem_map.mpr ⟨j, hj, rfl⟩
    · rw [mov_suc s (wf.cell d (List.mem_of_getElem? hd)) (at_idx ht.1) (s.suc t d hd ht.1)]
      exact List.mem_map.mpr ⟨j, hj, rfl⟩
theorem resN_all (n : Nat) : resN (List.replicate n true) (List.replicate n true).length = List.range n := by
  unfold resN
  rw [List.length_replicate]
  refine List.filter_eq_self.mpr fun j hj => ?_
  rw [List.getElem?_replicate, if_pos (List.mem_range.mp hj)]
  rfl
theorem idx_range {n i : Nat} (h : i < n) : (List.range n).idxOf i = i := idx_at List.nodup_range (by rw [List.getElem?_eq_getElem (by simpa using h), List.getElem_range])
theorem mov_again {n m : Nat} {d : PyData} {L : List Nat} (h : CellD n d) (hs : ∀ j ∈ rootN d, j ∈ L) (hm : m = L.length) : movD (List.range m) (movD L d) = movD L d := by
  subst hm
  cases h with
  | int z _ _ => rw [mov_int, mov_int]
  | ref t _ => rw [mov_ref, mov_ref, idx_range (List.idxOf_lt_length_iff.mpr (hs t (by rw [root_ref]; exact List.mem_singleton.mpr rfl)))]
  | str t _ => rw [mov_str, mov_str, idx_range (List.idxOf_lt_length_iff.mpr (hs t (by rw [root_str]; exact List.mem_singleton.mpr rfl)))]
  | sym x k _ _ => rw [mov_sym, mov_sym]
theorem Sl.cells_again {cs rs : List PyData} {L : List Nat} (s : Sl cs rs L) (wf : Wf cs) : cells2 (List.range L.length) (cells2 L cs) = cells2 L cs := by
  apply List.ext_getElem?
  intro i
  by_cases hi : i < L.length
  · have hj := List.getElem?_eq_getElem hi
    have hl := s.low L[i] (List.getElem_mem hi)
    have hd := List.getElem?_eq_getElem hl
    have h2 := cells2_of hj hd
    obtain ⟨a, b⟩ := s.cell wf (List.getElem_mem hi) hd
    rw [h2, cells2_of (L := List.range L.length) (i := i) (j := i) (by rw [List.getElem?_eq_getElem (by simpa using hi), List.getElem_range]) h2, mov_again a b rfl]
  · rw [List.getElem?_eq_none (by rw [cells2_len, List.length_range]; omega), List.getElem?_eq_none (by rw [cells2_len]; omega)]
theorem Sl.roots_again {cs rs : List PyData} {L : List Nat} (s : Sl cs rs L) (rd : ∀ d ∈ rs, RootD cs d) : roots2 (List.range L.length) (roots2 L rs) = roots2 L rs := by
  unfold roots2
  rw [List.map_map]
  refine List.map_congr_left fun d hd => ?_
  exact mov_again (rd d hd).cell (s.root d hd) rfl
theorem kvP_succ {L : List Nat} {i j : Nat} (h : L[i]? = some j) : kvP L (i + 1) = kvP L i ++ [((Sum.inl (j : Int) : Key), V.int (i : Int))] := by
  unfold kvP
  have hi := (List.getElem?_eq_some_iff.mp h).1
  rw [List.take_add_one, h, List.zipIdx_append, List.map_append]
  simp [List.length_take, Nat.min_eq_left (Nat.le_of_lt hi)]
theorem kvP_len {L : List Nat} {i : Nat} (h : i ≤ L.length) : (kvP L i).length = i := by
  unfold kvP
  rw [List.length_map, List.length_zipIdx, List.length_take]
  omega
theorem kvP_at {L : List Nat} {i k : Nat} (hk : k < i) {j : Nat} (h : L[k]? = some j) : (kvP L i)[k]? = some ((Sum.inl (j : Int) : Key), V.int (k : Int)) := by
  unfold kvP
  rw [List.getElem?_map, List.getElem?_zipIdx, List.getElem?_take, if_pos hk, h]
  simp
theorem kvP_none {L : List Nat} (n : L.Nodup) {i j : Nat} (h : L[i]? = some j) : valV (kvP L i) (Sum.inl (j : Int) : Key) = none := by
  cases e : valV (kvP L i) (Sum.inl (j : Int) : Key) with
  | none => rfl
  | some v =>
    have m := valV_in e
    obtain ⟨q, hq, eq⟩ := List.mem_map.mp m
    obtain ⟨t, ht⟩ := List.getElem?_of_mem hq
    have hi := (List.getElem?_eq_some_iff.mp h).1
    have hl := (List.getElem?_eq_some_iff.mp ht).1
    rw [kvP_len (by omega)] at hl
    rw [kvP_at hl (List.getElem?_eq_getElem (by omega : t < L.length))] at ht
    cases ht
    injection eq with eq
    have e1 : L[t] = j := by omega
    have a := idx_at n h
    have b := idx_at n (List.getElem?_eq_getElem (by omega : t < L.length))
    rw [e1, a] at b
    omega
theorem kvP_put {L : List Nat} (n : L.Nodup) {i j : Nat} (h : L[i]? = some j) : putK (kvP L i) (Sum.inl (j : Int) : Key) (.int (i : Int)) = kvP L (i + 1) := by
  rw [putK_new _ (kvP_none n h), kvP_succ h]
theorem kvP_val {L : List Nat} (n : L.Nodup) {j : Nat} : ∀ i, i ≤ L.length → L.idxOf j < i → valV (kvP L i) (Sum.inl (j : Int) : Key) = some (.int ((L.idxOf j : Nat) : Int))
  | 0, _, h => absurd h (Nat.not_lt_zero _)
  | i + 1, hi, h => by
    have hj := List.getElem?_eq_getElem (show i < L.length by omega)
    rw [kvP_succ hj, valV_snoc _ _ _ _ (kvP_none n hj)]
    by_cases e : L[i] = j
    · rw [if_pos (by rw [e]), ← e, idx_at n hj]
    · rw [if_neg (fun z => e (by injection z with z; omega))]
      refine kvP_val n i (by omega) ?_
      rcases Nat.lt_or_ge (L.idxOf j) i with z | z
      · exact z
      · have ei : L.idxOf j = i := by omega
        have hm : L.idxOf j < L.length := by omega
        have := List.getElem_idxOf hm
        exfalso
        apply e
        rw [← this]
        congr 1
        exact ei.symm
/-! ### the promises of sliding -/
def sp_moved (K : PySem.W.Frag) : Sp := fun vs H Q _ => ∃ (x : V) (d : PyData) (p : Addr) (L : List Nat) (n : Nat), vs = [x, .ref p] ∧ Dp K H x d ∧ CellD n d ∧ Rd H p (.dK (kvP L L.length)) ∧ L.Nodup ∧ (∀ j ∈ rootN d, j ∈ L) ∧ ∀ v H', Same H H' → Dp K H' v (movD L d) → Q v H'
def sp__law_moved (K : PySem.W.Frag) : Sp := sp_moved K
def sp_slide (K : PySem.W.Frag) : Sp := fun vs H Q _ => ∃ (c r : V) (cs rs : List PyData), vs = [c, r] ∧ Dp K H c (.list cs) ∧ Dp K H r (.list rs) ∧ Wf cs ∧ (∀ d ∈ rs, RootD cs d) ∧ cs.length ≤ 60 ∧ rs.length ≤ 10 ∧
  ∀ t a b p ys zs mk H', Least cs rs mk → Same H H' → (H a = Option.none ∧ H b = Option.none ∧ H p = Option.none ∧ a ≠ b ∧ a ≠ p ∧ b ≠ p) → H' t = some (.tup [.ref a, .ref b, .ref p]) → H' a = some (.lst ys) → DpAll K H' ys (cells2 (resN mk mk.length) cs) →
    H' b = some (.lst zs) → DpAll K H' zs (roots2 (resN mk mk.length) rs) → H' p = some (.dK (kvP (resN mk mk.length) (resN mk mk.length).length)) → Q (.ref t) H'

local macro_rules | `(tactic| walk_at "lits") => `(tactic| repeat' (first | exact lit_int | exact lit_str | exact lit_bl | exact lit_non | exact litA_nil | refine litA_cons ?_ ?_ | refine lit_tup ?_ (by decide) | refine lit_lst ?_ (by decide) | refine lit_neg ?_ | refine lit_sub ?_ ?_ | refine lit_pow ?_ ?_ ⟨by decide, by decide, by decide⟩ | refine lit_mulS ?_ ?_ ⟨by decide, by decide, by decide⟩))
local macro_rules | `(tactic| walk_at "wp") => `(tactic| simp only [wipe, List.map_cons, List.map_nil, List.set_cons_succ, List.set_cons_zero])
local macro_rules | `(tactic| walk_at "gn") => `(tactic| with_reducible first | refine g_n0 ?_ | refine g_n1 ?_ | refine g_n2 ?_ | refine g_n3 ?_ | refine g_n4 ?_ | refine g_n5 ?_ | refine g_n6 ?_ | refine g_n7 ?_ | refine g_n8 ?_ | refine g_n9 ?_ | refine g_n10 ?_ | refine g_n11 ?_ | refine g_n12 ?_ | refine g_n13 ?_ | refine g_n14 ?_ | refine g_n15 ?_ | refine g_n16 ?_ | refine g_n17 ?_ | refine g_n18 ?_ | refine g_n19 ?_ | refine g_n20 ?_ | refine g_n21 ?_ | refine g_n22 ?_ | refine g_n23 ?_ | refine g_n24 ?_ | refine g_n25 ?_)
local macro_rules | `(tactic| walk_at "go") => `(tactic| repeat with_reducible first | refine g_var (by with_unfolding_all exact rfl) ?_ | refine g_c ?_ | refine g_cons ?_ | refine g_nil ?_ | refine g_seq ?_ | refine g_asg ?_ | refine g_op ?_ | refine g_i0 ?_ | refine g_call ?_ | refine g_cb ?_ | refine g_test ?_ | refine g_b ?_ | refine g_bl ?_ | refine g_in ?_ | refine g_ifS ?_ | refine g_next ?_ | refine nxp ?_ | refine g_ret ?_ | refine g_rt ?_ | refine g_bk ?_ | refine g_ct ?_ | refine g_drop ?_ | refine g_eqi ?_ | refine g_nei ?_ | refine g_eqs ?_ | refine g_nes ?_ | refine g_not ?_ | refine g_and ?_ | refine g_or ?_ | refine g_andV ?_ | refine g_orV ?_ | refine g_notV ?_ | refine g_if ?_ | refine g_brk ?_ | refine g_cont ?_ | refine g_retN ?_ | refine g_par ?_ | refine g_two ?_ | refine g_aug (by with_unfolding_all exact rfl) ?_ | refine g_callN ?_ | refine g_kw ?_ | refine g_tup ?_ | refine g_lst ?_ | refine g_sl ?_ | refine g_np ?_ | refine g_part ?_ | refine g_bm ?_ | refine g_bm0 ?_ | refine g_un ?_ | refine g_iu ?_ | refine g_sub ?_ | refine g_yes ?_ | refine iteT ?_ | refine iteF ?_ | refine iteNf ?_ | refine iteNt ?_ | refine iteSs ?_ | refine iteSn ?_ | refine g_for ?_ | refine g_iL ?_ | refine g_iT ?_ | refine g_iR1 ?_ | refine g_iR2 ?_ | refine g_iZ ?_ | refine g_gcons ?_ | refine g_gnil ?_ | refine g_lc ?_ | refine g_fld ?_ | refine g_sfld ?_ | refine g_afld ?_ | refine g_meth ?_ | refine g_make ?_ | refine g_revT ?_ | refine g_revL ?_ | refine g_din ?_ | refine g_dnin ?_ | refine g_dget ?_ | refine g_dget2 ?_ | refine g_dpop2 ?_ | refine g_dput ?_ | refine g_rev ?_ | refine g_dnew ?_ | refine g_callS ?_ | walk_at "gn")
local macro_rules | `(tactic| walk_at "gs") => `(tactic| repeat with_reducible first | refine g_var (by with_unfolding_all exact rfl) ?_ | refine g_c ?_ | refine g_cons ?_ | refine g_nil ?_ | refine g_seq ?_ | refine g_asg ?_ | refine g_op ?_ | refine g_i0 ?_ | refine g_call ?_ | refine g_cb ?_ | refine g_test ?_ | refine g_b ?_ | refine g_bl ?_ | refine g_in ?_ | refine g_next ?_ | refine nxp ?_ | refine g_ret ?_ | refine g_rt ?_ | refine g_bk ?_ | refine g_ct ?_ | refine g_drop ?_ | refine g_eqi ?_ | refine g_nei ?_ | refine g_eqs ?_ | refine g_nes ?_ | refine g_not ?_ | refine g_and ?_ | refine g_or ?_ | refine g_andV ?_ | refine g_orV ?_ | refine g_notV ?_ | refine g_if ?_ | refine g_brk ?_ | refine g_cont ?_ | refine g_retN ?_ | refine g_par ?_ | refine g_two ?_ | refine g_aug (by with_unfolding_all exact rfl) ?_ | refine g_callN ?_ | refine g_kw ?_ | refine g_tup ?_ | refine g_lst ?_ | refine g_sl ?_ | refine g_np ?_ | refine g_part ?_ | refine g_bm ?_ | refine g_bm0 ?_ | refine g_un ?_ | refine g_iu ?_ | refine g_sub ?_ | refine g_yes ?_ | refine iteT ?_ | refine iteF ?_ | refine iteNf ?_ | refine iteNt ?_ | refine iteSs ?_ | refine iteSn ?_ | refine g_for ?_ | refine g_iL ?_ | refine g_iT ?_ | refine g_iR1 ?_ | refine g_iR2 ?_ | refine g_iZ ?_ | refine g_gcons ?_ | refine g_gnil ?_ | refine g_lc ?_ | refine g_fld ?_ | refine g_sfld ?_ | refine g_afld ?_ | refine g_meth ?_ | refine g_make ?_ | refine g_revT ?_ | refine g_revL ?_ | refine g_din ?_ | refine g_dnin ?_ | refine g_dget ?_ | refine g_dget2 ?_ | refine g_dpop2 ?_ | refine g_dput ?_ | refine g_rev ?_ | refine g_dnew ?_ | refine g_callS ?_ | walk_at "gn")
section
variable {P : Program} {w : World} {K : PySem.W.Frag} {mg : Str → Option Value} {base : Heap}
theorem ok_is_symbol {f : Addr} {fd : FuncData} (F : Fun K "is_symbol" "is_symbol" s_is_symbol f fd) (E : Bi K mg)  : FnOk P w K mg base CX0 1 f fd ["node"] (sp_is_symbol K) := by
  refine F.ok sc_is_symbol (fun vs H Q E h => ?_) (fun cdv A outer s H vs Q E' hr h => ?_)
  · obtain ⟨x, d, rfl, _⟩ := h
    rfl
  · obtain ⟨x, d, rfl, hd, ⟨wd, nd⟩, q⟩ := h
    refine ⟨_, (pss_one (ps_ret (pe_and (pe_callB (show CallR _ (.builtin "isinstance") (rIsi K) from call_isi) (by rfl) E.b_isinstance (by decide +kernel) (pa_cons (pv 0) (pa_cons (pe_ty "tuple" (by rfl) E.b_tuple (by decide +kernel)) pa_nil))) (pe_one (pe_cmpR op_eq (pe_ix (show IxR _ (rIxT K) from ix_tup) (pv 0) pe_int (fun _ _ => rfl)) pe_str (nomark _)))))), ?_⟩
    refine ⟨x, rfl, _, _, _, _, _, rfl, .ty _, tyx_of hd, kit_ty (kitT _), _, rfl, ?_⟩
    cases nd with
    | v n h1 h2 =>
      cases hd with
      | tup hs ha =>
        obtain ⟨v, hv, hdv⟩ := DpAll.get (i := 0) ha rfl
        cases hdv
        refine iteT ⟨_, rfl, _, _, _, _, rfl, rfl, hs, atI_nat (j := 0) hv, rfl, ?_⟩
        rw [show decide (V.str (Str.ofString "v") = V.str (Str.ofString "f")) = false by decide +kernel]
        exact q
    | i n h1 h2 => exact iteF q
    | f y n h1 h2 h3 =>
      cases hd with
      | tup hs ha =>
        obtain ⟨v, hv, hdv⟩ := DpAll.get (i := 0) ha rfl
        cases hdv
        refine iteT ⟨_, rfl, _, _, _, _, rfl, rfl, hs, atI_nat (j := 0) hv, rfl, ?_⟩
        rw [decide_eq_true rfl]
        exact q

theorem ok_is_link {f : Addr} {fd : FuncData} (F : Fun K "is_link" "is_link" s_is_link f fd) (E : Bi K mg)  : FnOk P w K mg base CX0 1 f fd ["cell"] (sp_is_link K) := by
  refine F.ok sc_is_link (fun vs H Q E h => ?_) (fun cdv A outer s H vs Q E' hr h => ?_)
  · obtain ⟨x, d, rfl, _⟩ := h
    rfl
  · obtain ⟨x, d, rfl, hd, hk, q⟩ := h
    refine ⟨_, (pss_one (ps_ret (pe_and (pe_callB (show CallR _ (.builtin "isinstance") (rIsi K) from call_isi) (by rfl) E.b_isinstance (by decide +kernel) (pa_cons (pv 0) (pa_cons (pe_ty "tuple" (by rfl) E.b_tuple (by decide +kernel)) pa_nil))) (pe_one (pe_cmpR op_ne (pe_ix (show IxR _ (rIxT K) from ix_tup) (pv 0) pe_int (fun _ _ => rfl)) pe_str (nomark _)))))), ?_⟩
    refine ⟨x, rfl, _, _, _, _, _, rfl, .ty _, tyx_of hd, kit_ty (kitT _), _, rfl, ?_⟩
    cases hk with
    | int z => exact iteF q
    | pair w j hw =>
      cases hd with
      | tup hs ha =>
        obtain ⟨v, hv, hdv⟩ := DpAll.get (i := 0) ha rfl
        cases hdv
        refine iteT ⟨_, rfl, _, _, _, _, rfl, rfl, hs, atI_nat (j := 0) hv, rfl, ?_⟩
        rw [show decide (V.str w = V.str (Str.ofString "f")) = false from decide_eq_false fun z => hw (V.str.inj z)]
        exact q
    | sym x k =>
      cases hd with
      | tup hs ha =>
        obtain ⟨v, hv, hdv⟩ := DpAll.get (i := 0) ha rfl
        cases hdv
        refine iteT ⟨_, rfl, _, _, _, _, rfl, rfl, hs, atI_nat (j := 0) hv, rfl, ?_⟩
        rw [decide_eq_true rfl]
        exact q

theorem ok__law_stream {f : Addr} {fd : FuncData} (F : Fun K "_law_stream" "_law_stream" s__law_stream f fd) (E : Bi K mg)  : FnOk P w K mg base CX0 1 f fd ["script"] (sp__law_stream K) := by
  refine F.ok sc__law_stream (fun vs H Q E h => ?_) (fun cdv A outer s H vs Q E' hr h => ?_)
  · obtain ⟨a, ns, rfl, _⟩ := h
    rfl
  · obtain ⟨a, ns, rfl, hS, hl, q⟩ := h
    refine ⟨_, (pss_cons (ps_set (i := 1) sc__law_stream.nd rfl (Or.inl rfl) pe_int)
      (pss_cons (ps_for PassesOwn.never rfl (pi_list (pv 0)) (pg_name (i := 2) sc__law_stream.nd rfl (Or.inl rfl)) (pss_one (ps_set (i := 1) sc__law_stream.nd rfl (Or.inl rfl) (pe_op op_mod (pe_callTy call_int1 (by rfl) E.b_int (by decide +kernel) (pa_cons (pe_op op_add (pe_op op_add (pe_op op_mul (pv 1) pe_int) (pe_op op_mod (pe_callTy call_int1 (by rfl) E.b_int (by decide +kernel) (pa_cons (pv 2) pa_nil)) pe_int)) pe_int) pa_nil)) pe_int))))
      (pss_one (ps_ret (pe_lst (pa_cons (pe_callTy call_list_of (by rfl) E.b_list (by decide +kernel) (pa_cons (pv 0) pa_nil)) (pa_cons pe_int (pa_cons pe_int (pa_cons (pv 1) pa_nil))))))))), ?_⟩
    refine ⟨_, rfl, a, rfl, ⟨_, hS⟩, for_list (K := K) (a := a) (xs := ns.map V.int) (fun i σ H1 => ∃ (m : Int) (v : Option V), σ = [some (.ref a), some (.int m), v] ∧ H1 = H ∧ 0 ≤ m ∧ m < 2147483647)
      ⟨17, none, rfl, rfl, by decide, by decide⟩ (fun i σ H1 _ ⟨_, _, _, e, _⟩ => by rw [e]; exact hS) ?_ ?_⟩
    · rintro i y σ H1 hi ⟨m, v, rfl, rfl, h0, h1⟩
      obtain ⟨z, rfl⟩ : ∃ z, y = V.int z := by
        rw [List.getElem?_map] at hi
        cases e : ns[i]? with
        | none =>
          rw [e] at hi
          cases hi
        | some z =>
          rw [e] at hi
          exact ⟨z, (Option.some.inj hi).symm⟩
      refine ⟨_, rfl, _, _, rfl, rfl, .inr ⟨by decide, by decide⟩, _, rfl, .inl ⟨_, rfl, _, _, rfl, rfl, (by decide : (0 : Int) < 65521), _, _, rfl, rfl, _, _, rfl, rfl, .inl ⟨_, rfl, _, _, rfl, rfl, (by decide : (0 : Int) < 2147483647), ?_⟩⟩⟩
      exact ⟨_, _, rfl, rfl, Int.emod_nonneg _ (by decide), Int.emod_lt_of_pos _ (by decide)⟩
    · rintro σ H1 ⟨m, v, rfl, rfl, h0, h1⟩
      refine ⟨_, rfl, a, _, rfl, .inl hS, fun l hl2 => ⟨_, rfl, (by show 4 ≤ sizeLine; decide), fun p hp => ?_⟩⟩
      have npl : l ≠ p := fun z => by
        rw [← z, upd_same] at hp
        cases hp
      refine q p l _ ((same_upd hl2).free hp) hl2 ((same_upd hl2).trans (same_upd hp)) ⟨0, 0, m, ns, upd_same, ?_, hl, Int.le_refl 0, Int.le_refl 0, h0, h1⟩
      rw [upd_ne npl, upd_same]

theorem ok__law_draw {f : Addr} {fd : FuncData} (F : Fun K "_law_draw" "_law_draw" s__law_draw f fd) (E : Bi K mg)  : FnOk P w K mg base CX0 1 f fd ["stream", "many"] (sp__law_draw K) := by
  refine F.ok sc__law_draw (fun vs H Q E h => ?_) (fun cdv A outer s H vs Q E' hr h => ?_)
  · obtain ⟨s, l, n, rfl, _⟩ := h
    rfl
  · obtain ⟨p, l, n, rfl, hS, hn, hn2, q⟩ := h
    obtain ⟨a, b, m, ns, h1, h2, hlen, ha, hb, hm, hm2⟩ := hS.ex
    have nlp : l ≠ p := fun z => by
      rw [z, h1] at h2
      have h3 := HO.lst.inj (Option.some.inj h2)
      cases ns with
      | nil => cases h3
      | cons x r => cases (List.cons.inj h3).1
    refine ⟨_, (pss_cons (ps_if (pw_and (pt_cmpR op_eq (pe_ix (show IxR _ (rIxL K) from ix_list) (pv 0) pe_int (fun _ _ => rfl)) pe_int (nomark _)) (pw_and1 (pt_cmpR op_lt (pe_ix (show IxR _ (rIxL K) from ix_list) (pv 0) pe_int (fun _ _ => rfl)) (pe_callB (show CallR _ (.builtin "len") (fun xs H Q => ∃ p ys, xs = [V.ref p] ∧ (SqL K H p ys ∨ SqT K H p ys) ∧ Q (V.int ys.length) H) from call_len_seq) (by rfl) E.b_len PySem.boot_len (pa_cons (pe_ix (show IxR _ (rIxL K) from ix_list) (pv 0) pe_int (fun _ _ => rfl)) pa_nil)) (nomark _)))).pt (pss_cons (ps_asg (pe_callB call_abs (by rfl) E.b_abs (by decide +kernel) (pa_cons (pe_callTy call_int1 (by rfl) E.b_int (by decide +kernel) (pa_cons (pe_ix (show IxR _ (rIxL K) from ix_list) (pe_ix (show IxR _ (rIxL K) from ix_list) (pv 0) pe_int (fun _ _ => rfl)) (pe_ix (show IxR _ (rIxL K) from ix_list) (pv 0) pe_int (fun _ _ => rfl)) (fun _ _ => rfl)) pa_nil)) pa_nil)) (pg_sub (pv 0) pe_int set_list))
      (pss_one (ps_asg (pe_op op_add (pe_ix (show IxR _ (rIxL K) from ix_list) (pv 0) pe_int (fun _ _ => rfl)) pe_int) (pg_sub (pv 0) pe_int set_list)))) pss_nil)
      (pss_cons (ps_if (pt_cmpR op_eq (pe_ix (show IxR _ (rIxL K) from ix_list) (pv 0) pe_int (fun _ _ => rfl)) pe_int (nomark _)) (pss_cons (ps_asg (pe_op op_mod (pe_callTy call_int1 (by rfl) E.b_int (by decide +kernel) (pa_cons (pe_op op_add (pe_op op_mul (pe_ix (show IxR _ (rIxL K) from ix_list) (pv 0) pe_int (fun _ _ => rfl)) pe_int) pe_int) pa_nil)) pe_int) (pg_sub (pv 0) pe_int set_list))
      (pss_one (ps_ret (pe_op op_mod (pe_callTy call_int1 (by rfl) E.b_int (by decide +kernel) (pa_cons (pe_op op_fdivW (pe_ix (show IxR _ (rIxL K) from ix_list) (pv 0) pe_int (fun _ _ => rfl)) pe_int) pa_nil)) (pv 1))))) pss_nil)
      (pss_cons (ps_set (i := 2) sc__law_draw.nd rfl (Or.inl rfl) (pe_op op_mod (pe_callTy call_int1 (by rfl) E.b_int (by decide +kernel) (pa_cons (pe_ix (show IxR _ (rIxL K) from ix_list) (pv 0) pe_int (fun _ _ => rfl)) pa_nil)) (pv 1)))
      (pss_cons (ps_asg (pe_op op_fdivW (pe_ix (show IxR _ (rIxL K) from ix_list) (pv 0) pe_int (fun _ _ => rfl)) (pv 1)) (pg_sub (pv 0) pe_int set_list))
      (pss_one (ps_ret (pv 2))))))), ?_⟩
    refine ⟨_, rfl, _, _, _, _, rfl, rfl, SqL.of h1, atI_nat (j := 1) rfl, rfl, _, rfl, ite2 (fun e => ?_) (fun e => ?_)⟩
    · refine ⟨_, rfl, _, _, _, _, rfl, rfl, SqL.of h1, atI_nat (j := 2) rfl, _, rfl, _, _, _, _, rfl, rfl, SqL.of h1, atI_nat (j := 0) rfl, _, _, rfl, .inl (SqL.of h2), _, _, rfl, rfl, _, rfl, ite2 (fun e1 => ?_) (fun e1 => ?_)⟩
      · have e2 : b < (ns.map V.int).length := of_decide_eq_true e1
        rw [List.length_map] at e2
        have hz : (ns.map V.int)[b.toNat]? = some (V.int (ns[b.toNat]'(by omega))) := by
          rw [List.getElem?_map, List.getElem?_eq_getElem (by omega)]
          rfl
        refine ⟨_, rfl, _, _, _, _, rfl, rfl, SqL.of h1, atI_nat (j := 0) rfl, _, rfl, _, _, _, _, rfl, rfl, SqL.of h1, atI_nat (j := 2) rfl, _, _, _, _, rfl, rfl, SqL.of h2, at_of (j := b.toNat) (by omega) hz, .inl ⟨_, rfl, _, rfl, _, rfl, _, _, _, _, rfl, rfl, h1, rfl, ?_⟩⟩
        refine ⟨_, rfl, _, _, _, _, rfl, rfl, SqL.of upd_same, atI_nat (j := 2) rfl, _, _, rfl, rfl, _, rfl, _, _, _, _, rfl, rfl, upd_same, rfl, ?_⟩
        generalize hH : upd _ p _ = H1
        have hX : ∃ a' b' : Int, H1 p = some (.lst [.ref l, .int a', .int b', .int m]) ∧ 0 ≤ a' ∧ 0 ≤ b' := ⟨_, _, by rw [← hH]; exact upd_same, by split <;> omega, by omega⟩
        have hB : But p H H1 := by rw [← hH]; exact But.put.trans But.put
        have hL : H1 l = some (.lst (ns.map V.int)) := hB l _ nlp h2
        clear hH
        obtain ⟨a', b', hX, ha', hb'⟩ := hX
        refine ⟨_, rfl, _, _, _, _, rfl, rfl, SqL.of hX, atI_nat (j := 1) rfl, rfl, _, rfl, ite2 (fun e3 => ?_) (fun e3 => ?_)⟩
        · refine ⟨_, rfl, _, _, _, _, rfl, rfl, SqL.of hX, atI_nat (j := 3) rfl, _, _, rfl, rfl, .inr ⟨by decide, by decide⟩, _, _, rfl, rfl, .inl ⟨_, rfl, _, _, rfl, rfl, (by decide : (0 : Int) < 2147483647), _, rfl, _, _, _, _, rfl, rfl, hX, rfl, ?_⟩⟩
          refine ⟨_, rfl, _, _, _, _, rfl, rfl, SqL.of upd_same, atI_nat (j := 3) rfl, _, _, rfl, rfl, wide_div (b := 64) (by decide) (by decide) (by decide) (by decide), .inl ⟨_, rfl, _, rfl, _, _, rfl, rfl, hn, ?_⟩⟩
          exact q _ _ (Int.emod_nonneg _ (by omega)) (Int.emod_lt_of_pos _ hn) (hB.trans But.put) ⟨a', b', _, ns, upd_same, by rw [upd_ne nlp]; exact hL, hlen, ha', hb', Int.emod_nonneg _ (by decide), Int.emod_lt_of_pos _ (by decide)⟩
        · refine ⟨_, rfl, _, _, _, _, rfl, rfl, SqL.of hX, atI_nat (j := 1) rfl, .inl ⟨_, rfl, _, rfl, _, _, rfl, rfl, hn, ?_⟩⟩
          refine ⟨_, rfl, _, _, _, _, rfl, rfl, SqL.of hX, atI_nat (j := 1) rfl, _, rfl, _, _, rfl, rfl, wide_div hn hn2 (by decide) (by decide), _, rfl, _, _, _, _, rfl, rfl, hX, rfl, ?_⟩
          refine ⟨_, rfl, ?_⟩
          exact q _ _ (Int.emod_nonneg _ (by omega)) (Int.emod_lt_of_pos _ hn) (hB.trans But.put) ⟨_, b', m, ns, upd_same, by rw [upd_ne nlp]; exact hL, hlen, Int.ediv_nonneg ha' (by omega), hb', hm, hm2⟩
      · have hX : ∃ a' b' : Int, H p = some (.lst [.ref l, .int a', .int b', .int m]) ∧ 0 ≤ a' ∧ 0 ≤ b' := ⟨_, _, h1, ha, hb⟩
        have hB : But p H H := But.refl p H
        have hL := h2
        obtain ⟨a', b', hX, ha', hb'⟩ := hX
        refine ⟨_, rfl, _, _, _, _, rfl, rfl, SqL.of hX, atI_nat (j := 1) rfl, rfl, _, rfl, ite2 (fun e3 => ?_) (fun e3 => ?_)⟩
        · refine ⟨_, rfl, _, _, _, _, rfl, rfl, SqL.of hX, atI_nat (j := 3) rfl, _, _, rfl, rfl, .inr ⟨by decide, by decide⟩, _, _, rfl, rfl, .inl ⟨_, rfl, _, _, rfl, rfl, (by decide : (0 : Int) < 2147483647), _, rfl, _, _, _, _, rfl, rfl, hX, rfl, ?_⟩⟩
          refine ⟨_, rfl, _, _, _, _, rfl, rfl, SqL.of upd_same, atI_nat (j := 3) rfl, _, _, rfl, rfl, wide_div (b := 64) (by decide) (by decide) (by decide) (by decide), .inl ⟨_, rfl, _, rfl, _, _, rfl, rfl, hn, ?_⟩⟩
          exact q _ _ (Int.emod_nonneg _ (by omega)) (Int.emod_lt_of_pos _ hn) (hB.trans But.put) ⟨a', b', _, ns, upd_same, by rw [upd_ne nlp]; exact hL, hlen, ha', hb', Int.emod_nonneg _ (by decide), Int.emod_lt_of_pos _ (by decide)⟩
        · refine ⟨_, rfl, _, _, _, _, rfl, rfl, SqL.of hX, atI_nat (j := 1) rfl, .inl ⟨_, rfl, _, rfl, _, _, rfl, rfl, hn, ?_⟩⟩
          refine ⟨_, rfl, _, _, _, _, rfl, rfl, SqL.of hX, atI_nat (j := 1) rfl, _, rfl, _, _, rfl, rfl, wide_div hn hn2 (by decide) (by decide), _, rfl, _, _, _, _, rfl, rfl, hX, rfl, ?_⟩
          refine ⟨_, rfl, ?_⟩
          exact q _ _ (Int.emod_nonneg _ (by omega)) (Int.emod_lt_of_pos _ hn) (hB.trans But.put) ⟨_, b', m, ns, upd_same, by rw [upd_ne nlp]; exact hL, hlen, Int.ediv_nonneg ha' (by omega), hb', hm, hm2⟩
    · have hX : ∃ a' b' : Int, H p = some (.lst [.ref l, .int a', .int b', .int m]) ∧ 0 ≤ a' ∧ 0 ≤ b' := ⟨_, _, h1, ha, hb⟩
      have hB : But p H H := But.refl p H
      have hL := h2
      obtain ⟨a', b', hX, ha', hb'⟩ := hX
      refine ⟨_, rfl, _, _, _, _, rfl, rfl, SqL.of hX, atI_nat (j := 1) rfl, rfl, _, rfl, ite2 (fun e3 => ?_) (fun e3 => ?_)⟩
      · refine ⟨_, rfl, _, _, _, _, rfl, rfl, SqL.of hX, atI_nat (j := 3) rfl, _, _, rfl, rfl, .inr ⟨by decide, by decide⟩, _, _, rfl, rfl, .inl ⟨_, rfl, _, _, rfl, rfl, (by decide : (0 : Int) < 2147483647), _, rfl, _, _, _, _, rfl, rfl, hX, rfl, ?_⟩⟩
        refine ⟨_, rfl, _, _, _, _, rfl, rfl, SqL.of upd_same, atI_nat (j := 3) rfl, _, _, rfl, rfl, wide_div (b := 64) (by decide) (by decide) (by decide) (by decide), .inl ⟨_, rfl, _, rfl, _, _, rfl, rfl, hn, ?_⟩⟩
        exact q _ _ (Int.emod_nonneg _ (by omega)) (Int.emod_lt_of_pos _ hn) (hB.trans But.put) ⟨a', b', _, ns, upd_same, by rw [upd_ne nlp]; exact hL, hlen, ha', hb', Int.emod_nonneg _ (by decide), Int.emod_lt_of_pos _ (by decide)⟩
      · refine ⟨_, rfl, _, _, _, _, rfl, rfl, SqL.of hX, atI_nat (j := 1) rfl, .inl ⟨_, rfl, _, rfl, _, _, rfl, rfl, hn, ?_⟩⟩
        refine ⟨_, rfl, _, _, _, _, rfl, rfl, SqL.of hX, atI_nat (j := 1) rfl, _, rfl, _, _, rfl, rfl, wide_div hn hn2 (by decide) (by decide), _, rfl, _, _, _, _, rfl, rfl, hX, rfl, ?_⟩
        refine ⟨_, rfl, ?_⟩
        exact q _ _ (Int.emod_nonneg _ (by omega)) (Int.emod_lt_of_pos _ hn) (hB.trans But.put) ⟨_, b', m, ns, upd_same, by rw [upd_ne nlp]; exact hL, hlen, Int.ediv_nonneg ha' (by omega), hb', hm, hm2⟩

theorem ok__law_is_symbol {f : Addr} {fd : FuncData} (F : Fun K "_law_is_symbol" "_law_is_symbol" s__law_is_symbol f fd) (E : Bi K mg)  : FnOk P w K mg base CX0 1 f fd ["cell"] (sp__law_is_symbol K) := by
  refine F.ok sc__law_is_symbol (fun vs H Q E h => ?_) (fun cdv A outer s H vs Q E' hr h => ?_)
  · obtain ⟨x, d, rfl, _⟩ := h
    rfl
  · obtain ⟨x, d, rfl, hd, hk, q⟩ := h
    refine ⟨_, (pss_one (ps_ret (pe_and (pe_callB (show CallR _ (.builtin "isinstance") (rIsi K) from call_isi) (by rfl) E.b_isinstance (by decide +kernel) (pa_cons (pv 0) (pa_cons (pe_ty "tuple" (by rfl) E.b_tuple (by decide +kernel)) pa_nil))) (pe_and (pe_cmpR op_eq (pe_ix (show IxR _ (rIxT K) from ix_tup) (pv 0) pe_int (fun _ _ => rfl)) pe_str (nomark _)) (pe_one (pe_cmpR op_gt (pe_ix (show IxR _ (rIxT K) from ix_tup) (pv 0) pe_int (fun _ _ => rfl)) pe_int (nomark _))))))), ?_⟩
    refine ⟨x, rfl, _, _, _, _, _, rfl, .ty _, tyx_of hd, kit_ty (kitT _), _, rfl, ?_⟩
    cases hk with
    | int z => exact iteF q
    | pair w j hw =>
      cases hd with
      | tup hs ha =>
        obtain ⟨v, hv, hdv⟩ := DpAll.get (i := 0) ha rfl
        cases hdv
        refine iteT ⟨_, rfl, _, _, _, _, rfl, rfl, hs, atI_nat (j := 0) hv, rfl, _, rfl, ?_⟩
        rw [show decide (V.str w = V.str (Str.ofString "f")) = false from decide_eq_false fun z => hw (V.str.inj z)]
        exact iteF q
    | sym x k =>
      cases hd with
      | tup hs ha =>
        obtain ⟨v, hv, hdv⟩ := DpAll.get (i := 0) ha rfl
        obtain ⟨v2, hv2, hdv2⟩ := DpAll.get (i := 2) ha rfl
        cases hdv
        cases hdv2
        refine iteT ⟨_, rfl, _, _, _, _, rfl, rfl, hs, atI_nat (j := 0) hv, rfl, _, rfl, ?_⟩
        rw [decide_eq_true rfl]
        exact iteT ⟨_, rfl, _, _, _, _, rfl, rfl, hs, atI_nat (j := 2) hv2, _, _, rfl, rfl, q⟩

theorem ok__law_settled {f : Addr} {fd : FuncData} (F : Fun K "_law_settled" "_law_settled" s__law_settled f fd) (E : Bi K mg)  : FnOk P w K mg base CX0 1 f fd ["cells", "at", "symbols", "others"] (sp__law_settled K) := by
  refine F.ok sc__law_settled (fun vs H Q E h => ?_) (fun cdv A outer s H vs Q E' hr h => ?_)
  · obtain ⟨G, c, i, sy, ot, ps, d, S, O, rfl, _⟩ := h
    rfl
  · obtain ⟨G, c, i, sy, ot, ps, d, S, O, rfl, hc, hd, hp, hS, hO, hSy, hOt, hne, lS, lO, q⟩ := h
    refine ⟨_, (pss_cons (ps_set (i := 4) sc__law_settled.nd rfl (Or.inl rfl) (pe_ix (show IxR _ (rIxL K) from ix_list) (pv 0) (pv 1) (fun _ _ => rfl)))
      (pss_cons (ps_if (pw_or (pt_not (pt_val (pe_callB (show CallR _ (.builtin "isinstance") (rIsi K) from call_isi) (by rfl) E.b_isinstance (by decide +kernel) (pa_cons (pv 4) (pa_cons (pe_ty "tuple" (by rfl) E.b_tuple (by decide +kernel)) pa_nil))))) (pw_or1 (pt_cmpR op_ne (pe_ix (show IxR _ (rIxT K) from ix_tup) (pv 4) pe_int (fun _ _ => rfl)) pe_str (nomark _)))).pt (pss_one (ps_ret (pv 4))) pss_nil)
      (pss_cons (ps_if (pw_and (pt_cmpR op_eq (pe_op op_mod (pe_callTy call_int1 (by rfl) E.b_int (by decide +kernel) (pa_cons (pe_ix (show IxR _ (rIxT K) from ix_tup) (pv 4) pe_int (fun _ _ => rfl)) pa_nil)) pe_int) pe_int (nomark _)) (pw_and1 (pt_truth (pv 2) (fun _ => rfl)))).pt (pss_one (ps_ret (pe_tup (pa_cons pe_str (pa_cons (pe_ix (show IxR _ (rIxL K) from ix_list) (pv 2) (pe_op op_mod (pe_callTy call_int1 (by rfl) E.b_int (by decide +kernel) (pa_cons (pe_op op_fdivW (pe_ix (show IxR _ (rIxT K) from ix_tup) (pv 4) pe_int (fun _ _ => rfl)) pe_int) pa_nil)) (pe_callB (show CallR _ (.builtin "len") (fun xs H Q => ∃ p ys, xs = [V.ref p] ∧ (SqL K H p ys ∨ SqT K H p ys) ∧ Q (V.int ys.length) H) from call_len_seq) (by rfl) E.b_len PySem.boot_len (pa_cons (pv 2) pa_nil))) (fun _ _ => rfl)) pa_nil))))) pss_nil)
      (pss_one (ps_ret (pe_tup (pa_cons pe_str (pa_cons (pe_ix (show IxR _ (rIxL K) from ix_list) (pv 3) (pe_op op_mod (pe_callTy call_int1 (by rfl) E.b_int (by decide +kernel) (pa_cons (pe_op op_fdivW (pe_ix (show IxR _ (rIxT K) from ix_tup) (pv 4) pe_int (fun _ _ => rfl)) pe_int) pa_nil)) (pe_callB (show CallR _ (.builtin "len") (fun xs H Q => ∃ p ys, xs = [V.ref p] ∧ (SqL K H p ys ∨ SqT K H p ys) ∧ Q (V.int ys.length) H) from call_len_seq) (by rfl) E.b_len PySem.boot_len (pa_cons (pv 3) pa_nil))) (fun _ _ => rfl)) pa_nil)))))))), ?_⟩
    cases id hc with
    | @lst a xs _ g e1 ia =>
    obtain ⟨v, hv, iv⟩ := ImAll.get ia hd
    refine seq_asg ?_
    refine ⟨_, rfl, _, rfl, _, _, _, _, rfl, rfl, SqL.of e1, atI_nat (j := i) hv, ?_⟩
    refine gname (seq_ifN ?_)
    have dv := Im.dp _ _ iv
    refine ⟨_, rfl, _, _, _, _, _, rfl, .ty _, tyx_of dv, kit_ty (kitT _), _, rfl, ?_⟩
    have same : (∀ r, d ≠ laterD r) → Q v H := fun h => q v d H (.inl ⟨h, rfl⟩) (Same.refl H) (Im.mono (fun _ _ _ e => e) (fun _ g => .inl g) _ _ iv)
    cases id hp with
    | int z _ _ =>
      refine iteT ?_
      exact ⟨_, rfl, same fun r h => nomatch h⟩
    | self =>
      refine iteF ?_
      cases dv with
      | tup hs ha =>
      obtain ⟨v0, hv0, hdv0⟩ := DpAll.get (i := 0) ha rfl
      cases hdv0
      refine ⟨_, rfl, _, _, _, _, rfl, rfl, hs, atI_nat (j := 0) hv0, rfl, _, rfl, ?_⟩
      rw [show decide (V.str (Str.ofString "ref") = V.str (Str.ofString "later")) = false by decide +kernel]
      refine iteT ⟨_, rfl, same fun r h => ?_⟩
      unfold refD laterD at h
      injection h with h
      injection h with h _
      injection h with h
      exact absurd h (by decide +kernel)
    | sym x k _ _ =>
      refine iteF ?_
      cases dv with
      | tup hs ha =>
      obtain ⟨v0, hv0, hdv0⟩ := DpAll.get (i := 0) ha rfl
      cases hdv0
      refine ⟨_, rfl, _, _, _, _, rfl, rfl, hs, atI_nat (j := 0) hv0, rfl, _, rfl, ?_⟩
      rw [show decide (V.str (Str.ofString "f") = V.str (Str.ofString "later")) = false by decide +kernel]
      exact iteT ⟨_, rfl, same fun r h => sym_later h⟩
    | later r =>
      refine iteF ?_
      cases dv with
      | @tup a2 zs2 _ hs ha =>
      obtain ⟨v0, hv0, hdv0⟩ := DpAll.get (i := 0) ha rfl
      obtain ⟨v1, hv1, hdv1⟩ := DpAll.get (i := 1) ha rfl
      cases hdv0
      cases hdv1
      refine ⟨_, rfl, _, _, _, _, rfl, rfl, hs, atI_nat (j := 0) hv0, rfl, _, rfl, ?_⟩
      rw [decide_eq_true rfl]
      refine iteF ?_
      have sety : ∀ (wd : Str) (j : Nat) (p : Addr), H p = Option.none → Sett ps (laterD r) (.tuple [.str wd, .int (j : Int)]) → Q (.ref p) (upd H p (.tup [.str wd, .int (j : Int)])) := fun wd j p np hs => q _ _ _ hs (same_upd np) (.tup (.inr np) upd_same (.cons (.str _) (.cons (.int _) .nil)))
      have hz := hs
      have pick : ∀ (L : List Nat), L ≠ [] → ∃ j, j ∈ L ∧ atI (L.map fun (j : Nat) => V.int (j : Int)) (((r : Int) / 2) % (((L.map fun (j : Nat) => V.int (j : Int)).length : Nat) : Int)) = some (V.int (j : Int)) := fun L hL => by
        have hpos : 0 < L.length := List.length_pos_iff.mpr hL
        rw [List.length_map]
        have h0 : 0 ≤ ((r : Int) / 2) % ((L.length : Nat) : Int) := Int.emod_nonneg _ (by omega)
        have h1 : ((r : Int) / 2) % ((L.length : Nat) : Int) < ((L.length : Nat) : Int) := Int.emod_lt_of_pos _ (by omega)
        generalize ((r : Int) / 2) % ((L.length : Nat) : Int) = z at h0 h1
        obtain ⟨j, hj⟩ : ∃ j, L[z.toNat]? = some j := ⟨_, List.getElem?_eq_getElem (by omega)⟩
        exact ⟨j, List.mem_of_getElem? hj, at_of (j := z.toNat) (by omega) (by rw [List.getElem?_map, hj]; rfl)⟩
      have toO : tRet (tTup (tCons (tC (V.str (Str.ofString "ref"))) (tCons (tOp (rIxL K) (tVar 3) (tOp (rI (fun x j => 0 < j) fun i j => V.int (i % j)) (tCB (fun xs H Q => (∃ i, xs = [V.int i] ∧ Q (V.int i) H) ∨ ∃ k, xs = [V.bl k] ∧ Q (V.int (if k = true then 1 else 0)) H) (tCons (tOp (rI CDivW fun i j => V.int (i / j)) (tOp (rIxT K) (tVar 4) (tC (V.int 1))) (tC (V.int 2))) tNil)) (tCB (fun xs H_1 Q => ∃ p ys, xs = [V.ref p] ∧ (SqL K H_1 p ys ∨ SqT K H_1 p ys) ∧ Q (V.int ↑ys.length) H_1) (tCons (tVar 3) tNil)))) tNil))) { nx := fun x H' => Q V.non H', rt := Q } [some (V.ref a), some (.int (i : Int)), some (.ref sy), some (.ref ot), some (.ref a2)] H := by
        obtain ⟨j, hj, haj⟩ := pick O (hne rfl)
        obtain ⟨e, he1, he2⟩ := hOt j hj
        have hpos : 0 < O.length := List.length_pos_iff.mpr (hne rfl)
        refine ⟨_, rfl, _, rfl, _, _, _, _, rfl, rfl, hz, atI_nat (j := 1) hv1, _, _, rfl, rfl, wide_div (b := 64) (by decide) (by decide) (by decide) (by decide), .inl ⟨_, rfl, _, rfl, ot, _, rfl, .inl (SqL.of hO), _, _, rfl, rfl, by rw [List.length_map]; omega, _, _, _, _, rfl, rfl, SqL.of hO, haj, (by show 2 ≤ sizeLine; decide), fun p np => ?_⟩⟩
        exact sety "ref" j p np (.inr ⟨⟨r, rfl⟩, .inl ⟨j, e, rfl, he1, he2⟩⟩)
      refine seq_ifN ?_
      refine ⟨_, rfl, _, _, _, _, rfl, rfl, hz, atI_nat (j := 1) hv1, .inl ⟨_, rfl, _, _, rfl, rfl, (show (0 : Int) < 2 by decide), rfl, _, rfl, ite2 (fun g => ?_) (fun g => ?_)⟩⟩
      · refine ⟨_, rfl, _, .inl ⟨_, SqL.of hS, rfl⟩, ?_⟩
        by_cases hL : S = []
        · subst hL
          exact iteF toO
        · have hemp : (!(S.map fun (j : Nat) => V.int (j : Int)).isEmpty) = true := by
            cases S with
            | nil => exact absurd rfl hL
            | cons x y => rfl
          rw [hemp]
          refine iteT ?_
          obtain ⟨j, hj, haj⟩ := pick S hL
          obtain ⟨e, he1, he2⟩ := hSy j hj
          have hpos : 0 < S.length := List.length_pos_iff.mpr hL
          refine ⟨_, rfl, _, rfl, _, _, _, _, rfl, rfl, hz, atI_nat (j := 1) hv1, _, _, rfl, rfl, wide_div (b := 64) (by decide) (by decide) (by decide) (by decide), .inl ⟨_, rfl, _, rfl, sy, _, rfl, .inl (SqL.of hS), _, _, rfl, rfl, by rw [List.length_map]; omega, _, _, _, _, rfl, rfl, SqL.of hS, haj, (by show 2 ≤ sizeLine; decide), fun p np => ?_⟩⟩
          exact sety "str" j p np (.inr ⟨⟨r, rfl⟩, .inr ⟨j, e, rfl, he1, he2⟩⟩)
      · exact iteF toO

theorem ok__law_reachable {f : Addr} {fd : FuncData} (F : Fun K "_law_reachable" "_law_reachable" s__law_reachable f fd) (E : Bi K mg)  : FnOk P w K mg base CX0 1 f fd ["cells", "roots"] (sp__law_reachable K) := by
  refine F.ok sc__law_reachable (fun vs H Q E h => ?_) (fun cdv A outer s H vs Q E' hr h => ?_)
  · obtain ⟨c, r, cs, rs, rfl, _⟩ := h
    rfl
  · obtain ⟨c, r, cs, rs, rfl, hc, hq, wf, rd, l1, l2, q⟩ := h
    refine ⟨_, (pss_cons (ps_set (i := 2) sc__law_reachable.nd rfl (Or.inr rfl) (pe_lc (own := [("cell", 3)]) (g := gName 3) (tt := tYes) rfl sc__law_reachable.nd (pi_list (pv 0)) (blkOk_by (N := N__law_reachable) (sc := defScope s__law_reachable) (by decide +kernel)) (fun _ _ _ _ _ => pg_name (i := 3) sc__law_reachable.nd rfl (Or.inl rfl)) (fun _ _ _ _ _ => pts_nil) (fun _ _ _ _ _ => pe_bl)))
      (pss_cons (ps_set (i := 4) sc__law_reachable.nd rfl (Or.inl rfl) (pe_callTy call_list_of (by rfl) E.b_list (by decide +kernel) (pa_cons (pv 1) pa_nil)))
      (pss_cons (ps_for PassesOwn.never rfl (pi_range1 (by rfl) E.b_range (pa_cons (pe_op op_add (pe_op op_mul pe_int (pe_callB (show CallR _ (.builtin "len") (fun xs H Q => ∃ p ys, xs = [V.ref p] ∧ (SqL K H p ys ∨ SqT K H p ys) ∧ Q (V.int ys.length) H) from call_len_seq) (by rfl) E.b_len PySem.boot_len (pa_cons (pv 0) pa_nil))) pe_int) pa_nil)) (pg_name (i := 5) sc__law_reachable.nd rfl (Or.inl rfl)) (pss_cons (ps_if (pt_not (pt_truth (pv 4) (fun _ => rfl))) (pss_one ps_break) pss_nil)
      (pss_cons (ps_set (i := 3) sc__law_reachable.nd rfl (Or.inl rfl) (pe_bm0 PySem.F.plainAttrs_list PySem.F.slot_list_pop PySem.F.type_list_pop mt_pop (pv 4)))
      (pss_cons (ps_if (pw_or (pt_not (pt_val (pe_callB (show CallR _ (.builtin "isinstance") (rIsi K) from call_isi) (by rfl) E.b_isinstance (by decide +kernel) (pa_cons (pv 3) (pa_cons (pe_ty "tuple" (by rfl) E.b_tuple (by decide +kernel)) pa_nil))))) (pw_or (pt_cmpR op_eq (pe_ix (show IxR _ (rIxT K) from ix_tup) (pv 3) pe_int (fun _ _ => rfl)) pe_str (nomark _)) (pw_or1 (pt_val (pe_ix (show IxR _ (rIxL K) from ix_list) (pv 2) (pe_ix (show IxR _ (rIxT K) from ix_tup) (pv 3) pe_int (fun _ _ => rfl)) (fun _ _ => rfl)))))).pt (pss_one ps_continue) pss_nil)
      (pss_cons (ps_set (i := 6) sc__law_reachable.nd rfl (Or.inl rfl) (pe_ix (show IxR _ (rIxT K) from ix_tup) (pv 3) pe_int (fun _ _ => rfl)))
      (pss_cons (ps_asg pe_bl (pg_sub (pv 2) (pv 6) set_list))
      (pss_one (ps_if (pt_cmpR op_eq (pe_ix (show IxR _ (rIxT K) from ix_tup) (pv 3) pe_int (fun _ _ => rfl)) pe_str (nomark _)) (pss_one (ps_expr (pe_bm PySem.F.plainAttrs_list PySem.F.slot_list_append PySem.F.type_list_append mt_append (pv 4) (pa_cons (pe_ix (show IxR _ (rIxL K) from ix_list) (pv 0) (pv 6) (fun _ _ => rfl)) pa_nil)))) (pss_one (ps_for PassesOwn.never rfl (pi_range1 (by rfl) E.b_range (pa_cons (pe_ix (show IxR _ (rIxT K) from ix_tup) (pe_ix (show IxR _ (rIxL K) from ix_list) (pv 0) (pv 6) (fun _ _ => rfl)) pe_int (fun _ _ => rfl)) pa_nil)) (pg_name (i := 7) sc__law_reachable.nd rfl (Or.inl rfl)) (pss_one (ps_if (pt_not (pt_val (pe_ix (show IxR _ (rIxL K) from ix_list) (pv 2) (pe_op op_add (pe_op op_add (pv 6) pe_int) (pv 7)) (fun _ _ => rfl)))) (pss_one (ps_expr (pe_bm PySem.F.plainAttrs_list PySem.F.slot_list_append PySem.F.type_list_append mt_append (pv 4) (pa_cons (pe_tup (pa_cons pe_str (pa_cons (pe_op op_add (pe_op op_add (pv 6) pe_int) (pv 7)) pa_nil))) pa_nil)))) pss_nil))))))))))))
      (pss_one (ps_ret (pe_lc (own := [("at", 6)]) (g := gName 6) rfl sc__law_reachable.nd (pi_range1 (by rfl) E.b_range (pa_cons (pe_callB (show CallR _ (.builtin "len") (fun xs H Q => ∃ p ys, xs = [V.ref p] ∧ (SqL K H p ys ∨ SqT K H p ys) ∧ Q (V.int ys.length) H) from call_len_seq) (by rfl) E.b_len PySem.boot_len (pa_cons (pv 0) pa_nil)) pa_nil)) (blkOk_by (N := N__law_reachable) (sc := defScope s__law_reachable) (by decide +kernel)) (fun _ _ _ _ _ => pg_name (i := 6) sc__law_reachable.nd rfl (Or.inl rfl)) (fun _ _ _ _ _ => pts_one (pt_val (pe_ix (show IxR _ (rIxL K) from ix_list) (pv 2) (pv 6) (fun _ _ => rfl)))) (fun _ _ _ _ _ => (pv 6)))))))), ?_⟩
    cases id hc with
    | @lst a xs _ hs ha =>
    cases id hq with
    | @lst b ys _ ht hb =>
    have hxl := DpAll.len ha
    have hyl := DpAll.len hb
    refine seq_any ?_
    refine ⟨_, rfl, a, rfl, ⟨_, hs⟩, fun p np => ?_⟩
    refine walk_gen (n := xs.length) walk_list (fun i H' => Same H H' ∧ H' p = some (.lst ((List.replicate i false).map V.bl))) ⟨same_upd np, upd_same⟩ (fun j H' _ h => h.1.seq hs) ?_ ?_
    · rintro i z H2 H3 hi ⟨s2, h2⟩ ⟨rfl, hz⟩
      refine gname ⟨rfl, _, h2, small1000 (by rw [List.length_map, List.length_replicate]; omega), fun b o e => by rw [upd_ne (ne_of_none e np)]; exact s2 _ _ e, ?_⟩
      rw [upd_same, List.replicate_succ', List.map_append]
      rfl
    · rintro H1 ⟨s1, h1⟩
      rw [hxl] at h1
      refine gname (nxp (seq_asg ?_))
      refine ⟨_, rfl, b, _, rfl, .inl (s1.seq ht), fun w nw1 => ?_⟩
      have nw : H w = Option.none := s1.free nw1
      have pw : p ≠ w := ne_of_none h1 nw1
      have s2 := s1.trans (same_upd (o := .lst ys) nw1)
      have h2 : (upd H1 w (.lst ys)) p = some (.lst ((List.replicate cs.length false).map V.bl)) := by rw [upd_ne pw]; exact h1
      have h2w : (upd H1 w (.lst ys)) w = some (.lst ys) := upd_same
      have hb2 := dp_sameAll s2 _ _ hb
      generalize upd H1 w (.lst ys) = H2 at s2 h2 h2w hb2 ⊢
      refine gname (seq_any ?_)
      have W0 : MkInv cs rs (List.replicate cs.length false) (fun j => ∃ e ∈ rs, j ∈ rootN e) := inv_start (fun j ⟨d, hd, hjd⟩ => by
        have hcd := (rd d hd).cell
        cases hcd with
        | int z a b => rw [root_int] at hjd; cases hjd
        | sym x k a b => rw [root_sym] at hjd; cases hjd
        | ref k hk => rw [root_ref, List.mem_singleton] at hjd; omega
        | str k hk => rw [root_str, List.mem_singleton] at hjd; omega) fun j => Iff.rfl
      have fin : ∀ (σ : L2.St) (H' : Hp) (mk : List Bool), Same H H' → H' p = some (.lst (mk.map V.bl)) → Least cs rs mk → ∀ (v3 v5 v6 v7 : Option V), tRet (tLc (iRng1 (tCons (tCB (fun xs H Q => ∃ p ys, xs = [V.ref p] ∧ (SqL K H p ys ∨ SqT K H p ys) ∧ Q (V.int ys.length) H) (tCons (tVar 0) tNil)) tNil)) (gName 6) (tB (tOp (rIxL K) (tVar 2) (tVar 6))) (tVar 6) [6]) { nx := fun x H' => Q V.non H', rt := Q } [some (.ref a), some (.ref b), some (.ref p), v3, some (.ref w), v5, v6, v7] H' := by
        intro σ H' mk s3 h3 L v3 v5 v6 v7
        refine ⟨_, rfl, a, xs, rfl, .inl (s3.seq hs), _, rfl, by omega, by omega, fun R hR => ?_⟩
        have nR : H R = Option.none := s3.free hR
        have pR : p ≠ R := ne_of_none h3 hR
        refine lc_range (fun i H'' => Same H' H'' ∧ H'' R = some (.lst ((resN mk i).map fun (j : Nat) => V.int (j : Int)))) ⟨same_upd hR, upd_same⟩ ?_ ?_
        · rintro i H4 hi ⟨s4, h4⟩
          have hrl := resN_len mk i
          have hi2 : i < mk.length := by rw [L.1]; omega
          obtain ⟨b, hb⟩ : ∃ b, mk[i]? = some b := ⟨_, List.getElem?_eq_getElem hi2⟩
          rw [Int.zero_add]
          refine ⟨rfl, _, rfl, _, rfl, _, _, _, _, rfl, rfl, SqL.of (s4 _ _ h3), atI_nat (j := i) (by rw [List.getElem?_map, hb]; rfl), _, rfl, ?_⟩
          rw [resN_succ, hb]
          cases b with
          | true =>
            refine iteT ⟨_, rfl, _, h4, small1000 (by rw [List.length_map]; omega), fun b o e => by rw [upd_ne (ne_of_none e hR)]; exact s4 _ _ e, ?_⟩
            rw [upd_same, if_pos rfl, List.map_append]
            rfl
          | false =>
            refine iteF ⟨s4, ?_⟩
            rw [if_neg (by decide), List.append_nil]
            exact h4
        · rintro H4 ⟨s4, h4⟩
          have hml : ((xs.length : Nat) : Int).toNat = mk.length := by rw [Int.toNat_natCast, L.1, hxl]
          rw [hml] at h4
          exact q R mk _ L (s3.trans s4) h4
      refine ⟨_, rfl, a, xs, rfl, .inl (s2.seq hs), _, _, rfl, rfl, .inl ⟨by decide, by decide⟩, _, _, rfl, rfl, _, rfl, by omega, by omega, ?_⟩
      refine for_range (lo := 0) (n := (20 * ((xs.length : Nat) : Int) + 20).toNat) (fun i σ H' => ∃ (mk : List Bool) (vs : List V) (es : List PyData) (v3 v5 v6 v7 : Option V), σ = [some (.ref a), some (.ref b), some (.ref p), v3, some (.ref w), v5, v6, v7] ∧ Same H H' ∧ H' p = some (.lst (mk.map V.bl)) ∧ H' w = some (.lst vs) ∧ DpAll K H' vs es ∧ (∀ e ∈ es, RootD cs e) ∧ MkInv cs rs mk (fun j => ∃ e ∈ es, j ∈ rootN e) ∧ vs.length + 10 * unm mk + i ≤ 10 * cs.length + 10)
        ⟨_, ys, rs, _, _, _, _, rfl, s2, h2, h2w, hb2, rd, W0, by rw [unm_rep]; omega⟩ ?_ ?_
      · rintro i σ H3 hi ⟨mk, vs, es, v3, v5, v6, v7, rfl, s3, h3, h3w, hd3, rd3, I3, hm3⟩
        have hvl := DpAll.len hd3
        refine gname (seq_ifN ?_)
        refine ⟨_, rfl, _, .inl ⟨_, SqL.of h3w, rfl⟩, ?_⟩
        rcases List.eq_nil_or_concat vs with z | ⟨B, v, z⟩
        · subst z
          cases hd3
          refine iteT ?_
          exact fin [] _ mk s3 h3 (inv_done I3 fun j ⟨e, he, _⟩ => nomatch he) _ _ _ _
        · rw [List.concat_eq_append] at z
          subst z
          have hne : (!(!(B ++ [v]).isEmpty)) = false := by cases B <;> rfl
          rw [hne]
          refine iteF ?_
          obtain ⟨E, e, rfl, dB, dv⟩ := dp_snoc hd3
          have re := rd3 e (List.mem_append_right _ (List.mem_singleton.mpr rfl))
          have rE : ∀ d ∈ E, RootD cs d := fun d hd => rd3 d (List.mem_append_left _ hd)
          have hbl : (B ++ [v]).length = B.length + 1 := by rw [List.length_append, List.length_singleton]
          have hEl : (E ++ [e]).length = E.length + 1 := by rw [List.length_append, List.length_singleton]
          have hBE := DpAll.len dB
          have nt3 : notTup H3 w := .inl ⟨_, h3w⟩
          refine seq_asg ?_
          refine ⟨_, rfl, .inl ⟨rfl, _, SqL.of h3w⟩, w, _, v, rfl, rfl, h3w, by simp, ?_⟩
          rw [List.dropLast_concat]
          have s4 : Same H (upd H3 w (.lst B)) := fun b o e => by rw [upd_ne (ne_of_none e nw)]; exact s3 _ _ e
          have h4 : (upd H3 w (.lst B)) p = some (.lst (mk.map V.bl)) := by rw [upd_ne pw]; exact h3
          have h4w : (upd H3 w (.lst B)) w = some (.lst B) := upd_same
          have dB4 : DpAll K (upd H3 w (.lst B)) B E := dp_putAll nt3 _ _ (cells_lay fun d hd => (rE d hd).cell).2.2.2 dB
          have dv4 : Dp K (upd H3 w (.lst B)) v e := dp_put nt3 _ _ (cell_lay re.cell).2.2.2 dv
          generalize upd H3 w (.lst B) = H4 at s4 h4 h4w dB4 dv4 ⊢
          refine gname (seq_ifN ?_)
          have skip : ∀ (u6 : Option V), (∀ j ∈ rootN e, mkd mk j) → ∃ (mk : List Bool) (vs : List V) (es : List PyData) (v3 v5 v6 v7' : Option V), [some (V.ref a), some (.ref b), some (.ref p), some v, some (.ref w), some (.int (0 + (i : Int))), u6, v7] = [some (.ref a), some (.ref b), some (.ref p), v3, some (.ref w), v5, v6, v7'] ∧ Same H H4 ∧ H4 p = some (.lst (mk.map V.bl)) ∧ H4 w = some (.lst vs) ∧ DpAll K H4 vs es ∧ (∀ e ∈ es, RootD cs e) ∧ MkInv cs rs mk (fun j => ∃ e ∈ es, j ∈ rootN e) ∧ vs.length + 10 * unm mk + (i + 1) ≤ 10 * cs.length + 10 := fun u6 hr => by
            refine ⟨mk, B, E, _, _, _, _, rfl, s4, h4, h4w, dB4, rE, inv_skip I3 (fun j ⟨d, hd, hj⟩ => ?_) (fun j ⟨d, hd, hj⟩ => ⟨d, List.mem_append_left _ hd, hj⟩), by omega⟩
            rcases List.mem_append.mp hd with z | z
            · exact .inl ⟨d, z, hj⟩
            · rw [List.mem_singleton.mp z] at hj
              exact .inr (hr j hj)
          refine ⟨_, rfl, _, _, _, _, _, rfl, .ty _, tyx_of dv4, kit_ty (kitT _), _, rfl, ?_⟩
          have hce := re.cell
          have two : ∀ (wd : Str) (t : Nat), e = .tuple [.str wd, .int (t : Int)] → ∃ (u : Addr) (zs : List V), v = .ref u ∧ SqT K H4 u zs ∧ zs[0]? = some (.str wd) ∧ zs[1]? = some (.int (t : Int)) := fun wd t he => by
            subst he
            cases dv4 with
            | tup hs ha =>
            obtain ⟨v0, hv0, hdv0⟩ := DpAll.get (i := 0) ha rfl
            obtain ⟨v1, hv1, hdv1⟩ := DpAll.get (i := 1) ha rfl
            cases hdv0
            cases hdv1
            exact ⟨_, _, rfl, hs, hv0, hv1⟩
          rcases root_form re with ⟨z, rfl⟩ | ⟨x, k, rfl⟩ | ⟨wd, t, he, hroot, hwd, htl, d, hd, hcase⟩
          · refine iteT ?_
            exact skip _ fun j hj => by rw [root_int] at hj; cases hj
          · refine iteF ?_
            cases id dv4 with
            | tup hs9 ha9 =>
            obtain ⟨v0, hv0, hdv0⟩ := DpAll.get (i := 0) ha9 rfl
            cases hdv0
            refine ⟨_, rfl, _, _, _, _, rfl, rfl, hs9, atI_nat (j := 0) hv0, rfl, _, rfl, ?_⟩
            rw [decide_eq_true rfl]
            refine iteT ?_
            exact skip _ fun j hj => by rw [root_sym] at hj; cases hj
          · obtain ⟨u, zs, rfl, hz, hz0, hz1⟩ := two wd t he
            rw [show isT e = true by rw [he]; rfl]
            refine iteF ?_
            have hml : t < mk.length := by rw [I3.len]; exact htl
            obtain ⟨m0, hm0⟩ : ∃ m0, mk[t]? = some m0 := ⟨_, List.getElem?_eq_getElem hml⟩
            refine ⟨_, rfl, _, _, _, _, rfl, rfl, hz, atI_nat (j := 0) hz0, rfl, _, rfl, ?_⟩
            rw [show decide (V.str wd = V.str (Str.ofString "f")) = false from decide_eq_false fun z => hwd (V.str.inj z)]
            refine iteF ?_
            refine ⟨_, rfl, _, rfl, _, _, _, _, rfl, rfl, hz, atI_nat (j := 1) hz1, _, _, _, _, rfl, rfl, SqL.of h4, atI_nat (j := t) (by rw [List.getElem?_map, hm0]; rfl), _, rfl, ?_⟩
            cases m0 with
            | true =>
              refine iteT ?_
              exact skip _ fun j hj => by
                rw [hroot, List.mem_singleton] at hj
                rw [hj]
                exact hm0
            | false =>
              refine iteF (seq_asg ?_)
              refine ⟨_, rfl, _, _, _, _, rfl, rfl, hz, atI_nat (j := 1) hz1, gname (seq_asg ?_)⟩
              refine ⟨_, rfl, _, rfl, p, _, _, t, rfl, rfl, h4, ixN_nat (by rw [List.length_map]; exact hml), ?_⟩
              have hset : (mk.map V.bl).set t (V.bl true) = (mk.set t true).map V.bl := by rw [List.map_set]
              rw [hset]
              have nt4 : notTup H4 p := .inl ⟨_, h4⟩
              have s5 : Same H (upd H4 p (.lst ((mk.set t true).map V.bl))) := fun b o e => by rw [upd_ne (ne_of_none e np)]; exact s4 _ _ e
              have h5 : (upd H4 p (.lst ((mk.set t true).map V.bl))) p = some (.lst ((mk.set t true).map V.bl)) := upd_same
              have h5w : (upd H4 p (.lst ((mk.set t true).map V.bl))) w = some (.lst B) := by rw [upd_ne pw.symm]; exact h4w
              have dB5 : DpAll K (upd H4 p (.lst ((mk.set t true).map V.bl))) B E := dp_putAll nt4 _ _ (cells_lay fun d hd => (rE d hd).cell).2.2.2 dB4
              have hz5 : SqT K (upd H4 p (.lst ((mk.set t true).map V.bl))) u zs := sqT_put nt4 hz
              generalize upd H4 p (.lst ((mk.set t true).map V.bl)) = H5 at s5 h5 h5w dB5 hz5
              have hun := unm_set mk t hm0
              obtain ⟨y, hy, dy0⟩ := DpAll.get ha hd
              have dy := dp_same s5 _ _ dy0
              have hcd := wf.cell d (List.mem_of_getElem? hd)
              have vis : ∀ ps : List PyData, (∀ k ∈ sucN d t, (∃ e ∈ ps, k ∈ rootN e) ∨ mkd (mk.set t true) k) → (∀ e ∈ ps, ∀ k ∈ rootN e, k ∈ sucN d t) → MkInv cs rs (mk.set t true) (fun k => ∃ e ∈ E ++ ps, k ∈ rootN e) := fun ps h1 h2 => inv_visit wf I3 (w := t) ⟨e, List.mem_append_right _ (List.mem_singleton.mpr rfl), by rw [hroot]; exact List.mem_singleton.mpr rfl⟩ hd
                (fun k ⟨e', he', hk⟩ => (List.mem_append.mp he').elim (fun z => .inl ⟨e', List.mem_append_left _ z, hk⟩) fun z => .inr (by rw [List.mem_singleton.mp z, hroot] at hk; exact List.mem_singleton.mp hk))
                (fun k hk => (h1 k hk).elim (fun ⟨e', he', hk'⟩ => .inl ⟨e', List.mem_append_right _ he', hk'⟩) .inr)
                fun k ⟨e', he', hk⟩ => (List.mem_append.mp he').elim (fun z => .inl ⟨e', List.mem_append_left _ z, hk⟩) fun z => .inr (h2 e' z k hk)
              refine ⟨_, rfl, _, _, _, _, rfl, rfl, hz5, atI_nat (j := 0) hz0, rfl, _, rfl, ?_⟩
              have hBs : B.length < sizeLine := small1000 (by omega)
              rcases hcase with ⟨rfl, hsy⟩ | ⟨rfl, hsy⟩
              · rw [decide_eq_true rfl]
                refine iteT ?_
                refine ⟨_, rfl, .inl ⟨rfl, _, SqL.of h5w⟩, _, rfl, _, rfl, _, _, _, _, rfl, rfl, s5.seq hs, atI_nat (j := t) hy, _, _, _, rfl, rfl, h5w, hBs, ?_⟩
                have nt5 : notTup H5 w := .inl ⟨_, h5w⟩
                have rdd := wf.good d (List.mem_of_getElem? hd) hsy
                refine ⟨mk.set t true, B ++ [y], E ++ [d], _, _, _, _, rfl, fun b o e => by rw [upd_ne (ne_of_none e nw)]; exact s5 _ _ e, by rw [upd_ne pw]; exact h5, upd_same, ?_, fun e' he' => ?_, vis [d] (fun k hk => .inl ⟨d, List.mem_singleton.mpr rfl, by rw [← suc_root hcd hsy t]; exact hk⟩) (fun e' he' k hk => by rw [List.mem_singleton.mp he', ← suc_root hcd hsy t] at hk; exact hk), by rw [List.length_append, List.length_singleton]; omega⟩
                · exact DpAll.app (dp_putAll nt5 _ _ (cells_lay fun d hd => (rE d hd).cell).2.2.2 dB5) (.cons (dp_put nt5 _ _ (cell_lay hcd).2.2.2 dy) .nil)
                · rcases List.mem_append.mp he' with z | z
                  · exact rE e' z
                  · rw [List.mem_singleton.mp z]; exact rdd
              · rw [show decide (V.str (Str.ofString "str") = V.str (Str.ofString "ref")) = false by decide +kernel]
                refine iteF ?_
                obtain ⟨x, k, rfl, hk0, hk8⟩ := sy_form hcd hsy
                cases id dy with
                | @tup u2 zs2 _ hz2 az2 =>
                obtain ⟨v2, hv2, dv2⟩ := DpAll.get (i := 2) az2 rfl
                cases dv2
                refine ⟨_, rfl, _, rfl, _, _, _, _, rfl, rfl, s5.seq hs, atI_nat (j := t) hy, _, _, _, _, rfl, rfl, hz2, atI_nat (j := 2) hv2, _, rfl, by omega, by omega, ?_⟩
                refine for_range (lo := 0) (n := ((k : Nat) : Int).toNat) (fun m σ H' => ∃ (us : List V) (ps : List PyData) (u7 : Option V), σ = [some (.ref a), some (.ref b), some (.ref p), some (.ref u), some (.ref w), some (.int (0 + (i : Int))), some (.int (t : Int)), u7] ∧ Same H H' ∧ H' p = some (.lst ((mk.set t true).map V.bl)) ∧ H' w = some (.lst (B ++ us)) ∧ DpAll K H' B E ∧ DpAll K H' us ps ∧ (∀ e ∈ ps, ∃ m', m' < k ∧ e = refD (t + 1 + m')) ∧ (∀ m', m' < m → mkd (mk.set t true) (t + 1 + m') ∨ refD (t + 1 + m') ∈ ps) ∧ ps.length ≤ m)
                  ⟨[], [], _, rfl, s5, h5, by rw [List.append_nil]; exact h5w, dB5, .nil, (fun e he => nomatch he), (fun m' hm' => absurd hm' (by omega)), Nat.le_refl 0⟩ ?_ ?_
                · rintro m σ H6 hm ⟨us, ps, u7, rfl, s6, h6, h6w, dB6, du6, hps, hall, hpl⟩
                  have hul := DpAll.len du6
                  rw [Int.toNat_natCast] at hm
                  refine gname ?_
                  have ec : (t : Int) + 1 + (0 + (m : Int)) = ((t + 1 + m : Nat) : Int) := by omega
                  obtain ⟨c, hc9, hcs⟩ := wf.sym t x k hd m hm
                  have hl9 := (List.getElem?_eq_some_iff.mp hc9).1
                  have hml9 : t + 1 + m < (mk.set t true).length := by rw [List.length_set, I3.len]; exact hl9
                  obtain ⟨m1, hm1⟩ : ∃ m1, (mk.set t true)[t + 1 + m]? = some m1 := ⟨_, List.getElem?_eq_getElem hml9⟩
                  refine ⟨_, rfl, _, rfl, _, _, rfl, rfl, _, rfl, _, _, rfl, rfl, _, _, _, _, rfl, rfl, SqL.of h6, by rw [ec]; exact atI_nat (j := t + 1 + m) (by rw [List.getElem?_map, hm1]; rfl), _, rfl, ?_⟩
                  cases m1 with
                  | true =>
                    refine iteF ?_
                    refine ⟨us, ps, _, rfl, s6, h6, h6w, dB6, du6, hps, fun m' hm' => ?_, by omega⟩
                    by_cases z : m' = m
                    · rw [z]; exact .inl hm1
                    · exact hall m' (by omega)
                  | false =>
                    refine iteT ?_
                    refine ⟨_, rfl, .inl ⟨rfl, _, SqL.of h6w⟩, _, rfl, _, _, rfl, rfl, _, rfl, _, _, rfl, rfl, (by show 2 ≤ sizeLine; decide), fun p9 np9 => ?_⟩
                    have s9 := same_upd (o := .tup [.str "ref", .int ((t : Int) + 1 + (0 + (m : Int)))]) np9
                    have w9 := s9 _ _ h6w
                    have nt9 : notTup (upd H6 p9 (.tup [.str "ref", .int ((t : Int) + 1 + (0 + (m : Int)))])) w := .inl ⟨_, w9⟩
                    have d9 : Dp K (upd H6 p9 (.tup [.str "ref", .int ((t : Int) + 1 + (0 + (m : Int)))])) (.ref p9) (refD (t + 1 + m)) := by
                      unfold refD
                      rw [← ec]
                      exact .tup (SqT.of upd_same) (.cons (.str _) (.cons (.int _) .nil))
                    have sA := s6.trans s9
                    have h9 := s9 _ _ h6
                    have dB9 := dp_sameAll s9 _ _ dB6
                    have du9 := dp_sameAll s9 _ _ du6
                    refine ⟨_, _, _, rfl, rfl, w9, small1000 (by rw [List.length_append]; omega), ?_⟩
                    refine ⟨us ++ [.ref p9], ps ++ [refD (t + 1 + m)], _, rfl, fun b o e => by rw [upd_ne (ne_of_none e nw)]; exact sA _ _ e, by rw [upd_ne pw]; exact h9, by rw [upd_same, List.append_assoc], dp_putAll nt9 _ _ (cells_lay fun d hd => (rE d hd).cell).2.2.2 dB9, ?_, fun e' he' => ?_, fun m' hm' => ?_, by rw [List.length_append, List.length_singleton]; omega⟩
                    · refine DpAll.app (dp_putAll nt9 _ _ (cells_lay (n := cs.length + 100) fun d hd => ?_).2.2.2 du9) (.cons (dp_put nt9 _ _ (cell_lay (.ref (n := t + 1 + m + 1) _ (by omega))).2.2.2 d9) .nil)
                      obtain ⟨m', hm', rfl⟩ := hps d hd
                      exact .ref _ (by omega)
                    · rcases List.mem_append.mp he' with z | z
                      · exact hps e' z
                      · exact ⟨m, hm, List.mem_singleton.mp z⟩
                    · by_cases z : m' = m
                      · rw [z]; exact .inr (List.mem_append_right _ (List.mem_singleton.mpr rfl))
                      · exact (hall m' (by omega)).elim .inl fun z => .inr (List.mem_append_left _ z)
                · rintro σ H6 ⟨us, ps, u7, rfl, s6, h6, h6w, dB6, du6, hps, hall, hpl⟩
                  have hul := DpAll.len du6
                  rw [Int.toNat_natCast] at hall hpl
                  refine ⟨mk.set t true, B ++ us, E ++ ps, _, _, _, _, rfl, s6, h6, h6w, DpAll.app dB6 du6, fun e' he' => ?_, vis ps (fun k2 hk2 => ?_) (fun e' he' k2 hk2 => ?_), by rw [List.length_append]; omega⟩
                  · rcases List.mem_append.mp he' with z | z
                    · exact rE e' z
                    · obtain ⟨m', hm', rfl⟩ := hps e' z
                      obtain ⟨c, hc9, hcs⟩ := wf.sym t x k hd m' hm'
                      exact ⟨.ref _ (List.getElem?_eq_some_iff.mp hc9).1, rfl, fun j hj => (ref_str hj).elim, fun j hj => by rw [← ref_inj hj]; exact ⟨c, hc9, hcs⟩⟩
                  · rw [suc_sym] at hk2
                    obtain ⟨m', hm', rfl⟩ := List.mem_map.mp hk2
                    rcases hall m' (List.mem_range.mp hm') with z | z
                    · exact .inr z
                    · exact .inl ⟨_, z, by rw [root_ref]; exact List.mem_singleton.mpr rfl⟩
                  · obtain ⟨m', hm', rfl⟩ := hps e' he'
                    rw [root_ref, List.mem_singleton] at hk2
                    rw [suc_sym, hk2]
                    exact List.mem_map.mpr ⟨m', List.mem_range.mpr hm', rfl⟩
      · rintro σ H3 ⟨mk, vs, es, v3, v5, v6, v7, rfl, s3, h3, h3w, hd3, rd3, I3, hm3⟩
        omega

theorem ok__law_moved {f : Addr} {fd : FuncData} (F : Fun K "_law_moved" "_law_moved" s__law_moved f fd) (E : Bi K mg)  : FnOk P w K mg base CX0 1 f fd ["cell", "places"] (sp__law_moved K) := by
  refine F.ok sc__law_moved (fun vs H Q E h => ?_) (fun cdv A outer s H vs Q E' hr h => ?_)
  · obtain ⟨x, d, p, L, n, rfl, _⟩ := h
    rfl
  · obtain ⟨x, d, p, L, n, rfl, dx, hc, hp, nd, hs, q⟩ := h
    refine ⟨_, (pss_cons (ps_if (pw_or (pt_not (pt_val (pe_callB (show CallR _ (.builtin "isinstance") (rIsi K) from call_isi) (by rfl) E.b_isinstance (by decide +kernel) (pa_cons (pv 0) (pa_cons (pe_ty "tuple" (by rfl) E.b_tuple (by decide +kernel)) pa_nil))))) (pw_or1 (pt_cmpR op_eq (pe_ix (show IxR _ (rIxT K) from ix_tup) (pv 0) pe_int (fun _ _ => rfl)) pe_str (nomark _)))).pt (pss_one (ps_ret (pv 0))) pss_nil)
      (pss_one (ps_ret (pe_tup (pa_cons (pe_ix (show IxR _ (rIxT K) from ix_tup) (pv 0) pe_int (fun _ _ => rfl)) (pa_cons (pe_dget (hu_of hr) (pv 1) (pe_ix (show IxR _ (rIxT K) from ix_tup) (pv 0) pe_int (fun _ _ => rfl)) (fun _ _ => rfl)) pa_nil)))))), ?_⟩
    refine st_of (σ := [some _, some _]) rfl ?_
    walk_at "go"
    refine isi_tup dx ?_
    cases hc with
    | int z a b =>
      walk_at "go"
      refine iteT ?_
      walk_at "go"
      exact q _ _ (Same.refl H) (by rw [mov_int]; exact dx)
    | sym y k a b =>
      obtain ⟨b, xs', rfl, sq, ax'⟩ := dp_tup dx
      obtain ⟨w0, hw0, dw0⟩ := DpAll.get (i := 0) ax' rfl
      cases dw0
      walk_at "go"
      refine iteF ?_
      walk_at "go"
      refine ixT (j := 0) sq hw0 ?_
      walk_at "go"
      refine iteT ?_
      walk_at "go"
      exact q _ _ (Same.refl H) (by rw [mov_sym]; exact dx)
    | ref j _ =>
      have hj := hs j (by rw [root_ref]; exact List.mem_singleton.mpr rfl)
      obtain ⟨b, xs', rfl, sq, ax'⟩ := dp_tup dx
      obtain ⟨w0, hw0, dw0⟩ := DpAll.get (i := 0) ax' rfl
      obtain ⟨w1, hw1, dw1⟩ := DpAll.get (i := 1) ax' rfl
      cases dw0
      cases dw1
      walk_at "go"
      refine iteF ?_
      walk_at "go"
      refine ixT (j := 0) sq hw0 ?_
      walk_at "go"
      refine iteF ?_
      walk_at "go"
      refine ixT (j := 0) sq hw0 ?_
      walk_at "go"
      refine ixT (j := 1) sq hw1 ?_
      refine ⟨p, _, rfl, .inl ⟨_, Sum.inl (j : Int), hp, rfl, (kvP_val nd _ (Nat.le_refl _) (List.idxOf_lt_length_iff.mpr hj)).symm⟩, ?_⟩
      walk_at "go"
      refine newN (n := 2) rfl (by decide) fun t nt => ?_
      exact q _ _ (same_upd nt) (by rw [mov_ref]; exact .tup (SqT.of upd_same) (.cons (.str _) (.cons (.int _) .nil)))
    | str j _ =>
      have hj := hs j (by rw [root_str]; exact List.mem_singleton.mpr rfl)
      obtain ⟨b, xs', rfl, sq, ax'⟩ := dp_tup dx
      obtain ⟨w0, hw0, dw0⟩ := DpAll.get (i := 0) ax' rfl
      obtain ⟨w1, hw1, dw1⟩ := DpAll.get (i := 1) ax' rfl
      cases dw0
      cases dw1
      walk_at "go"
      refine iteF ?_
      walk_at "go"
      refine ixT (j := 0) sq hw0 ?_
      walk_at "go"
      refine iteF ?_
      walk_at "go"
      refine ixT (j := 0) sq hw0 ?_
      walk_at "go"
      refine ixT (j := 1) sq hw1 ?_
      refine ⟨p, _, rfl, .inl ⟨_, Sum.inl (j : Int), hp, rfl, (kvP_val nd _ (Nat.le_refl _) (List.idxOf_lt_length_iff.mpr hj)).symm⟩, ?_⟩
      walk_at "go"
      refine newN (n := 2) rfl (by decide) fun t nt => ?_
      exact q _ _ (same_upd nt) (by rw [mov_str]; exact .tup (SqT.of upd_same) (.cons (.str _) (.cons (.int _) .nil)))

theorem ok_arity_of {f : Addr} {fd : FuncData} (F : Fun K "arity_of" "arity_of" s_arity_of f fd) (E : Bi K mg) (D_is_symbol : Has P w K mg base 1 "is_symbol" ["node"] (sp_is_symbol K)) : FnOk P w K mg base CX0 2 f fd ["node"] (sp_arity_of K) := by
  obtain ⟨f_is_symbol, fd_is_symbol, G_is_symbol, g_is_symbol, kp_is_symbol, b_is_symbol⟩ := D_is_symbol
  refine F.ok sc_arity_of (fun vs H Q E h => ?_) (fun cdv A outer s H vs Q E' hr h => ?_)
  · obtain ⟨x, d, rfl, _⟩ := h
    rfl
  · obtain ⟨x, d, rfl, hd, hn, q⟩ := h
    refine ⟨_, (pss_one (ps_ret (pe_ifExp (pt_val (pe_call G_is_symbol (hr.mono (by decide)) (by rfl) g_is_symbol kp_is_symbol b_is_symbol .nil pass0 (pa_cons (pv 0) pa_nil))) (pe_ix (show IxR _ (rIxT K) from ix_tup) (pv 0) pe_int (fun _ _ => rfl)) pe_int))), ?_⟩
    refine ⟨x, rfl, x, d, rfl, hd, hn, _, rfl, ite2 (fun e => ?_) (fun e => ?_)⟩
    · obtain ⟨wd, nd⟩ := hn
      cases nd with
      | v n h1 h2 => cases e
      | i n h1 h2 => cases e
      | f y n h1 h2 h3 =>
        cases hd with
        | tup hs ha =>
          obtain ⟨v, hv, hdv⟩ := DpAll.get (i := 2) ha rfl
          cases hdv
          refine ⟨_, rfl, _, _, _, _, rfl, rfl, hs, atI_nat (j := 2) hv, ?_⟩
          have e2 : ((arN (.tuple [.str "f", .str y, .int n]) : Nat) : Int) = n := Int.toNat_of_nonneg h2
          rw [e2] at q
          exact q
    · rw [arN_nsym (Bool.eq_false_iff.mpr e)] at q
      exact q

theorem ok_moved {f : Addr} {fd : FuncData} (F : Fun K "moved" "moved" s_moved f fd) (E : Bi K mg) (D_is_link : Has P w K mg base 1 "is_link" ["cell"] (sp_is_link K)) : FnOk P w K mg base CX0 2 f fd ["cell", "places"] (sp_moved K) := by
  obtain ⟨f_is_link, fd_is_link, G_is_link, g_is_link, kp_is_link, b_is_link⟩ := D_is_link
  refine F.ok sc_moved (fun vs H Q E h => ?_) (fun cdv A outer s H vs Q E' hr h => ?_)
  · obtain ⟨x, d, p, L, n, rfl, _⟩ := h
    rfl
  · obtain ⟨x, d, p, L, n, rfl, dx, hc, hp, nd, hs, q⟩ := h
    refine ⟨_, (pss_one (ps_ret (pe_ifExp (pt_val (pe_call G_is_link (hr.mono (by decide)) (by rfl) g_is_link kp_is_link b_is_link .nil pass0 (pa_cons (pv 0) pa_nil))) (pe_tup (pa_cons (pe_ix (show IxR _ (rIxT K) from ix_tup) (pv 0) pe_int (fun _ _ => rfl)) (pa_cons (pe_dget (hu_of hr) (pv 1) (pe_ix (show IxR _ (rIxT K) from ix_tup) (pv 0) pe_int (fun _ _ => rfl)) (fun _ _ => rfl)) pa_nil))) (pv 0)))), ?_⟩
    refine st_of (σ := [some _, some _]) rfl ?_
    walk_at "go"
    refine ⟨x, d, rfl, dx, cell_any hc, ?_⟩
    cases hc with
    | int z a b =>
      walk_at "go"
      refine iteF ?_
      walk_at "go"
      exact q _ _ (Same.refl H) (by rw [mov_int]; exact dx)
    | sym y k a b =>
      walk_at "go"
      refine iteF ?_
      walk_at "go"
      exact q _ _ (Same.refl H) (by rw [mov_sym]; exact dx)
    | ref j _ =>
      have hj := hs j (by rw [root_ref]; exact List.mem_singleton.mpr rfl)
      obtain ⟨b, xs', rfl, sq, ax'⟩ := dp_tup dx
      obtain ⟨w0, hw0, dw0⟩ := DpAll.get (i := 0) ax' rfl
      obtain ⟨w1, hw1, dw1⟩ := DpAll.get (i := 1) ax' rfl
      cases dw0
      cases dw1
      walk_at "go"
      refine iteT ?_
      walk_at "go"
      refine ixT (j := 0) sq hw0 ?_
      walk_at "go"
      refine ixT (j := 1) sq hw1 ?_
      refine ⟨p, _, rfl, .inl ⟨_, Sum.inl (j : Int), hp, rfl, (kvP_val nd _ (Nat.le_refl _) (List.idxOf_lt_length_iff.mpr hj)).symm⟩, ?_⟩
      walk_at "go"
      refine newN (n := 2) rfl (by decide) fun t nt => ?_
      exact q _ _ (same_upd nt) (by rw [mov_ref]; exact .tup (SqT.of upd_same) (.cons (.str _) (.cons (.int _) .nil)))
    | str j _ =>
      have hj := hs j (by rw [root_str]; exact List.mem_singleton.mpr rfl)
      obtain ⟨b, xs', rfl, sq, ax'⟩ := dp_tup dx
      obtain ⟨w0, hw0, dw0⟩ := DpAll.get (i := 0) ax' rfl
      obtain ⟨w1, hw1, dw1⟩ := DpAll.get (i := 1) ax' rfl
      cases dw0
      cases dw1
      walk_at "go"
      refine iteT ?_
      walk_at "go"
      refine ixT (j := 0) sq hw0 ?_
      walk_at "go"
      refine ixT (j := 1) sq hw1 ?_
      refine ⟨p, _, rfl, .inl ⟨_, Sum.inl (j : Int), hp, rfl, (kvP_val nd _ (Nat.le_refl _) (List.idxOf_lt_length_iff.mpr hj)).symm⟩, ?_⟩
      walk_at "go"
      refine newN (n := 2) rfl (by decide) fun t nt => ?_
      exact q _ _ (same_upd nt) (by rw [mov_str]; exact .tup (SqT.of upd_same) (.cons (.str _) (.cons (.int _) .nil)))

theorem ok__law_cells {f : Addr} {fd : FuncData} (F : Fun K "_law_cells" "_law_cells" s__law_cells f fd) (E : Bi K mg) (D__law_draw : Has P w K mg base 1 "_law_draw" ["stream", "many"] (sp__law_draw K)) (D__law_is_symbol : Has P w K mg base 1 "_law_is_symbol" ["cell"] (sp__law_is_symbol K)) (D__law_settled : Has P w K mg base 1 "_law_settled" ["cells", "at", "symbols", "others"] (sp__law_settled K)) : FnOk P w K mg base CX0 2 f fd ["stream", "size"] (sp__law_cells K) := by
  obtain ⟨f__law_draw, fd__law_draw, G__law_draw, g__law_draw, kp__law_draw, b__law_draw⟩ := D__law_draw
  obtain ⟨f__law_is_symbol, fd__law_is_symbol, G__law_is_symbol, g__law_is_symbol, kp__law_is_symbol, b__law_is_symbol⟩ := D__law_is_symbol
  obtain ⟨f__law_settled, fd__law_settled, G__law_settled, g__law_settled, kp__law_settled, b__law_settled⟩ := D__law_settled
  refine F.ok sc__law_cells (fun vs H Q E h => ?_) (fun cdv A outer s H vs Q E' hr h => ?_)
  · obtain ⟨s, l, n, rfl, _⟩ := h
    rfl
  · obtain ⟨s, l, n, rfl, hS, hn0, hn1, q⟩ := h
    have n9 : (2 : Nat) ^ 8 ≤ 2 ^ 9000 := Nat.pow_le_pow_right (by decide) (by decide)
    have n99 : (2 : Nat) ^ 16 ≤ 2 ^ 9000 := Nat.pow_le_pow_right (by decide) (by decide)
    refine ⟨_, (pss_cons (ps_set (i := 2) sc__law_cells.nd rfl (Or.inr rfl) (pe_lst pa_nil))
      (pss_cons (ps_for PassesOwn.never rfl (pi_range1 (by rfl) E.b_range (pa_cons pe_int pa_nil)) (pg_name (i := 3) sc__law_cells.nd rfl (Or.inl rfl)) (pss_cons (ps_if (pt_cmpR op_ge (pe_callB (show CallR _ (.builtin "len") (fun xs H Q => ∃ p ys, xs = [V.ref p] ∧ (SqL K H p ys ∨ SqT K H p ys) ∧ Q (V.int ys.length) H) from call_len_seq) (by rfl) E.b_len PySem.boot_len (pa_cons (pv 2) pa_nil)) (pv 1) (nomark _)) (pss_one ps_break) pss_nil)
      (pss_cons (ps_set (i := 4) sc__law_cells.nd rfl (Or.inl rfl) (pe_call G__law_draw (hr.mono (by decide)) (by rfl) g__law_draw kp__law_draw b__law_draw .nil pass0 (pa_cons (pv 0) (pa_cons pe_int pa_nil))))
      (pss_cons (ps_set (i := 5) sc__law_cells.nd rfl (Or.inl rfl) (pe_callB (show CallR _ (.builtin "len") (fun xs H Q => ∃ p ys, xs = [V.ref p] ∧ (SqL K H p ys ∨ SqT K H p ys) ∧ Q (V.int ys.length) H) from call_len_seq) (by rfl) E.b_len PySem.boot_len (pa_cons (pv 2) pa_nil)))
      (pss_one (ps_if (pt_cmpR op_eq (pv 4) pe_int (nomark _)) (pss_one (ps_expr (pe_bm PySem.F.plainAttrs_list PySem.F.slot_list_append PySem.F.type_list_append mt_append (pv 2) (pa_cons (pe_tup (pa_cons pe_str (pa_cons (pv 5) pa_nil))) pa_nil)))) (pss_one (ps_if (pt_cmpR op_eq (pv 4) pe_int (nomark _)) (pss_one (ps_expr (pe_bm PySem.F.plainAttrs_list PySem.F.slot_list_append PySem.F.type_list_append mt_append (pv 2) (pa_cons (pe_op op_sub (pe_call G__law_draw (hr.mono (by decide)) (by rfl) g__law_draw kp__law_draw b__law_draw .nil pass0 (pa_cons (pv 0) (pa_cons pe_int pa_nil))) pe_int) pa_nil)))) (pss_one (ps_if (pt_cmpR op_eq (pv 4) pe_int (nomark _)) (pss_one (ps_expr (pe_bm PySem.F.plainAttrs_list PySem.F.slot_list_append PySem.F.type_list_append mt_append (pv 2) (pa_cons (pe_tup (pa_cons pe_str (pa_cons (pe_ix ix_str pe_str (pe_call G__law_draw (hr.mono (by decide)) (by rfl) g__law_draw kp__law_draw b__law_draw .nil pass0 (pa_cons (pv 0) (pa_cons pe_int pa_nil))) (fun _ _ => rfl)) (pa_cons pe_int pa_nil)))) pa_nil)))) (pss_one (ps_if (pt_cmpR op_eq (pv 4) pe_int (nomark _)) (pss_one (ps_expr (pe_bm PySem.F.plainAttrs_list PySem.F.slot_list_append PySem.F.type_list_append mt_append (pv 2) (pa_cons (pe_tup (pa_cons pe_str (pa_cons (pe_call G__law_draw (hr.mono (by decide)) (by rfl) g__law_draw kp__law_draw b__law_draw .nil pass0 (pa_cons (pv 0) (pa_cons pe_int pa_nil))) pa_nil))) pa_nil)))) (pss_cons (ps_set (i := 6) sc__law_cells.nd rfl (Or.inl rfl) (pe_op op_add pe_int (pe_call G__law_draw (hr.mono (by decide)) (by rfl) g__law_draw kp__law_draw b__law_draw .nil pass0 (pa_cons (pv 0) (pa_cons (pe_ix (show IxR _ (rIxL K) from ix_list) (pe_lst (pa_cons pe_int (pa_cons pe_int (pa_cons pe_int pa_nil)))) (pe_call G__law_draw (hr.mono (by decide)) (by rfl) g__law_draw kp__law_draw b__law_draw .nil pass0 (pa_cons (pv 0) (pa_cons pe_int pa_nil))) (fun _ _ => rfl)) pa_nil)))))
      (pss_cons (ps_expr (pe_bm PySem.F.plainAttrs_list PySem.F.slot_list_append PySem.F.type_list_append mt_append (pv 2) (pa_cons (pe_tup (pa_cons pe_str (pa_cons (pe_ix ix_str pe_str (pe_call G__law_draw (hr.mono (by decide)) (by rfl) g__law_draw kp__law_draw b__law_draw .nil pass0 (pa_cons (pv 0) (pa_cons pe_int pa_nil))) (fun _ _ => rfl)) (pa_cons (pv 6) pa_nil)))) pa_nil)))
      (pss_one (ps_for PassesOwn.never rfl (pi_range1 (by rfl) E.b_range (pa_cons (pv 6) pa_nil)) (pg_name (i := 7) sc__law_cells.nd rfl (Or.inl rfl)) (pss_one (ps_expr (pe_bm PySem.F.plainAttrs_list PySem.F.slot_list_append PySem.F.type_list_append mt_append (pv 2) (pa_cons (pe_tup (pa_cons pe_str (pa_cons (pe_call G__law_draw (hr.mono (by decide)) (by rfl) g__law_draw kp__law_draw b__law_draw .nil pass0 (pa_cons (pv 0) (pa_cons pe_int pa_nil))) pa_nil))) pa_nil))))))))))))))))))))
      (pss_cons (ps_set (i := 8) sc__law_cells.nd rfl (Or.inr rfl) (pe_lc (own := [("at", 5)]) (g := gName 5) rfl sc__law_cells.nd (pi_range1 (by rfl) E.b_range (pa_cons (pe_callB (show CallR _ (.builtin "len") (fun xs H Q => ∃ p ys, xs = [V.ref p] ∧ (SqL K H p ys ∨ SqT K H p ys) ∧ Q (V.int ys.length) H) from call_len_seq) (by rfl) E.b_len PySem.boot_len (pa_cons (pv 2) pa_nil)) pa_nil)) (blkOk_by (N := N__law_cells) (sc := defScope s__law_cells) (by decide +kernel)) (fun _ _ _ _ _ => pg_name (i := 5) sc__law_cells.nd rfl (Or.inl rfl)) (fun _ _ _ _ _ => pts_one (pt_val (pe_call G__law_is_symbol (hr.mono (by decide)) (by rfl) g__law_is_symbol kp__law_is_symbol b__law_is_symbol .nil pass0 (pa_cons (pe_ix (show IxR _ (rIxL K) from ix_list) (pv 2) (pv 5) (fun _ _ => rfl)) pa_nil)))) (fun _ _ _ _ _ => (pv 5))))
      (pss_cons (ps_set (i := 9) sc__law_cells.nd rfl (Or.inr rfl) (pe_lc (own := [("at", 5)]) (g := gName 5) rfl sc__law_cells.nd (pi_range1 (by rfl) E.b_range (pa_cons (pe_callB (show CallR _ (.builtin "len") (fun xs H Q => ∃ p ys, xs = [V.ref p] ∧ (SqL K H p ys ∨ SqT K H p ys) ∧ Q (V.int ys.length) H) from call_len_seq) (by rfl) E.b_len PySem.boot_len (pa_cons (pv 2) pa_nil)) pa_nil)) (blkOk_by (N := N__law_cells) (sc := defScope s__law_cells) (by decide +kernel)) (fun _ _ _ _ _ => pg_name (i := 5) sc__law_cells.nd rfl (Or.inl rfl)) (fun _ _ _ _ _ => pts_one (pt_not (pt_val (pe_call G__law_is_symbol (hr.mono (by decide)) (by rfl) g__law_is_symbol kp__law_is_symbol b__law_is_symbol .nil pass0 (pa_cons (pe_ix (show IxR _ (rIxL K) from ix_list) (pv 2) (pv 5) (fun _ _ => rfl)) pa_nil))))) (fun _ _ _ _ _ => (pv 5))))
      (pss_one (ps_ret (pe_lc (own := [("at", 5)]) (g := gName 5) (tt := tYes) rfl sc__law_cells.nd (pi_range1 (by rfl) E.b_range (pa_cons (pe_callB (show CallR _ (.builtin "len") (fun xs H Q => ∃ p ys, xs = [V.ref p] ∧ (SqL K H p ys ∨ SqT K H p ys) ∧ Q (V.int ys.length) H) from call_len_seq) (by rfl) E.b_len PySem.boot_len (pa_cons (pv 2) pa_nil)) pa_nil)) (blkOk_by (N := N__law_cells) (sc := defScope s__law_cells) (by decide +kernel)) (fun _ _ _ _ _ => pg_name (i := 5) sc__law_cells.nd rfl (Or.inl rfl)) (fun _ _ _ _ _ => pts_nil) (fun _ _ _ _ _ => (pe_call G__law_settled (hr.mono (by decide)) (by rfl) g__law_settled kp__law_settled b__law_settled .nil pass0 (pa_cons (pv 2) (pa_cons (pv 5) (pa_cons (pv 8) (pa_cons (pv 9) pa_nil))))))))))))), ?_⟩
    refine seq_asg ?_
    refine ⟨Nat.zero_le _, fun R nR => ?_⟩
    have s0 : Same H (upd H R (.lst [])) := same_upd nR
    have S0 := hS.keep s0
    obtain ⟨os, hos⟩ := hS.at_s
    obtain ⟨ol, hol⟩ := hS.at_l
    have sR : s ≠ R := ne_of_none hos nR
    have lR : l ≠ R := ne_of_none hol nR
    refine gname (seq_via (fun σ H' => ∃ (vs : List V) (ps : List PyData) (v3 v4 v5 v6 v7 : Option V), σ = [some (.ref s), some (.int n), some (.ref R), v3, v4, v5, v6, v7, none, none] ∧ CellsOk K H H' R s l vs ps) ?_ (fun go => ?_))
    · rintro σ H1 ⟨vs, ps, v3, v4, v5, v6, v7, rfl, C1⟩
      have hvl := C1.im.len
      have hpl := C1.len
      refine seq_any ?_
      refine ⟨_, rfl, R, vs, rfl, .inl (SqL.of C1.eR), _, rfl, by omega, by omega, fun sy nsy => ?_⟩
      refine lc_range (fun i H' => Same H1 H' ∧ H' sy = some (.lst ((selN ps true i).map fun (j : Nat) => V.int (j : Int)))) ⟨same_upd nsy, upd_same⟩ ?_ ?_
      · rintro i H2 hi ⟨s2, h2⟩
        have hi2 : i < ps.length := by omega
        obtain ⟨d, hd⟩ : ∃ d, ps[i]? = some d := ⟨_, List.getElem?_eq_getElem hi2⟩
        obtain ⟨v, hv, iv⟩ := ImAll.get C1.im hd
        have hsl := selN_len ps true i
        rw [Int.zero_add]
        refine ⟨rfl, _, rfl, _, rfl, _, _, _, _, rfl, rfl, SqL.of (s2 _ _ C1.eR), atI_nat (j := i) hv, v, d, rfl, dp_same s2 _ _ (Im.dp _ _ iv), pre_any (C1.wf.cell i d hd), _, rfl, ?_⟩
        rw [selN_succ true hd]
        cases hsy : isSy d with
        | true =>
          refine iteT ⟨_, rfl, _, h2, small1000 (by rw [List.length_map]; omega), fun b o e => by rw [upd_ne (ne_of_none e nsy)]; exact s2 _ _ e, ?_⟩
          rw [upd_same, if_pos rfl, List.map_append]
          rfl
        | false =>
          refine iteF ⟨s2, ?_⟩
          rw [if_neg (by decide), List.append_nil]
          exact h2
      · rintro H2 ⟨s2, h2⟩
        have hn : ((vs.length : Nat) : Int).toNat = ps.length := by omega
        rw [hn] at h2
        refine gname (nxp (seq_any ?_))
        refine ⟨_, rfl, R, vs, rfl, .inl (SqL.of (s2 _ _ C1.eR)), _, rfl, by omega, by omega, fun ot not => ?_⟩
        refine lc_range (fun i H' => Same H2 H' ∧ H' ot = some (.lst ((selN ps false i).map fun (j : Nat) => V.int (j : Int)))) ⟨same_upd not, upd_same⟩ ?_ ?_
        · rintro i H3 hi ⟨s3, h3⟩
          have hi2 : i < ps.length := by omega
          obtain ⟨d, hd⟩ : ∃ d, ps[i]? = some d := ⟨_, List.getElem?_eq_getElem hi2⟩
          obtain ⟨v, hv, iv⟩ := ImAll.get C1.im hd
          have hsl := selN_len ps false i
          rw [Int.zero_add]
          refine ⟨rfl, _, rfl, _, rfl, _, _, _, _, rfl, rfl, SqL.of (s3 _ _ (s2 _ _ C1.eR)), atI_nat (j := i) hv, v, d, rfl, dp_same (s2.trans s3) _ _ (Im.dp _ _ iv), pre_any (C1.wf.cell i d hd), _, rfl, ?_⟩
          rw [selN_succ false hd]
          cases hsy : isSy d with
          | false =>
            refine iteT ⟨_, rfl, _, h3, small1000 (by rw [List.length_map]; omega), fun b o e => by rw [upd_ne (ne_of_none e not)]; exact s3 _ _ e, ?_⟩
            rw [upd_same, if_pos rfl, List.map_append]
            rfl
          | true =>
            refine iteF ⟨s3, ?_⟩
            rw [if_neg (by decide), List.append_nil]
            exact h3
        · rintro H3 ⟨s3, h3⟩
          rw [hn] at h3
          refine gname (nxp ?_)
          refine ⟨_, rfl, R, vs, rfl, .inl (SqL.of (s3 _ _ (s2 _ _ C1.eR))), _, rfl, by omega, by omega, fun p np => ?_⟩
          have sp := same_upd (o := .lst []) np
          have s13 := s2.trans s3
          have im3 : ImAll K (fun b => H b = Option.none ∧ b ≠ R ∧ b ≠ p) H3 vs ps := Im.mono2All (fun b o _ e => s13 b o e) (fun b o e g => ⟨g.1, g.2, fun z => by rw [z] at e; rw [s13 _ _ e] at np; cases np⟩) _ _ C1.im
          have pS : sy ≠ p := ne_of_none (s3 _ _ h2) np
          have pO : ot ≠ p := ne_of_none h3 np
          have pR : R ≠ p := ne_of_none (s13 _ _ C1.eR) np
          have hp0 : H p = Option.none := by
            cases z : H p with
            | none => rfl
            | some o =>
              by_cases hb : p = s
              · subst hb
                obtain ⟨o1, ho1⟩ := C1.st.at_s
                rw [s13 _ _ ho1] at np
                cases np
              · rw [s13 _ _ (C1.keep p o hb z)] at np
                cases np
          refine lc_range (fun i H' => ∃ (us : List V) (cs : List PyData), H' p = some (.lst us) ∧ (∀ b o, b ≠ p → H3 b = some o → H' b = some o) ∧ ImAll K (fun b => H b = Option.none ∧ b ≠ p) H' us cs ∧ us.length = i ∧ cs.length = i ∧ ∀ (j : Nat) (d c : PyData), ps[j]? = some d → cs[j]? = some c → Sett ps d c)
            ⟨[], [], upd_same, fun b o hb e => by rw [upd_ne hb]; exact e, .nil, rfl, rfl, fun j d c _ h => by simp at h⟩ ?_ ?_
          · rintro i H4 hi ⟨us, cs, h4, k4, i4, l4, l4', st4⟩
            have hi2 : i < ps.length := by omega
            obtain ⟨d, hd⟩ : ∃ d, ps[i]? = some d := ⟨_, List.getElem?_eq_getElem hi2⟩
            rw [Int.zero_add]
            have ic : Im K (fun b => H b = Option.none ∧ b ≠ p) H4 (.ref R) (.list ps) := .lst ⟨nR, pR⟩ (k4 _ _ pR (s13 _ _ C1.eR)) (Im.monoAll (fun b o g e => k4 b o g.2.2 e) (fun b g => ⟨g.1, g.2.2⟩) _ _ im3)
            refine ⟨rfl, _, rfl, _, rfl, _, rfl, _, rfl, _, .ref R, i, sy, ot, ps, d, _, _, rfl, ic, hd, C1.wf.cell i d hd, k4 _ _ pS (s3 _ _ h2), k4 _ _ pO h3, fun j hj => selN_mem hj, fun j hj => selN_mem hj, fun hs => selN_ne hi2 hd hs, by have := selN_len ps true ps.length; omega, by have := selN_len ps false ps.length; omega, fun v e H5 hse s5 iv => ?_⟩
            have h5 := s5 _ _ h4
            refine ⟨us, h5, small1000 (by omega), us ++ [v], cs ++ [e], upd_same, fun b o hb hbo => by rw [upd_ne hb]; exact s5 _ _ (k4 b o hb hbo), ?_, by rw [List.length_append, l4]; rfl, by rw [List.length_append, l4']; rfl, fun j d' c' hd' hc' => ?_⟩
            · have gg : ∀ b, ((H b = Option.none ∧ b ≠ p) ∨ H4 b = Option.none) → H b = Option.none ∧ b ≠ p := fun b g => by
                rcases g with g | g
                · exact g
                · have bp : b ≠ p := fun z => by rw [z, h4] at g; cases g
                  refine ⟨?_, bp⟩
                  cases z : H b with
                  | none => rfl
                  | some o =>
                    by_cases hb : b = s
                    · subst hb
                      obtain ⟨o1, ho1⟩ := C1.st.at_s
                      rw [k4 _ _ bp (s13 _ _ ho1)] at g
                      cases g
                    · rw [k4 _ _ bp (s13 _ _ (C1.keep b o hb z))] at g
                      cases g
              exact ImAll.snoc (Im.monoAll (fun b o g x => by rw [upd_ne g.2]; exact s5 _ _ x) (fun _ g => g) _ _ i4) (Im.mono (fun b o g x => by rw [upd_ne g.2]; exact x) (fun _ g => g) _ _ (Im.mono (fun _ _ _ x => x) gg _ _ iv))
            · by_cases hj : j < cs.length
              · rw [List.getElem?_append_left hj] at hc'
                exact st4 j d' c' hd' hc'
              · have hjl := (List.getElem?_eq_some_iff.mp hc').1
                rw [List.length_append, List.length_singleton] at hjl
                obtain rfl : j = cs.length := by omega
                rw [List.getElem?_append_right (Nat.le_refl _), Nat.sub_self] at hc'
                cases hc'
                rw [l4', hd] at hd'
                cases hd'
                exact hse
          · rintro H4 ⟨us, cs, h4, k4, i4, l4, l4', st4⟩
            rw [hn] at l4'
            have keep4 : But s H H4 := fun b o hb e => k4 b o (fun z => by rw [z, hp0] at e; cases e) (s13 _ _ (C1.keep b o hb e))
            obtain ⟨o1, ho1⟩ := C1.st.at_s
            obtain ⟨o2, ho2⟩ := C1.st.at_l
            have sp1 : s ≠ p := ne_of_none (s13 _ _ ho1) np
            have lp1 : l ≠ p := ne_of_none (s13 _ _ ho2) np
            have S4 : Stm H4 s l := by
              obtain ⟨a, b, m, ns, e1, e2, r⟩ := C1.st.ex
              exact ⟨a, b, m, ns, k4 _ _ sp1 (s13 _ _ e1), k4 _ _ lp1 (s13 _ _ e2), r⟩
            exact q (.ref p) cs H4 (sett_wf C1.wf l4' st4) (by omega) keep4 S4 (.lst hp0 h4 (Im.monoAll (fun _ _ _ e => e) (fun _ g => g.1) _ _ i4))
    · have cap : ∀ {H' : Hp} {vs : List V} {ps : List PyData}, CellsOk K H H' R s l vs ps → vs.length = ps.length := fun c => c.im.len
      have C0 : CellsOk K H (upd H R (.lst [])) R s l [] [] := ⟨upd_same, .nil, ⟨fun i d h => by simp at h, fun i x k h => by simp at h⟩, by decide, S0, fun b o _ e => s0 _ _ e⟩
      refine ⟨_, rfl, by decide, by decide, ?_⟩
      refine for_range (lo := 0) (n := (200 : Int).toNat) (fun i σ H' => ∃ (vs : List V) (ps : List PyData) (v3 v4 v5 v6 v7 : Option V), σ = [some (.ref s), some (.int n), some (.ref R), v3, v4, v5, v6, v7, none, none] ∧ CellsOk K H H' R s l vs ps)
        ⟨[], [], none, none, none, none, none, rfl, C0⟩ ?_ (fun σ H' h => go σ H' h)
      rintro i σ H1 hi ⟨vs, ps, v3, v4, v5, v6, v7, rfl, C1⟩
      have hvl := C1.im.len
      refine gname (seq_ifN ?_)
      refine ⟨_, rfl, R, vs, rfl, .inl (SqL.of C1.eR), _, rfl, _, _, rfl, rfl, _, rfl, ite2 (fun g => ?_) (fun g => ?_)⟩
      · exact go _ _ ⟨vs, ps, _, _, _, _, _, rfl, C1⟩
      have hlt : (vs.length : Int) < n := by
        have : ¬ n ≤ (vs.length : Int) := fun z => g (decide_eq_true z)
        omega
      have hR : ∀ {H' : Hp}, But s H1 H' → H' R = some (.lst vs) := fun bb => bb _ _ sR.symm C1.eR
      have fr : ∀ {b : Addr} {H' : Hp}, But s H1 H' → b ≠ s → H' b = Option.none → H b = Option.none ∧ b ≠ R := fun {b H'} bb hb e => by
        refine ⟨?_, fun z => by rw [z, hR bb] at e; cases e⟩
        cases z : H b with
        | none => rfl
        | some o => rw [bb b o hb (C1.keep b o hb z)] at e; cases e
      have hsm : vs.length < sizeLine := small1000 (by omega)
      have fin : ∀ {H5 : Hp} (v : V) (d : PyData), But s H1 H5 → Stm H5 s l → PreC ps.length d → isSy d = false → Im K (fun b => H b = Option.none ∧ b ≠ R) H5 v d → CellsOk K H (upd H5 R (.lst (vs ++ [v]))) R s l (vs ++ [v]) (ps ++ [d]) := fun {H5} v d b5 S5 pc hs iv =>
        ⟨upd_same, ImAll.snoc (Im.monoAll (fun b o g e => by rw [upd_ne g.2]; exact b5 b o (fun z => by rw [z, hos] at g; cases g.1) e) (fun _ g => g) _ _ C1.im) (Im.mono (fun b o g e => by rw [upd_ne g.2]; exact e) (fun _ g => g) _ _ iv),
          pre_add1 C1.wf pc hs, by rw [List.length_append, List.length_singleton]; omega, S5.put sR lR, fun b o hb e => by rw [upd_ne (ne_of_none e nR)]; exact b5 b o hb (C1.keep b o hb e)⟩
      have npS : ∀ {p : Addr} {H' : Hp}, Stm H' s l → H' p = Option.none → p ≠ s := fun {p H'} S5 np z => by
        obtain ⟨o5, ho5⟩ := S5.at_s
        rw [z, ho5] at np
        cases np
      refine seq_asg ?_
      refine ⟨_, rfl, s, l, 6, rfl, C1.st, by decide, Nat.lt_of_lt_of_le (by decide) n9, fun w H2 w0 w1 b2 S2 => ?_⟩
      refine gname (seq_asg ?_)
      refine ⟨_, rfl, R, vs, rfl, .inl (SqL.of (hR b2)), ?_⟩
      refine gname ?_
      refine ⟨_, rfl, rfl, _, rfl, ite2 (fun g0 => ?_) (fun g0 => ?_)⟩
      · refine ⟨_, rfl, .inl ⟨rfl, _, SqL.of (hR b2)⟩, _, rfl, (by show 2 ≤ sizeLine; decide), fun p np => ⟨_, _, _, rfl, rfl, (same_upd np) _ _ (hR b2), hsm, ?_⟩⟩
        have fp := fr b2 (npS S2 np) np
        refine ⟨_, _, _, _, _, _, _, rfl, fin _ (refD ps.length) (b2.trans (But.of (same_upd np))) (S2.keep (same_upd np)) .self rfl ?_⟩
        rw [← hvl]
        exact .tup fp upd_same (.cons (.str _) (.cons (.int _) .nil))
      refine ⟨_, rfl, rfl, _, rfl, ite2 (fun g1 => ?_) (fun g1 => ?_)⟩
      · refine ⟨_, rfl, .inl ⟨rfl, _, SqL.of (hR b2)⟩, _, rfl, s, l, 9, rfl, S2, by decide, Nat.lt_of_lt_of_le (by decide) n9, fun y H3 y0 y1 b3 S3 => ⟨_, _, rfl, rfl, _, _, _, rfl, rfl, hR (b2.trans b3), hsm, ?_⟩⟩
        exact ⟨_, _, _, _, _, _, _, rfl, fin _ (.int (y - 4)) (b2.trans b3) S3 (.int _ (by omega) (by omega)) rfl (.int _)⟩
      refine ⟨_, rfl, rfl, _, rfl, ite2 (fun g2 => ?_) (fun g2 => ?_)⟩
      · refine ⟨_, rfl, .inl ⟨rfl, _, SqL.of (hR b2)⟩, _, rfl, s, l, 2, rfl, S2, by decide, Nat.lt_of_lt_of_le (by decide) n9, fun y H3 y0 y1 b3 S3 => ?_⟩
        obtain ⟨ch, hch, okc⟩ := pick_ab y0 y1
        refine ⟨_, _, ch, rfl, rfl, (by show 2 ≤ sizeLine; decide), hch, (by show 3 ≤ sizeLine; decide), fun p np => ?_⟩
        have b23 := b2.trans b3
        have fp := fr b23 (npS S3 np) np
        refine ⟨_, _, _, rfl, rfl, (same_upd np) _ _ (hR b23), hsm, ?_⟩
        exact ⟨_, _, _, _, _, _, _, rfl, fin _ (symD ⟨#[ch]⟩ 0) (b23.trans (But.of (same_upd np))) (S3.keep (same_upd np)) (.sym _ 0 okc (by decide)) rfl (.tup fp upd_same (.cons (.str _) (.cons (.str _) (.cons (.int _) .nil))))⟩
      refine ⟨_, rfl, rfl, _, rfl, ite2 (fun g3 => ?_) (fun g3 => ?_)⟩
      · refine ⟨_, rfl, .inl ⟨rfl, _, SqL.of (hR b2)⟩, _, rfl, s, l, 1000, rfl, S2, by decide, Nat.lt_of_lt_of_le (by decide) n99, fun y H3 y0 y1 b3 S3 => ⟨(by show 2 ≤ sizeLine; decide), fun p np => ?_⟩⟩
        have b23 := b2.trans b3
        have fp := fr b23 (npS S3 np) np
        obtain ⟨m, rfl⟩ : ∃ m : Nat, y = (m : Int) := ⟨y.toNat, by omega⟩
        refine ⟨_, _, _, rfl, rfl, (same_upd np) _ _ (hR b23), hsm, ?_⟩
        exact ⟨_, _, _, _, _, _, _, rfl, fin _ (laterD m) (b23.trans (But.of (same_upd np))) (S3.keep (same_upd np)) (.later m) rfl (.tup fp upd_same (.cons (.str _) (.cons (.int _) .nil)))⟩
      refine seq_asg ?_
      refine ⟨_, rfl, ?_⟩
      refine args1 (op_of ?_)
      refine lit_lst (K := K) (ds := ([3, 3, 8] : List Int).map PyData.int) ?_ (by decide) H2 _ fun v0 H3 t3 i0 => ?_
      · simp only [List.map_cons, List.map_nil]
        walk_at "lits"
      cases i0 with
      | @lst p0 xs0 _ g00 e0 a0 =>
      have S3 := S2.keep t3
      have np0 : p0 ≠ s := npS S2 g00
      refine ⟨_, rfl, s, l, 3, rfl, S3, by decide, Nat.lt_of_lt_of_le (by decide) n9, fun r H4 r0 r1 b4 S4 => ?_⟩
      obtain ⟨m, hm, hat⟩ := int_pick a0 r0 r1
      have hm2 : 0 < m ∧ m ≤ 8 := (show ∀ m ∈ ([3, 3, 8] : List Int), 0 < m ∧ m ≤ 8 by decide) m hm
      refine ⟨_, _, _, _, rfl, rfl, SqL.of (b4 _ _ np0 e0), hat, s, l, m, rfl, S4, hm2.1, Nat.lt_of_lt_of_le (show _ < 2 ^ 8 from by omega) n9, fun w H5 w0 w1 b5 S5 => ⟨_, _, rfl, rfl, ?_⟩⟩
      obtain ⟨k0, rfl⟩ : ∃ k0 : Nat, w = (k0 : Int) := ⟨w.toNat, by omega⟩
      have ec : (1 : Int) + (k0 : Int) = ((1 + k0 : Nat) : Int) := by omega
      have b15 := ((b2.trans (But.of t3)).trans b4).trans b5
      refine gname (seq_any ?_)
      refine ⟨_, rfl, .inl ⟨rfl, _, SqL.of (hR b15)⟩, _, rfl, s, l, 3, rfl, S5, by decide, Nat.lt_of_lt_of_le (by decide) n9, fun y H6 y0 y1 b6 S6 => ?_⟩
      obtain ⟨ch, hch, okc⟩ := pick_fgh y0 y1
      refine ⟨_, _, ch, rfl, rfl, (by show 3 ≤ sizeLine; decide), hch, _, rfl, (by show 3 ≤ sizeLine; decide), fun p np => ?_⟩
      have b16 := b15.trans b6
      have fp := fr b16 (npS S6 np) np
      have b17 := b16.trans (But.of (same_upd (o := .tup [.str "f", .str ⟨#[ch]⟩, .int (1 + (k0 : Int))]) np))
      have S7 := S6.keep (same_upd (o := .tup [.str "f", .str ⟨#[ch]⟩, .int (1 + (k0 : Int))]) np)
      have i7 : Im K (fun b => H b = Option.none ∧ b ≠ R) (upd H6 p (.tup [.str "f", .str ⟨#[ch]⟩, .int (1 + (k0 : Int))])) (.ref p) (symD ⟨#[ch]⟩ (1 + k0)) := by
        unfold symD
        rw [← ec]
        exact .tup fp upd_same (.cons (.str _) (.cons (.str _) (.cons (.int _) .nil)))
      refine ⟨_, _, _, rfl, rfl, (same_upd np) _ _ (hR b16), hsm, ?_⟩
      refine nxp ?_
      refine ⟨_, rfl, _, rfl, by omega, by omega, ?_⟩
      refine for_range (lo := 0) (n := ((1 : Int) + (k0 : Int)).toNat) (fun m σ H' => ∃ (us : List V) (ls : List PyData) (v7 : Option V), σ = [some (.ref s), some (.int n), some (.ref R), some (.int (0 + (i : Int))), some (.int _), some (.int ((vs.length : Nat) : Int)), some (.int (1 + (k0 : Int))), v7, none, none] ∧ H' R = some (.lst (vs ++ .ref p :: us)) ∧ ImAll K (fun b => H b = Option.none ∧ b ≠ R) H' (vs ++ .ref p :: us) (ps ++ symD ⟨#[ch]⟩ (1 + k0) :: ls) ∧ (∀ d ∈ ls, ∃ r, d = laterD r) ∧ ls.length = m ∧ us.length = m ∧ Stm H' s l ∧ (∀ b o, b ≠ s → H b = some o → H' b = some o))
        ⟨[], [], _, rfl, upd_same, ImAll.snoc (Im.monoAll (fun b o g e => by rw [upd_ne g.2]; exact b17 b o (fun z => by rw [z, hos] at g; cases g.1) e) (fun _ g => g) _ _ C1.im) (Im.mono (fun b o g e => by rw [upd_ne g.2]; exact e) (fun _ g => g) _ _ i7), (fun d hd => nomatch hd), rfl, rfl, S7.put sR lR, fun b o hb e => by rw [upd_ne (ne_of_none e nR)]; exact b17 b o hb (C1.keep b o hb e)⟩ ?_ ?_
      · rintro m σ H8 hm8 ⟨us, ls, v7, rfl, h8, i8, l8, n8, n8', S8, k8⟩
        refine gname ?_
        refine ⟨_, rfl, .inl ⟨rfl, _, SqL.of h8⟩, _, rfl, s, l, 1000, rfl, S8, by decide, Nat.lt_of_lt_of_le (by decide) n99, fun y H9 y0 y1 b9 S9 => ⟨(by show 2 ≤ sizeLine; decide), fun p9 np9 => ?_⟩⟩
        obtain ⟨r, rfl⟩ : ∃ r : Nat, y = (r : Int) := ⟨y.toNat, by omega⟩
        have h9 := b9 _ _ sR.symm h8
        have fp9 : H p9 = Option.none ∧ p9 ≠ R := by
          have ps9 := npS S9 np9
          refine ⟨?_, fun z => by rw [z, h9] at np9; cases np9⟩
          cases z : H p9 with
          | none => rfl
          | some o => rw [b9 _ _ ps9 (k8 p9 o ps9 z)] at np9; cases np9
        have sp9 := same_upd (o := .tup [.str "later", .int (r : Int)]) np9
        have e1 : (vs ++ V.ref p :: us) ++ [.ref p9] = vs ++ .ref p :: (us ++ [.ref p9]) := by simp
        have e2 : (ps ++ symD ⟨#[ch]⟩ (1 + k0) :: ls) ++ [laterD r] = ps ++ symD ⟨#[ch]⟩ (1 + k0) :: (ls ++ [laterD r]) := by simp
        refine ⟨_, _, _, rfl, rfl, sp9 _ _ h9, small1000 (by rw [List.length_append, List.length_cons]; omega), ?_⟩
        refine ⟨us ++ [.ref p9], ls ++ [laterD r], _, rfl, by rw [upd_same, e1], ?_, fun d hd => ?_, by rw [List.length_append, n8]; rfl, by rw [List.length_append, n8']; rfl, (S9.keep sp9).put sR lR, fun b o hb e => by rw [upd_ne (ne_of_none e nR)]; exact sp9 _ _ (b9 b o hb (k8 b o hb e))⟩
        · rw [← e1, ← e2]
          refine ImAll.snoc (Im.monoAll (fun b o g e => by rw [upd_ne g.2]; exact sp9 _ _ (b9 b o (fun z => by rw [z, hos] at g; cases g.1) e)) (fun _ g => g) _ _ i8) (.tup fp9 ?_ (.cons (.str _) (.cons (.int _) .nil)))
          rw [upd_ne fp9.2]
          exact upd_same
        · rcases List.mem_append.mp hd with z | z
          · exact l8 d z
          · exact ⟨r, List.mem_singleton.mp z⟩
      · rintro σ H8 ⟨us, ls, v7, rfl, h8, i8, l8, n8, n8', S8, k8⟩
        refine ⟨_, _, _, _, _, _, _, rfl, ⟨h8, i8, pre_addS C1.wf okc (by omega) l8 (by omega), by rw [List.length_append, List.length_cons]; omega, S8, k8⟩⟩

theorem ok__law_roots {f : Addr} {fd : FuncData} (F : Fun K "_law_roots" "_law_roots" s__law_roots f fd) (E : Bi K mg) (D__law_draw : Has P w K mg base 1 "_law_draw" ["stream", "many"] (sp__law_draw K)) (D__law_is_symbol : Has P w K mg base 1 "_law_is_symbol" ["cell"] (sp__law_is_symbol K)) : FnOk P w K mg base CX0 2 f fd ["stream", "cells"] (sp__law_roots K) := by
  obtain ⟨f__law_draw, fd__law_draw, G__law_draw, g__law_draw, kp__law_draw, b__law_draw⟩ := D__law_draw
  obtain ⟨f__law_is_symbol, fd__law_is_symbol, G__law_is_symbol, g__law_is_symbol, kp__law_is_symbol, b__law_is_symbol⟩ := D__law_is_symbol
  refine F.ok sc__law_roots (fun vs H Q E h => ?_) (fun cdv A outer s H vs Q E' hr h => ?_)
  · obtain ⟨s, l, c, cs, rfl, _⟩ := h
    rfl
  · obtain ⟨s, l, c, cs, rfl, hS, ic, wf, l1, q⟩ := h
    have n9 : (2 : Nat) ^ 8 ≤ 2 ^ 9000 := Nat.pow_le_pow_right (by decide) (by decide)
    refine ⟨_, (pss_cons (ps_set (i := 2) sc__law_roots.nd rfl (Or.inl rfl) (pe_lst pa_nil))
      (pss_cons (ps_for PassesOwn.never rfl (pi_range1 (by rfl) E.b_range (pa_cons (pe_call G__law_draw (hr.mono (by decide)) (by rfl) g__law_draw kp__law_draw b__law_draw .nil pass0 (pa_cons (pv 0) (pa_cons pe_int pa_nil))) pa_nil)) (pg_name (i := 3) sc__law_roots.nd rfl (Or.inl rfl)) (pss_cons (ps_set (i := 4) sc__law_roots.nd rfl (Or.inl rfl) (pe_call G__law_draw (hr.mono (by decide)) (by rfl) g__law_draw kp__law_draw b__law_draw .nil pass0 (pa_cons (pv 0) (pa_cons (pe_callB (call_max2 rfl) (by rfl) E.b_max (by decide +kernel) (pa_cons pe_int (pa_cons (pe_callB (show CallR _ (.builtin "len") (fun xs H Q => ∃ p ys, xs = [V.ref p] ∧ (SqL K H p ys ∨ SqT K H p ys) ∧ Q (V.int ys.length) H) from call_len_seq) (by rfl) E.b_len PySem.boot_len (pa_cons (pv 1) pa_nil)) pa_nil))) pa_nil))))
      (pss_one (ps_if (pt_cmpR op_eq (pe_call G__law_draw (hr.mono (by decide)) (by rfl) g__law_draw kp__law_draw b__law_draw .nil pass0 (pa_cons (pv 0) (pa_cons pe_int pa_nil))) pe_int (nomark _)) (pss_one (ps_expr (pe_bm PySem.F.plainAttrs_list PySem.F.slot_list_append PySem.F.type_list_append mt_append (pv 2) (pa_cons (pe_tup (pa_cons pe_str (pa_cons (pe_ix ix_str pe_str (pe_call G__law_draw (hr.mono (by decide)) (by rfl) g__law_draw kp__law_draw b__law_draw .nil pass0 (pa_cons (pv 0) (pa_cons pe_int pa_nil))) (fun _ _ => rfl)) (pa_cons pe_int pa_nil)))) pa_nil)))) (pss_one (ps_if (pw_and (pt_cmpR op_lt (pv 4) (pe_callB (show CallR _ (.builtin "len") (fun xs H Q => ∃ p ys, xs = [V.ref p] ∧ (SqL K H p ys ∨ SqT K H p ys) ∧ Q (V.int ys.length) H) from call_len_seq) (by rfl) E.b_len PySem.boot_len (pa_cons (pv 1) pa_nil)) (nomark _)) (pw_and1 (pt_val (pe_call G__law_is_symbol (hr.mono (by decide)) (by rfl) g__law_is_symbol kp__law_is_symbol b__law_is_symbol .nil pass0 (pa_cons (pe_ix (show IxR _ (rIxL K) from ix_list) (pv 1) (pv 4) (fun _ _ => rfl)) pa_nil))))).pt (pss_one (ps_expr (pe_bm PySem.F.plainAttrs_list PySem.F.slot_list_append PySem.F.type_list_append mt_append (pv 2) (pa_cons (pe_tup (pa_cons pe_str (pa_cons (pv 4) pa_nil))) pa_nil)))) (pss_one (ps_if (pw_and (pt_cmpR op_lt (pv 4) (pe_callB (show CallR _ (.builtin "len") (fun xs H Q => ∃ p ys, xs = [V.ref p] ∧ (SqL K H p ys ∨ SqT K H p ys) ∧ Q (V.int ys.length) H) from call_len_seq) (by rfl) E.b_len PySem.boot_len (pa_cons (pv 1) pa_nil)) (nomark _)) (pw_and1 (pt_cmpR op_gt (pe_call G__law_draw (hr.mono (by decide)) (by rfl) g__law_draw kp__law_draw b__law_draw .nil pass0 (pa_cons (pv 0) (pa_cons pe_int pa_nil))) pe_int (nomark _)))).pt (pss_one (ps_expr (pe_bm PySem.F.plainAttrs_list PySem.F.slot_list_append PySem.F.type_list_append mt_append (pv 2) (pa_cons (pe_tup (pa_cons pe_str (pa_cons (pv 4) pa_nil))) pa_nil)))) (pss_one (ps_expr (pe_bm PySem.F.plainAttrs_list PySem.F.slot_list_append PySem.F.type_list_append mt_append (pv 2) (pa_cons (pe_call G__law_draw (hr.mono (by decide)) (by rfl) g__law_draw kp__law_draw b__law_draw .nil pass0 (pa_cons (pv 0) (pa_cons pe_int pa_nil))) pa_nil))))))))))))
      (pss_one (ps_ret (pv 2))))), ?_⟩
    refine seq_asg ?_
    refine ⟨Nat.zero_le _, fun R nR => ?_⟩
    have s0 : Same H (upd H R (.lst [])) := same_upd nR
    have S0 := hS.keep s0
    refine gname (seq_any ?_)
    refine ⟨_, rfl, s, l, 6, rfl, S0, by decide, Nat.lt_of_lt_of_le (by decide) n9, fun n H1 n0 n1 b1 S1 => ⟨_, rfl, by omega, by omega, ?_⟩⟩
    obtain ⟨os, hos⟩ := hS.at_s
    obtain ⟨ol, hol⟩ := hS.at_l
    have sR : s ≠ R := ne_of_none hos nR
    have lR : l ≠ R := ne_of_none hol nR
    cases id ic with
    | @lst a xs _ ga ea ia =>
    have hxl := ia.len
    have aR : a ≠ R := ne_of_none ea nR
    refine for_range (lo := 0) (n := n.toNat) (fun i σ H' => ∃ (vs : List V) (rs : List PyData) (v3 v4 : Option V), σ = [some (.ref s), some (.ref a), some (.ref R), v3, v4] ∧ H' R = some (.lst vs) ∧ ImAll K (fun b => H b = Option.none ∧ b ≠ R) H' vs rs ∧ (∀ d ∈ rs, RootD cs d) ∧ rs.length ≤ i ∧ Stm H' s l ∧ (∀ b o, b ≠ s → H b = some o → H' b = some o))
      ⟨[], [], none, none, rfl, b1 _ _ sR.symm upd_same, .nil, (fun d hd => nomatch hd), Nat.le_refl 0, S1, fun b o hb e => b1 _ _ hb (s0 _ _ e)⟩ ?_ ?_
    · rintro i σ H2 hi ⟨vs, rs, v3, v4, rfl, h2, i2, r2, c2, S2, k2⟩
      have hvl := i2.len
      have fr : ∀ {b : Addr} {H' : Hp}, But s H2 H' → b ≠ s → H' b = Option.none → H b = Option.none ∧ b ≠ R ∧ b ≠ s := fun {b H'} bb hb e => by
        refine ⟨?_, ?_, hb⟩
        · cases z : H b with
          | none => rfl
          | some o => rw [bb b o hb (k2 b o hb z)] at e; cases e
        · intro z
          rw [z, bb R _ sR.symm h2] at e
          cases e
      have fin : ∀ (v : V) (d : PyData) (at' : Int) (H5 : Hp), But s H2 H5 → Stm H5 s l → RootD cs d → Im K (fun b => H b = Option.none ∧ b ≠ R) H5 v d → ∃ (vs' : List V) (rs : List PyData) (v3 v4 : Option V), [some (V.ref s), some (.ref a), some (.ref R), some (.int (0 + (i : Int))), some (.int at')] = [some (.ref s), some (.ref a), some (.ref R), v3, v4] ∧ (upd H5 R (.lst (vs ++ [v]))) R = some (.lst vs') ∧ ImAll K (fun b => H b = Option.none ∧ b ≠ R) (upd H5 R (.lst (vs ++ [v]))) vs' rs ∧ (∀ d ∈ rs, RootD cs d) ∧ rs.length ≤ i + 1 ∧ Stm (upd H5 R (.lst (vs ++ [v]))) s l ∧ (∀ b o, b ≠ s → H b = some o → (upd H5 R (.lst (vs ++ [v]))) b = some o) := fun v d at' H5 b5 S5 rd iv => by
        refine ⟨vs ++ [v], rs ++ [d], _, _, rfl, upd_same, ImAll.snoc (Im.monoAll (fun b o g e => ?_) (fun _ g => g) _ _ i2) (Im.mono (fun b o g e => by rw [upd_ne g.2]; exact e) (fun _ g => g) _ _ iv), fun e he => ?_, by rw [List.length_append, List.length_singleton]; omega, S5.put sR lR, fun b o hb e => ?_⟩
        · rw [upd_ne g.2]
          exact b5 b o (fun z => by rw [z, hos] at g; cases g.1) e
        · rcases List.mem_append.mp he with z | z
          · exact r2 e z
          · rw [List.mem_singleton.mp z]; exact rd
        · rw [upd_ne (ne_of_none e nR)]
          exact b5 b o hb (k2 b o hb e)
      have hR5 : ∀ {H' : Hp}, But s H2 H' → H' R = some (.lst vs) := fun bb => bb _ _ sR.symm h2
      have ha5 : ∀ {H' : Hp}, But s H2 H' → H' a = some (.lst xs) := fun bb => bb _ _ ga (k2 _ _ ga ea)
      have hsm : vs.length < sizeLine := small1000 (by omega)
      refine gname (seq_asg ?_)
      refine ⟨_, rfl, _, rfl, a, xs, rfl, .inl (SqL.of (ha5 (But.refl s H2))), _, _, rfl, s, l, _, rfl, S2, by split <;> omega, Nat.lt_of_lt_of_le (show _ < 2 ^ 8 by split <;> omega) n9, fun w H3 w0 w1 b3 S3 => ?_⟩
      refine gname ?_
      refine ⟨_, rfl, s, l, 6, rfl, S3, by decide, Nat.lt_of_lt_of_le (by decide) n9, fun z H4 z0 z1 b4 S4 => ⟨rfl, _, rfl, ite2 (fun g => ?_) (fun g => ?_)⟩⟩
      · have b24 := b3.trans b4
        refine ⟨_, rfl, .inl ⟨rfl, _, SqL.of (hR5 b24)⟩, _, rfl, s, l, 2, rfl, S4, by decide, Nat.lt_of_lt_of_le (by decide) n9, fun y H5 y0 y1 b5 S5 => ?_⟩
        obtain ⟨ch, hch, okc⟩ := pick_ab y0 y1
        refine ⟨_, _, ch, rfl, rfl, (by show 2 ≤ sizeLine; decide), hch, (by show 3 ≤ sizeLine; decide), fun p np => ?_⟩
        have b25 := b24.trans b5
        obtain ⟨o5, ho5⟩ := S5.at_s
        have ps : p ≠ s := fun z => by rw [z, ho5] at np; cases np
        have fp := fr b25 ps np
        refine ⟨_, _, _, rfl, rfl, (same_upd np) _ _ (hR5 b25), hsm, ?_⟩
        exact fin _ (symD ⟨#[ch]⟩ 0) w _ (b25.trans (But.of (same_upd np))) (S5.keep (same_upd np)) ⟨.sym _ 0 okc (by decide), rfl, fun j h => (sym_str h).elim, fun j h => (sym_ref h).elim⟩ (.tup ⟨fp.1, fp.2.1⟩ upd_same (.cons (.str _) (.cons (.str _) (.cons (.int _) .nil))))
      · have b24 := b3.trans b4
        have bare : ∀ (σ' : L2.St), σ' = [some (V.ref s), some (.ref a), some (.ref R), some (.int (0 + (i : Int))), some (.int w)] → True := fun _ _ => trivial
        have num : ∀ {H5 : Hp} (y : Int), But s H2 H5 → Stm H5 s l → 0 ≤ y → y < 9 → _ := fun {H5} y b5 S5 y0 y1 => fin (.int y) (.int y) w H5 b5 S5 ⟨.int y (by omega) (by omega), rfl, (fun j h => nomatch h), (fun j h => nomatch h)⟩ (.int y)
        refine ⟨_, rfl, _, rfl, a, xs, rfl, .inl (SqL.of (ha5 b24)), _, _, rfl, rfl, _, rfl, ite2 (fun g2 => ?_) (fun g2 => ?_)⟩
        · have hw : w < ((xs.length : Nat) : Int) := of_decide_eq_true g2
          obtain ⟨j, rfl⟩ : ∃ j : Nat, w = (j : Int) := ⟨w.toNat, by omega⟩
          have hj : j < cs.length := by omega
          obtain ⟨d, hd⟩ : ∃ d, cs[j]? = some d := ⟨_, List.getElem?_eq_getElem hj⟩
          obtain ⟨v, hv, iv⟩ := ImAll.get ia hd
          have dv : Dp K H4 v d := Im.dp _ _ (Im.mono (G' := fun b => b ≠ s) (fun b o gb e => b24 b o gb (k2 b o gb e)) (fun _ g => g) _ _ iv)
          have hcd := wf.cell d (List.mem_of_getElem? hd)
          have pairD : ∀ (wd : Str) (p : Addr) (H5 : Hp), But s H2 H5 → Stm H5 s l → H5 p = Option.none → Im K (fun b => H b = Option.none ∧ b ≠ R) (upd H5 p (.tup [.str wd, .int (j : Int)])) (.ref p) (.tuple [.str wd, .int (j : Int)]) := fun wd p H5 b5 S5 np => by
            obtain ⟨o5, ho5⟩ := S5.at_s
            have ps : p ≠ s := fun z => by rw [z, ho5] at np; cases np
            have fp := fr b5 ps np
            exact .tup ⟨fp.1, fp.2.1⟩ upd_same (.cons (.str _) (.cons (.int _) .nil))
          refine ⟨_, rfl, _, rfl, _, _, _, _, rfl, rfl, SqL.of (ha5 b24), atI_nat (j := j) hv, v, d, rfl, dv, cell_any hcd, _, rfl, ?_⟩
          cases hsy : isSy d with
          | true =>
            refine iteT ?_
            refine ⟨_, rfl, .inl ⟨rfl, _, SqL.of (hR5 b24)⟩, _, rfl, (by show 2 ≤ sizeLine; decide), fun p np => ⟨_, _, _, rfl, rfl, (same_upd np) _ _ (hR5 b24), hsm, ?_⟩⟩
            exact fin _ (strD j) _ _ (b24.trans (But.of (same_upd np))) (S4.keep (same_upd np)) ⟨.str j hj, rfl, fun m h => by rw [← str_inj h]; exact ⟨d, hd, hsy⟩, fun m h => (ref_str h.symm).elim⟩ (pairD _ p H4 b24 S4 np)
          | false =>
            refine iteF ?_
            refine ⟨_, rfl, _, rfl, a, xs, rfl, .inl (SqL.of (ha5 b24)), _, _, rfl, rfl, _, rfl, ?_⟩
            rw [decide_eq_true hw]
            refine iteT ?_
            refine ⟨_, rfl, s, l, 4, rfl, S4, by decide, Nat.lt_of_lt_of_le (by decide) n9, fun y H5 y0 y1 b5 S5 => ⟨_, _, rfl, rfl, _, rfl, ite2 (fun g3 => ?_) (fun g3 => ?_)⟩⟩
            · have b25 := b24.trans b5
              refine ⟨_, rfl, .inl ⟨rfl, _, SqL.of (hR5 b25)⟩, _, rfl, (by show 2 ≤ sizeLine; decide), fun p np => ⟨_, _, _, rfl, rfl, (same_upd np) _ _ (hR5 b25), hsm, ?_⟩⟩
              exact fin _ (refD j) _ _ (b25.trans (But.of (same_upd np))) (S5.keep (same_upd np)) ⟨.ref j hj, rfl, fun m h => (ref_str h).elim, fun m h => by rw [← ref_inj h]; exact ⟨d, hd, hsy⟩⟩ (pairD _ p H5 b25 S5 np)
            · have b25 := b24.trans b5
              refine ⟨_, rfl, .inl ⟨rfl, _, SqL.of (hR5 b25)⟩, _, rfl, s, l, 9, rfl, S5, by decide, Nat.lt_of_lt_of_le (by decide) n9, fun y H6 y0 y1 b6 S6 => ⟨_, _, _, rfl, rfl, hR5 (b25.trans b6), hsm, ?_⟩⟩
              exact num y (b25.trans b6) S6 y0 y1
        · refine ⟨_, rfl, _, rfl, a, xs, rfl, .inl (SqL.of (ha5 b24)), _, _, rfl, rfl, _, rfl, ?_⟩
          rw [Bool.eq_false_iff.mpr g2]
          refine iteF ?_
          refine ⟨_, rfl, .inl ⟨rfl, _, SqL.of (hR5 b24)⟩, _, rfl, s, l, 9, rfl, S4, by decide, Nat.lt_of_lt_of_le (by decide) n9, fun y H6 y0 y1 b6 S6 => ⟨_, _, _, rfl, rfl, hR5 (b24.trans b6), hsm, ?_⟩⟩
          exact num y (b24.trans b6) S6 y0 y1
    · rintro σ H2 ⟨vs, rs, v3, v4, rfl, h2, i2, r2, c2, S2, k2⟩
      refine nxp ?_
      refine ⟨_, rfl, q _ rs H2 r2 (by omega) (fun b o hb e => k2 b o hb e) S2 (.lst nR h2 (Im.monoAll (fun _ _ _ e => e) (fun _ g => g.1) _ _ i2))⟩

theorem ok_marks {f : Addr} {fd : FuncData} (F : Fun K "marks" "marks" s_marks f fd) (E : Bi K mg) (D_is_link : Has P w K mg base 1 "is_link" ["cell"] (sp_is_link K)) (D_arity_of : Has P w K mg base 2 "arity_of" ["node"] (sp_arity_of K)) : FnOk P w K mg base CX0 3 f fd ["cells", "roots"] (sp_marks K) := by
  obtain ⟨f_is_link, fd_is_link, G_is_link, g_is_link, kp_is_link, b_is_link⟩ := D_is_link
  obtain ⟨f_arity_of, fd_arity_of, G_arity_of, g_arity_of, kp_arity_of, b_arity_of⟩ := D_arity_of
  refine F.ok sc_marks (fun vs H Q E h => ?_) (fun cdv A outer s H vs Q E' hr h => ?_)
  · obtain ⟨c, r, cs, rs, rfl, _⟩ := h
    rfl
  · obtain ⟨c, r, cs, rs, rfl, hc, hq, wf, rd, l1, l2, q⟩ := h
    refine ⟨_, (pss_cons (ps_set (i := 2) sc_marks.nd rfl (Or.inl rfl) (pe_op op_rep (pe_lst (pa_cons pe_bl pa_nil)) (pe_callB (show CallR _ (.builtin "len") (fun xs H Q => ∃ p ys, xs = [V.ref p] ∧ (SqL K H p ys ∨ SqT K H p ys) ∧ Q (V.int ys.length) H) from call_len_seq) (by rfl) E.b_len PySem.boot_len (pa_cons (pv 0) pa_nil))))
      (pss_cons (ps_setLc (i := 3) (own := [("root", 4)]) (g := gName 4) rfl sc_marks.nd rfl rfl (by rfl) (pi_list (pv 1)) (blkOk_by (N := N_marks) (sc := defScope s_marks) (by decide +kernel)) (fun _ _ _ _ _ => pg_name (i := 4) sc_marks.nd rfl (Or.inl rfl)) (fun _ _ _ _ _ => pts_one (pt_val (pe_call G_is_link (hr.mono (by decide)) (by rfl) g_is_link kp_is_link b_is_link .nil pass0 (pa_cons (pv 4) pa_nil)))) (fun _ _ _ _ _ => (pe_ix (show IxR _ (rIxT K) from ix_tup) (pv 4) pe_int (fun _ _ => rfl))))
      (pss_cons (ps_while PassesOwn.never (pt_cmpR op_gt (pe_callB (show CallR _ (.builtin "len") (fun xs H Q => ∃ p ys, xs = [V.ref p] ∧ (SqL K H p ys ∨ SqT K H p ys) ∧ Q (V.int ys.length) H) from call_len_seq) (by rfl) E.b_len PySem.boot_len (pa_cons (pv 3) pa_nil)) pe_int (nomark _)) (pss_cons (ps_set (i := 5) sc_marks.nd rfl (Or.inl rfl) (pe_bm0 PySem.F.plainAttrs_list PySem.F.slot_list_pop PySem.F.type_list_pop mt_pop (pv 3)))
      (pss_cons (ps_if (pt_val (pe_ix (show IxR _ (rIxL K) from ix_list) (pv 2) (pv 5) (fun _ _ => rfl))) (pss_one ps_continue) pss_nil)
      (pss_cons (ps_asg pe_bl (pg_sub (pv 2) (pv 5) set_list))
      (pss_cons (ps_set (i := 6) sc_marks.nd rfl (Or.inl rfl) (pe_ix (show IxR _ (rIxL K) from ix_list) (pv 0) (pv 5) (fun _ _ => rfl)))
      (pss_one (ps_if (pt_val (pe_call G_is_link (hr.mono (by decide)) (by rfl) g_is_link kp_is_link b_is_link .nil pass0 (pa_cons (pv 6) pa_nil))) (pss_one (ps_expr (pe_bm PySem.F.plainAttrs_list PySem.F.slot_list_append PySem.F.type_list_append mt_append (pv 3) (pa_cons (pe_ix (show IxR _ (rIxT K) from ix_tup) (pv 6) pe_int (fun _ _ => rfl)) pa_nil)))) (pss_one (ps_if (pt_cmpR op_gt (pe_call G_arity_of (hr.mono (by decide)) (by rfl) g_arity_of kp_arity_of b_arity_of .nil pass0 (pa_cons (pv 6) pa_nil)) pe_int (nomark _)) (pss_one (ps_expr (pe_bm PySem.F.plainAttrs_list PySem.F.slot_list_extend PySem.F.type_list_extend mt_extend (pv 3) (pa_cons (pe_listRg rfl (by rfl) E.b_list (prg_2 (by rfl) E.b_range (pe_op op_add (pv 5) pe_int) (pe_op op_add (pe_op op_add (pv 5) (pe_ix (show IxR _ (rIxT K) from ix_tup) (pv 6) pe_int (fun _ _ => rfl))) pe_int))) pa_nil)))) pss_nil)))))))))
      (pss_one (ps_ret (pv 2)))))), ?_⟩
    cases id hc with
    | @lst a xs _ hs ha =>
    cases id hq with
    | @lst b ys _ ht hb =>
    have hxl := DpAll.len ha
    have hyl := DpAll.len hb
    refine seq_asg ?_
    refine ⟨(by show 1 ≤ sizeLine; decide), fun p0 np0 => ⟨_, rfl, a, xs, rfl, .inl ((same_upd np0).seq hs), p0, _, [.bl false], rfl, rfl, upd_same, by omega, by omega, small_of (by rw [List.length_singleton]; omega), fun p np1 => ?_⟩⟩
    have e1 : (List.replicate ((xs.length : Nat) : Int).toNat [V.bl false]).flatten = (List.replicate cs.length false).map V.bl := by
      rw [List.flatten_replicate_singleton, List.map_replicate, Int.toNat_natCast, hxl]
    rw [e1]
    have np : H p = Option.none := (same_upd np0).free np1
    have s1 : Same H (upd (upd H p0 (.lst [.bl false])) p (.lst ((List.replicate cs.length false).map V.bl))) := (same_upd np0).trans (same_upd np1)
    have h1 : (upd (upd H p0 (.lst [.bl false])) p (.lst ((List.replicate cs.length false).map V.bl))) p = some (.lst ((List.replicate cs.length false).map V.bl)) := upd_same
    generalize upd (upd H p0 (.lst [.bl false])) p (.lst ((List.replicate cs.length false).map V.bl)) = H1 at s1 h1 ⊢
    refine gname (seq_any ?_)
    refine ⟨_, rfl, b, rfl, ⟨_, s1.seq ht⟩, fun w hw => ?_⟩
    have nw : H w = Option.none := s1.free hw
    have pw : p ≠ w := ne_of_none h1 hw
    refine walk_gen (n := ys.length) walk_list (fun i H' => Same H1 H' ∧ H' w = some (.lst (((rs.take i).flatMap rootN).map fun (j : Nat) => V.int (j : Int)))) ⟨same_upd hw, upd_same⟩ (fun j H' _ h => (s1.trans h.1).seq ht) ?_ ?_
    · rintro i z H2 H3 hi ⟨s2, h2⟩ ⟨rfl, hz⟩
      obtain ⟨d, hd, dz0⟩ := DpAll.getV hb hz
      have dz := dp_same (s1.trans s2) _ _ dz0
      have rdd := rd d (List.mem_of_getElem? hd)
      have htk : rs.take (i + 1) = rs.take i ++ [d] := by rw [List.take_add_one, hd]; rfl
      have hfl : ∀ (l : List PyData), (l.flatMap rootN).length ≤ l.length := fun l => by
        induction l with
        | nil => exact Nat.le_refl _
        | cons e r ih =>
          rw [List.flatMap_cons, List.length_append, List.length_cons]
          have : (rootN e).length ≤ 1 := by
            unfold rootN
            split <;> simp
          omega
      refine gname ⟨rfl, _, rfl, z, d, rfl, dz, cell_any rdd.cell, _, rfl, ?_⟩
      have hcd := rdd.cell
      rw [htk, List.flatMap_append, List.map_append, List.flatMap_singleton]
      have link : ∀ j : Nat, d = refD j ∨ d = strD j → ∃ (u : Addr) (zs : List V), z = .ref u ∧ SqT K H3 u zs ∧ zs[1]? = some (.int (j : Int)) := fun j hj => by
        rcases hj with rfl | rfl
        · cases dz with
          | tup hs ha =>
          obtain ⟨v, hv, hdv⟩ := DpAll.get (i := 1) ha rfl
          cases hdv
          exact ⟨_, _, rfl, hs, hv⟩
        · cases dz with
          | tup hs ha =>
          obtain ⟨v, hv, hdv⟩ := DpAll.get (i := 1) ha rfl
          cases hdv
          exact ⟨_, _, rfl, hs, hv⟩
      have small : (((rs.take i).flatMap rootN).map fun (j : Nat) => V.int (j : Int)).length < sizeLine := small1000 (by
        have := hfl (rs.take i)
        rw [List.length_take] at this
        rw [List.length_map]
        omega)
      cases hcd with
      | int z a b =>
        refine iteF ⟨s2, ?_⟩
        rw [root_int, List.map_nil, List.append_nil]
        exact h2
      | sym x k a b =>
        refine iteF ⟨s2, ?_⟩
        rw [root_sym, List.map_nil, List.append_nil]
        exact h2
      | ref j hj =>
        obtain ⟨u, zs, rfl, hz1, hz2⟩ := link j (.inl rfl)
        refine iteT ⟨_, rfl, _, _, _, _, rfl, rfl, hz1, atI_nat (j := 1) hz2, _, h2, small, fun b o e => by rw [upd_ne (ne_of_none e hw)]; exact s2 _ _ e, ?_⟩
        rw [upd_same, root_ref]
        rfl
      | str j hj =>
        obtain ⟨u, zs, rfl, hz1, hz2⟩ := link j (.inr rfl)
        refine iteT ⟨_, rfl, _, _, _, _, rfl, rfl, hz1, atI_nat (j := 1) hz2, _, h2, small, fun b o e => by rw [upd_ne (ne_of_none e hw)]; exact s2 _ _ e, ?_⟩
        rw [upd_same, root_str]
        rfl
    · rintro H2 ⟨s2, h2⟩
      rw [hyl, List.take_length] at h2
      refine gname (seq_any ?_)
      have W0 : MkInv cs rs (List.replicate cs.length false) (fun j => j ∈ rs.flatMap rootN) := inv_start (fun j hj => by
        obtain ⟨d, hd, hjd⟩ := List.mem_flatMap.mp hj
        have hcd := (rd d hd).cell
        cases hcd with
        | int z a b => rw [root_int] at hjd; cases hjd
        | sym x k a b => rw [root_sym] at hjd; cases hjd
        | ref k hk => rw [root_ref, List.mem_singleton] at hjd; omega
        | str k hk => rw [root_str, List.mem_singleton] at hjd; omega) fun j => List.mem_flatMap
      have wl : (rs.flatMap rootN).length ≤ 10 := by
        have hfl : ∀ (l : List PyData), (l.flatMap rootN).length ≤ l.length := fun l => by
          induction l with
          | nil => exact Nat.le_refl _
          | cons e r ih =>
            rw [List.flatMap_cons, List.length_append, List.length_cons]
            have : (rootN e).length ≤ 1 := by
              unfold rootN
              split <;> simp
            omega
        have := hfl rs
        omega
      generalize rs.flatMap rootN = ws0 at h2 W0 wl
      refine ⟨fun m σ H' => ∃ (mk : List Bool) (ws : List Nat) (v4 v5 v6 : Option V), σ = [some (.ref a), some (.ref b), some (.ref p), some (.ref w), v4, v5, v6] ∧ Same H H' ∧ H' p = some (.lst (mk.map V.bl)) ∧ H' w = some (.lst (ws.map fun (j : Nat) => V.int (j : Int))) ∧ MkInv cs rs mk (fun j => j ∈ ws) ∧ 10 * unm mk + ws.length ≤ 610 ∧ m = 10 * unm mk + ws.length,
        ⟨_, _, ws0, none, none, none, rfl, s1.trans s2, s2 _ _ h1, h2, W0, by rw [unm_rep]; omega, rfl⟩, ?_⟩
      rintro m σ H3 ⟨mk, ws, v4, v5, v6, rfl, s3, h3, h3w, I3, m3, rfl⟩
      refine ⟨_, rfl, w, _, rfl, .inl (SqL.of h3w), _, _, rfl, rfl, _, rfl, ?_⟩
      rcases List.eq_nil_or_concat ws with z | ⟨B, j, z⟩
      · subst z
        refine iteF ?_
        refine nxp ?_
        exact ⟨_, rfl, q p mk _ (inv_done I3 fun j h => nomatch h) s3 np h3⟩
      · rw [List.concat_eq_append] at z
        subst z
        have hpos : decide ((0 : Int) < ((((B ++ [j]).map fun (j : Nat) => V.int (j : Int)).length : Nat) : Int)) = true := decide_eq_true (by rw [List.length_map, List.length_append, List.length_singleton]; omega)
        rw [hpos]
        refine iteT ⟨_, fun σ' H' h => h, ?_⟩
        refine seq_asg ?_
        have hy : ((B ++ [j]).map fun (j : Nat) => V.int (j : Int))[((B ++ [j]).map fun (j : Nat) => V.int (j : Int)).length - 1]? = some (V.int (j : Int)) := by simp
        have hdl : ((B ++ [j]).map fun (j : Nat) => V.int (j : Int)).dropLast = B.map fun (j : Nat) => V.int (j : Int) := by simp
        refine ⟨_, rfl, .inl ⟨rfl, _, SqL.of h3w⟩, _, _, _, rfl, rfl, h3w, hy, ?_⟩
        rw [hdl]
        have hbl : (B ++ [j]).length = B.length + 1 := by rw [List.length_append, List.length_singleton]
        have jl : j < cs.length := I3.low j (List.mem_append_right _ (List.mem_singleton.mpr rfl))
        have s4 : Same H (upd H3 w (.lst (B.map fun (j : Nat) => V.int (j : Int)))) := fun b o e => by rw [upd_ne (ne_of_none e nw)]; exact s3 _ _ e
        have h4 : (upd H3 w (.lst (B.map fun (j : Nat) => V.int (j : Int)))) p = some (.lst (mk.map V.bl)) := by rw [upd_ne pw]; exact h3
        have h4w : (upd H3 w (.lst (B.map fun (j : Nat) => V.int (j : Int)))) w = some (.lst (B.map fun (j : Nat) => V.int (j : Int))) := upd_same
        generalize upd H3 w (.lst (B.map fun (j : Nat) => V.int (j : Int))) = H4 at s4 h4 h4w
        refine gname (seq_ifN ?_)
        have hml : j < mk.length := by rw [I3.len]; exact jl
        obtain ⟨m0, hm0⟩ : ∃ m0, mk[j]? = some m0 := ⟨_, List.getElem?_eq_getElem hml⟩
        refine ⟨_, rfl, _, rfl, _, _, _, _, rfl, rfl, SqL.of h4, atI_nat (j := j) (by rw [List.getElem?_map, hm0]; rfl), _, rfl, ?_⟩
        cases m0 with
        | true =>
          refine iteT ?_
          refine ⟨10 * unm mk + B.length, by omega, mk, B, v4, _, v6, rfl, s4, h4, h4w, inv_skip I3 (fun k hk => ?_) (fun k hk => List.mem_append_left _ hk), by omega, rfl⟩
          rcases List.mem_append.mp hk with z | z
          · exact .inl z
          · rw [List.mem_singleton.mp z]
            exact .inr hm0
        | false =>
          refine iteF ?_
          refine seq_asg ?_
          refine ⟨_, rfl, _, rfl, p, _, _, j, rfl, rfl, h4, ixN_nat (by rw [List.length_map]; exact hml), ?_⟩
          have hset : (mk.map V.bl).set j (V.bl true) = (mk.set j true).map V.bl := by rw [List.map_set]
          rw [hset]
          have s5 : Same H (upd H4 p (.lst ((mk.set j true).map V.bl))) := fun b o e => by rw [upd_ne (ne_of_none e np)]; exact s4 _ _ e
          have h5 : (upd H4 p (.lst ((mk.set j true).map V.bl))) p = some (.lst ((mk.set j true).map V.bl)) := upd_same
          have h5w : (upd H4 p (.lst ((mk.set j true).map V.bl))) w = some (.lst (B.map fun (j : Nat) => V.int (j : Int))) := by rw [upd_ne pw.symm]; exact h4w
          generalize upd H4 p (.lst ((mk.set j true).map V.bl)) = H5 at s5 h5 h5w
          have hun := unm_set mk j hm0
          obtain ⟨d, hd⟩ : ∃ d, cs[j]? = some d := ⟨_, List.getElem?_eq_getElem jl⟩
          obtain ⟨v, hv, dv0⟩ := DpAll.get ha hd
          have dv := dp_same s5 _ _ dv0
          have hcd := wf.cell d (List.mem_of_getElem? hd)
          have vis : ∀ ws' : List Nat, (∀ k, k ∈ ws' ↔ k ∈ B ∨ k ∈ sucN d j) → MkInv cs rs (mk.set j true) (fun k => k ∈ ws') := fun ws' hw' => inv_visit wf I3 (w := j) (List.mem_append_right _ (List.mem_singleton.mpr rfl)) hd
            (fun k hk => (List.mem_append.mp hk).elim (fun z => .inl ((hw' k).mpr (.inl z))) fun z => .inr (List.mem_singleton.mp z)) (fun k hk => .inl ((hw' k).mpr (.inr hk))) fun k hk => ((hw' k).mp hk).elim (fun z => .inl (List.mem_append_left _ z)) .inr
          refine seq_asg ?_
          refine ⟨_, rfl, _, rfl, _, _, _, _, rfl, rfl, s5.seq hs, atI_nat (j := j) hv, ?_⟩
          refine gname ?_
          refine ⟨_, rfl, v, d, rfl, dv, cell_any hcd, _, rfl, ?_⟩
          have fin : ∀ (H6 : Hp) (ws' : List Nat), Same H H6 → H6 p = some (.lst ((mk.set j true).map V.bl)) → H6 w = some (.lst (ws'.map fun (j : Nat) => V.int (j : Int))) → (∀ k, k ∈ ws' ↔ k ∈ B ∨ k ∈ sucN d j) → ws'.length ≤ B.length + 8 →
              ∃ m', m' < 10 * unm mk + (B ++ [j]).length ∧ ∃ (mk' : List Bool) (ws : List Nat) (u4 u5 u6 : Option V), [some (V.ref a), some (.ref b), some (.ref p), some (.ref w), v4, some (.int (j : Int)), some v] = [some (.ref a), some (.ref b), some (.ref p), some (.ref w), u4, u5, u6] ∧ Same H H6 ∧ H6 p = some (.lst (mk'.map V.bl)) ∧ H6 w = some (.lst (ws.map fun (j : Nat) => V.int (j : Int))) ∧ MkInv cs rs mk' (fun j => j ∈ ws) ∧ 10 * unm mk' + ws.length ≤ 610 ∧ m' = 10 * unm mk' + ws.length := fun H6 ws' s6 h6 h6w hw' hl' =>
            ⟨10 * unm (mk.set j true) + ws'.length, by omega, mk.set j true, ws', v4, _, _, rfl, s6, h6, h6w, vis ws' hw', by omega, rfl⟩
          have none : isLk d = false → arN d = 0 → NdA d → sucN d j = [] → _ := fun _ _ _ hsu => fin H5 B s5 h5 h5w (fun k => by rw [hsu]; simp) (by omega)
          have hB1 : (B.map fun (j : Nat) => V.int (j : Int)).length < sizeLine := small1000 (by rw [List.length_map]; omega)
          have link : ∀ t : Nat, d = refD t ∨ d = strD t → ∃ (u : Addr) (zs : List V), v = .ref u ∧ SqT K H5 u zs ∧ zs[1]? = some (.int (t : Int)) := fun t hj => by
            rcases hj with rfl | rfl
            · cases dv with
              | tup hs ha =>
              obtain ⟨v, hv, hdv⟩ := DpAll.get (i := 1) ha rfl
              cases hdv
              exact ⟨_, _, rfl, hs, hv⟩
            · cases dv with
              | tup hs ha =>
              obtain ⟨v, hv, hdv⟩ := DpAll.get (i := 1) ha rfl
              cases hdv
              exact ⟨_, _, rfl, hs, hv⟩
          cases id hcd with
          | int z z1 z2 =>
            refine iteF ?_
            refine ⟨_, rfl, v, _, rfl, dv, (cell_nd hcd rfl).1, _, _, rfl, rfl, _, rfl, ?_⟩
            exact iteF (none rfl rfl (cell_nd hcd rfl).1 (suc_int _ _))
          | ref t ht2 =>
            obtain ⟨u, zs, rfl, hz1, hz2⟩ := link t (.inl rfl)
            refine iteT ?_
            refine ⟨_, rfl, .inl ⟨rfl, _, SqL.of h5w⟩, _, rfl, _, _, _, _, rfl, rfl, hz1, atI_nat (j := 1) hz2, _, _, _, rfl, rfl, h5w, hB1, ?_⟩
            refine fin _ (B ++ [t]) (fun b o e => by rw [upd_ne (ne_of_none e nw)]; exact s5 _ _ e) (by rw [upd_ne pw]; exact h5) (by rw [upd_same, List.map_append]; rfl) (fun k => by rw [suc_ref]; exact List.mem_append) (by rw [List.length_append, List.length_singleton]; omega)
          | str t ht2 =>
            obtain ⟨u, zs, rfl, hz1, hz2⟩ := link t (.inr rfl)
            refine iteT ?_
            refine ⟨_, rfl, .inl ⟨rfl, _, SqL.of h5w⟩, _, rfl, _, _, _, _, rfl, rfl, hz1, atI_nat (j := 1) hz2, _, _, _, rfl, rfl, h5w, hB1, ?_⟩
            refine fin _ (B ++ [t]) (fun b o e => by rw [upd_ne (ne_of_none e nw)]; exact s5 _ _ e) (by rw [upd_ne pw]; exact h5) (by rw [upd_same, List.map_append]; rfl) (fun k => by rw [suc_str]; exact List.mem_append) (by rw [List.length_append, List.length_singleton]; omega)
          | sym x k hx hk =>
            refine iteF ?_
            have nd := (cell_nd hcd rfl).1
            refine ⟨_, rfl, v, _, rfl, dv, nd, _, _, rfl, rfl, _, rfl, ?_⟩
            have ark : arN (symD x k) = k := by simp [symD, arN]
            rw [ark]
            refine ite2 (fun g => ?_) (fun g => ?_)
            · cases id dv with
              | @tup u zs _ hz az =>
              obtain ⟨v2, hv2, dv2⟩ := DpAll.get (i := 2) az rfl
              cases dv2
              refine ⟨_, rfl, .inl ⟨rfl, _, SqL.of h5w⟩, _, rfl, _, _, rfl, rfl, _, rfl, _, rfl, _, _, _, _, rfl, rfl, hz, atI_nat (j := 2) hv2, _, _, rfl, rfl, _, _, rfl, rfl, _, _, rfl, rfl, ⟨by omega, by omega, by omega, by omega, by omega⟩, fun p9 np9 => ?_⟩
              rw [rg_suc]
              have s6 := s5.trans (same_upd (o := .lst (((List.range k).map fun m => j + 1 + m).map fun (n : Nat) => V.int (n : Int))) np9)
              have w9 : w ≠ p9 := ne_of_none h5w np9
              have p9p : p ≠ p9 := ne_of_none h5 np9
              have hrl : ((List.range k).map fun m => j + 1 + m).length = k := by rw [List.length_map, List.length_range]
              refine ⟨_, _, _, _, rfl, rfl, by rw [upd_ne w9]; exact h5w, upd_same, small_of (by rw [List.length_map, List.length_map, hrl]; omega), ?_⟩
              refine fin _ (B ++ (List.range k).map fun m => j + 1 + m) (fun b o e => by rw [upd_ne (ne_of_none e nw)]; exact s6 _ _ e) (by rw [upd_ne pw, upd_ne p9p]; exact h5) (by rw [upd_same, List.map_append]) (fun k2 => by rw [suc_sym]; exact List.mem_append) (by rw [List.length_append, hrl]; omega)
            · have k0 : k = 0 := by
                rcases Nat.eq_zero_or_pos k with z | z
                · exact z
                · exact absurd (decide_eq_true (show (0 : Int) < (k : Int) by omega)) g
              subst k0
              exact none rfl rfl nd (by rw [suc_sym]; rfl)

theorem ok_reachable {f : Addr} {fd : FuncData} (F : Fun K "reachable" "reachable" s_reachable f fd) (E : Bi K mg) (D_marks : Has P w K mg base 3 "marks" ["cells", "roots"] (sp_marks K)) : FnOk P w K mg base CX0 4 f fd ["cells", "roots"] (sp_reachable K) := by
  obtain ⟨f_marks, fd_marks, G_marks, g_marks, kp_marks, b_marks⟩ := D_marks
  refine F.ok sc_reachable (fun vs H Q E h => ?_) (fun cdv A outer s H vs Q E' hr h => ?_)
  · obtain ⟨c, r, cs, rs, rfl, _⟩ := h
    rfl
  · obtain ⟨c, r, cs, rs, rfl, hc, hq, wf, rd, l1, l2, q⟩ := h
    refine ⟨_, (pss_one (ps_ret (pe_lc (own := [("at", 2), ("is_marked", 3)]) (g := gTup K 2 (gCons (gName 2) (gCons (gName 3) gNil))) rfl sc_reachable.nd (pi_enum (by rfl) E.b_enumerate (pa_cons (pe_call G_marks (hr.mono (by decide)) (by rfl) g_marks kp_marks b_marks .nil pass0 (pa_cons (pv 0) (pa_cons (pv 1) pa_nil))) pa_nil)) (blkOk_by (N := N_reachable) (sc := defScope s_reachable) (by decide +kernel)) (fun _ _ _ _ _ => pg_tup rfl (pgs_cons (pg_name (i := 2) sc_reachable.nd rfl (Or.inl rfl)) (pgs_cons (pg_name (i := 3) sc_reachable.nd rfl (Or.inl rfl)) pgs_nil))) (fun _ _ _ _ _ => pts_one (pt_val (pv 3))) (fun _ _ _ _ _ => (pv 2))))), ?_⟩
    refine ⟨_, rfl, _, rfl, c, r, cs, rs, rfl, hc, hq, wf, rd, l1, l2, fun p mk H1 L s1 np e1 => ⟨p, _, rfl, SqL.of e1, fun R hR => ?_⟩⟩
    have nR : H R = Option.none := s1.free hR
    have hml : mk.length ≤ 60 := by rw [L.1]; exact l1
    refine walk_gen (n := (mk.map V.bl).length) walk_enum (fun i H' => Same H1 H' ∧ H' R = some (.lst ((resN mk i).map fun (j : Nat) => V.int (j : Int)))) ⟨same_upd hR, upd_same⟩ (fun j H' _ h => SqL.of (h.1 _ _ e1)) ?_ ?_
    · rintro i z H2 H3 hi ⟨s2, h2⟩ ⟨T, x, y, rfl, nT, rfl, hx, hy⟩
      cases hx
      change (mk.map V.bl)[i]? = some y at hy
      rw [List.getElem?_map] at hy
      obtain ⟨b, hb, rfl⟩ : ∃ b, mk[i]? = some b ∧ V.bl b = y := by
        cases hb : mk[i]? with
        | none => rw [hb] at hy; cases hy
        | some b => rw [hb] at hy; exact ⟨b, rfl, Option.some.inj hy⟩
      rw [List.length_map] at hi
      have RT : R ≠ T := ne_of_none h2 nT
      have hrl := resN_len mk i
      refine ⟨T, _, rfl, SqT.of upd_same, rfl, _, _, rfl, gname ⟨_, [], rfl, gname ⟨rfl, ?_⟩⟩⟩
      have h3 : (upd H2 T (.tup [.int (i : Int), .bl b])) R = some (.lst ((resN mk i).map fun (j : Nat) => V.int (j : Int))) := by rw [upd_ne RT]; exact h2
      have s3 := s2.trans (same_upd (o := .tup [.int (i : Int), .bl b]) nT)
      refine ⟨rfl, _, rfl, _, rfl, ?_⟩
      rw [resN_succ, hb]
      cases b with
      | true =>
        refine iteT ⟨_, rfl, _, h3, small1000 (by rw [List.length_map]; omega), fun b o e => by rw [upd_ne (ne_of_none e hR)]; exact s3 _ _ e, ?_⟩
        rw [upd_same, if_pos rfl, List.map_append]
        rfl
      | false =>
        refine iteF ⟨s3, ?_⟩
        rw [if_neg (by decide), List.append_nil]
        exact h3
    · rintro H2 ⟨s2, h2⟩
      rw [List.length_map] at h2
      exact q R mk _ L (s1.trans s2) h2

theorem ok_slide {f : Addr} {fd : FuncData} (F : Fun K "slide" "slide" s_slide f fd) (E : Bi K mg) (D_reachable : Has P w K mg base 4 "reachable" ["cells", "roots"] (sp_reachable K)) (D_moved : Has P w K mg base 2 "moved" ["cell", "places"] (sp_moved K)) : FnOk P w K mg base CX0 5 f fd ["cells", "roots"] (sp_slide K) := by
  obtain ⟨f_reachable, fd_reachable, G_reachable, g_reachable, kp_reachable, b_reachable⟩ := D_reachable
  obtain ⟨f_moved, fd_moved, G_moved, g_moved, kp_moved, b_moved⟩ := D_moved
  refine F.ok sc_slide (fun vs H Q E h => ?_) (fun cdv A outer s H vs Q E' hr h => ?_)
  · obtain ⟨c, r, cs, rs, rfl, _⟩ := h
    rfl
  · obtain ⟨c, r, cs, rs, rfl, hc, hq, wf, rd, l1, l2, q⟩ := h
    refine ⟨_, (pss_cons (ps_set (i := 2) sc_slide.nd rfl (Or.inr rfl) (pe_dc (own := [("new", 3), ("old", 4)]) (g := gTup K 2 (gCons (gName 3) (gCons (gName 4) gNil))) (tt := tYes) rfl sc_slide.nd (pi_enum (by rfl) E.b_enumerate (pa_cons (pe_call G_reachable (hr.mono (by decide)) (by rfl) g_reachable kp_reachable b_reachable .nil pass0 (pa_cons (pv 0) (pa_cons (pv 1) pa_nil))) pa_nil)) (blkOk_by (N := N_slide) (sc := defScope s_slide) (by decide +kernel)) (fun _ _ _ _ _ => pg_tup rfl (pgs_cons (pg_name (i := 3) sc_slide.nd rfl (Or.inl rfl)) (pgs_cons (pg_name (i := 4) sc_slide.nd rfl (Or.inl rfl)) pgs_nil))) (fun _ _ _ _ _ => pts_nil) (fun _ _ _ _ _ => (pv 4)) (fun _ _ _ _ _ => (pv 3))))
      (pss_cons (ps_lock (ps_setLc (i := 5) (own := [("at", 6)]) (g := gName 6) (tt := tYes) rfl sc_slide.nd rfl rfl (by rfl) (pi_keys (pv 2)) (blkOk_by (N := N_slide) (sc := defScope s_slide) (by decide +kernel)) (fun _ _ _ _ _ => pg_name (i := 6) sc_slide.nd rfl (Or.inl rfl)) (fun _ _ _ _ _ => pts_nil) (fun _ _ _ _ _ => (pe_call G_moved (hr.mono (by decide)) (by rfl) g_moved kp_moved b_moved .nil pass0 (pa_cons (pe_ix (show IxR _ (rIxL K) from ix_list) (pv 0) (pv 6) (fun _ _ => rfl)) (pa_cons (pv 2) pa_nil))))))
      (pss_one (ps_ret (pe_tup (pa_cons (pv 5) (pa_cons (pe_lc (own := [("root", 7)]) (g := gName 7) (tt := tYes) rfl sc_slide.nd (pi_list (pv 1)) (blkOk_by (N := N_slide) (sc := defScope s_slide) (by decide +kernel)) (fun _ _ _ _ _ => pg_name (i := 7) sc_slide.nd rfl (Or.inl rfl)) (fun _ _ _ _ _ => pts_nil) (fun _ _ _ _ _ => (pe_call G_moved (hr.mono (by decide)) (by rfl) g_moved kp_moved b_moved .nil pass0 (pa_cons (pv 7) (pa_cons (pv 2) pa_nil))))) (pa_cons (pv 2) pa_nil)))))))), ?_⟩
    refine st_of (σ := [some _, some _, none, none, none, none, none, none]) rfl ?_
    walk_at "go"
    refine ⟨_, rfl, _, rfl, c, r, cs, rs, rfl, hc, hq, wf, rd, l1, l2, fun m mk H1 lst s1 e1 => ⟨m, _, rfl, SqL.of e1, fun p np => ?_⟩⟩
    have sl := sl_of lst
    generalize hL : resN mk mk.length = L at e1 sl
    have np0 : H p = Option.none := s1.free np
    refine dc_it (n := (L.map fun (j : Nat) => V.int (j : Int)).length) walk_enum (fun i H' => Same H1 H' ∧ H' p = some (.dK (kvP L i))) ⟨same_upd np, upd_same⟩ (fun j H' _ h => SqL.of (h.1 _ _ e1)) ?_ ?_
    · rintro i z H2 H3 hi ⟨s2, h2⟩ ⟨T, x, y, rfl, nT, rfl, hx, hy⟩
      cases hx
      change (L.map fun (j : Nat) => V.int (j : Int))[i]? = some y at hy
      rw [List.getElem?_map] at hy
      obtain ⟨j, hj, rfl⟩ := Option.map_eq_some_iff.mp hy
      have pT : p ≠ T := ne_of_none h2 nT
      refine ⟨T, _, rfl, SqT.of upd_same, rfl, ?_⟩
      walk_at "wp"
      walk_at "go"
      refine ⟨rfl, ?_⟩
      walk_at "go"
      rw [List.length_map] at hi
      refine ⟨_, Sum.inl (j : Int), rfl, by rw [upd_ne pT]; exact h2, Nat.lt_of_le_of_lt (show _ ≤ 100000 by rw [kvP_len (by omega)]; have := lst.1; have := resN_len mk mk.length; rw [hL] at this; omega) (by decide), same_new np (s2.trans (same_upd nT)), ?_⟩
      rw [upd_same, kvP_put sl.nodup hj]
    · rintro H2 ⟨s2, h2⟩
      rw [List.length_map] at h2
      walk_at "go"
      refine ⟨p, _, h2, trivial, fun od => ?_⟩
      walk_at "go"
      refine ⟨_, rfl, p, od, rfl, .inl ⟨_, upd_same, fun a na => ?_⟩⟩
      obtain ⟨ca, xs, rfl, hsc, hac⟩ := dp_lst hc
      have lx := DpAll.len hac
      have sH2 : Same H H2 := s1.trans s2
      have sHL : Same H (upd H2 p (.frz od (.dK (kvP L L.length)))) := same_new np0 sH2
      have pL : (upd H2 p (.frz od (.dK (kvP L L.length)))) p = some (.frz od (.dK (kvP L L.length))) := upd_same
      have ap : a ≠ p := (ne_of_none pL na).symm
      have aH : H a = Option.none := sHL.free na
      generalize upd H2 p (.frz od (.dK (kvP L L.length))) = HL at sHL pL na
      have lkv : (kvP L L.length).length = L.length := kvP_len (Nat.le_refl _)
      have l50 : L.length ≤ 60 := by
        have h1 := lst.1
        have h2 := resN_len mk mk.length
        rw [hL] at h2
        omega
      have nlc : ∀ {e : PyData}, e ∈ cells2 L cs → noL e = true := fun he => by
        obtain ⟨i, hi⟩ := List.getElem?_of_mem he
        exact (cell_lay ((sl.wf wf).cell _ he)).2.2.2
      refine lc_it walk_keys (fun i H' => Same HL H' ∧ ∃ ys, H' a = some (.lst ys) ∧ DpAll K H' ys ((cells2 L cs).take i)) ⟨same_upd na, [], upd_same, .nil⟩ (fun i H' _ h => h.1 _ _ pL) ?_ ?_
      · rintro i z H3 H4 hi ⟨s3, ys, e3, d3⟩ ⟨rfl, k, v, hk, rfl⟩
        rw [lkv] at hi
        have hj := List.getElem?_eq_getElem hi
        rw [kvP_at hi hj] at hk
        cases hk
        have hl := sl.low L[i] (List.getElem_mem hi)
        obtain ⟨u, hu, du⟩ := DpAll.get hac (List.getElem?_eq_getElem hl)
        have sH4 := sHL.trans s3
        obtain ⟨c1, c2⟩ := sl.cell wf (List.getElem_mem hi) (List.getElem?_eq_getElem hl)
        walk_at "wp"
        walk_at "go"
        refine ⟨rfl, ?_⟩
        walk_at "go"
        refine ixL (j := L[i]) (same_sqL sH4 hsc) hu ?_
        walk_at "go"
        refine ⟨u, _, p, L, _, rfl, dp_same sH4 _ _ du, c1, .inr ⟨od, s3 _ _ pL⟩, sl.nodup, c2, fun v H5 s5 d5 => ?_⟩
        have ly := DpAll.len d3
        rw [List.length_take] at ly
        have e5 := s5 _ _ e3
        have g2 := cells2_of hj (List.getElem?_eq_getElem hl)
        refine ⟨ys, e5, Nat.lt_of_le_of_lt (show _ ≤ 100000 by omega) (by decide), same_new na (s3.trans s5), ys ++ [v], upd_same, ?_⟩
        rw [List.take_add_one, g2]
        have nt5 : notTup H5 a := .inl ⟨_, e5⟩
        have nl2 : noLA ((cells2 L cs).take i) = true := noLA_of fun e he => nlc (List.mem_of_mem_take he)
        exact dpAll_end (dp_putAll nt5 _ _ nl2 (dp_sameAll s5 _ _ d3)) (dp_put nt5 _ _ (nlc (List.mem_of_getElem? g2)) d5)
      · rintro H3 ⟨s3, ys, e3, d3⟩
        walk_at "go"
        refine ⟨s3 _ _ pL, ?_⟩
        walk_at "go"
        rw [show (kvP L L.length).length = L.length from lkv, List.take_of_length_le (by rw [cells2_len]; exact Nat.le_refl _)] at d3
        obtain ⟨ra, rx, rfl, hsr, har⟩ := dp_lst hq
        have lr := DpAll.len har
        have sH3 : Same H (upd H3 p (.dK (kvP L L.length))) := same_new np0 (sHL.trans s3)
        have e4 : (upd H3 p (.dK (kvP L L.length))) a = some (.lst ys) := by rw [upd_ne ap]; exact e3
        have p4 : (upd H3 p (.dK (kvP L L.length))) p = some (.dK (kvP L L.length)) := upd_same
        have d4 : DpAll K (upd H3 p (.dK (kvP L L.length))) ys (cells2 L cs) := dp_putAll (.inr (.inr ⟨_, _, s3 _ _ pL⟩)) _ _ (noLA_of fun e he => nlc he) d3
        generalize upd H3 p (.dK (kvP L L.length)) = H4 at sH3 e4 p4 d4
        refine ⟨ra, rfl, ⟨_, same_sqL sH3 hsr⟩, fun b nb => ?_⟩
        have bH : H b = Option.none := sH3.free nb
        have ab : a ≠ b := ne_of_none e4 nb
        have pb : p ≠ b := ne_of_none p4 nb
        refine lc_it walk_list (fun i H' => Same H4 H' ∧ ∃ zs, H' b = some (.lst zs) ∧ DpAll K H' zs ((roots2 L rs).take i)) ⟨same_upd nb, [], upd_same, .nil⟩ (fun i H' _ h => same_sqL (sH3.trans h.1) hsr) ?_ ?_
        · rintro i z H5 H6 hi ⟨s5, zs, e5, d5⟩ ⟨rfl, hz⟩
          obtain ⟨d, hd, dz0⟩ := DpAll.getV har hz
          have sH6 := sH3.trans s5
          have rdd := rd d (List.mem_of_getElem? hd)
          walk_at "wp"
          walk_at "go"
          refine ⟨rfl, ?_⟩
          walk_at "go"
          refine ⟨z, d, p, L, _, rfl, dp_same sH6 _ _ dz0, rdd.cell, .inl (s5 _ _ p4), sl.nodup, sl.root d (List.mem_of_getElem? hd), fun v H7 s7 d7 => ?_⟩
          have lz := DpAll.len d5
          rw [List.length_take] at lz
          have e7 := s7 _ _ e5
          have g2 : (roots2 L rs)[i]? = some (movD L d) := by unfold roots2; rw [List.getElem?_map, hd]; rfl
          refine ⟨zs, e7, Nat.lt_of_le_of_lt (show _ ≤ 100000 by omega) (by decide), same_new nb (s5.trans s7), zs ++ [v], upd_same, ?_⟩
          rw [List.take_add_one, g2]
          have nt7 : notTup H7 b := .inl ⟨_, e7⟩
          have nlr : ∀ {e : PyData}, e ∈ roots2 L rs → noL e = true := fun he => (cell_lay (sl.roots rd _ he).cell).2.2.2
          exact dpAll_end (dp_putAll nt7 _ _ (noLA_of fun e he => nlr (List.mem_of_mem_take he)) (dp_sameAll s7 _ _ d5)) (dp_put nt7 _ _ (nlr (List.mem_of_getElem? g2)) d7)
        · rintro H5 ⟨s5, zs, e5, d5⟩
          rw [lr, List.take_of_length_le (by unfold roots2; rw [List.length_map]; exact Nat.le_refl _)] at d5
          walk_at "go"
          refine newN (n := 3) rfl (by decide) fun t nt => ?_
          have st := same_upd (o := .tup [V.ref a, V.ref b, V.ref p]) nt
          subst hL
          exact q t a b p ys zs mk _ lst ((sH3.trans s5).trans st) ⟨aH, bH, np0, ab, ap, pb.symm⟩ upd_same (st _ _ (s5 _ _ e4)) (dp_sameAll (s5.trans st) _ _ d4) (st _ _ e5) (dp_sameAll st _ _ d5) (st _ _ (s5 _ _ p4))

theorem ok_law {f : Addr} {fd : FuncData} (F : Fun K "law" "law" s_law f fd) (E : Bi K mg) (D__law_stream : Has P w K mg base 1 "_law_stream" ["script"] (sp__law_stream K)) (D__law_cells : Has P w K mg base 2 "_law_cells" ["stream", "size"] (sp__law_cells K)) (D__law_draw : Has P w K mg base 1 "_law_draw" ["stream", "many"] (sp__law_draw K)) (D__law_roots : Has P w K mg base 2 "_law_roots" ["stream", "cells"] (sp__law_roots K)) (D_slide : Has P w K mg base 5 "slide" ["cells", "roots"] (sp_slide K)) (D__law_reachable : Has P w K mg base 1 "_law_reachable" ["cells", "roots"] (sp__law_reachable K)) (D__law_moved : Has P w K mg base 1 "_law_moved" ["cell", "places"] (sp__law_moved K)) : FnOk P w K mg base CX0 6 f fd ["script"] (sp_law K) := by
  obtain ⟨f__law_stream, fd__law_stream, G__law_stream, g__law_stream, kp__law_stream, b__law_stream⟩ := D__law_stream
  obtain ⟨f__law_cells, fd__law_cells, G__law_cells, g__law_cells, kp__law_cells, b__law_cells⟩ := D__law_cells
  obtain ⟨f__law_draw, fd__law_draw, G__law_draw, g__law_draw, kp__law_draw, b__law_draw⟩ := D__law_draw
  obtain ⟨f__law_roots, fd__law_roots, G__law_roots, g__law_roots, kp__law_roots, b__law_roots⟩ := D__law_roots
  obtain ⟨f_slide, fd_slide, G_slide, g_slide, kp_slide, b_slide⟩ := D_slide
  obtain ⟨f__law_reachable, fd__law_reachable, G__law_reachable, g__law_reachable, kp__law_reachable, b__law_reachable⟩ := D__law_reachable
  obtain ⟨f__law_moved, fd__law_moved, G__law_moved, g__law_moved, kp__law_moved, b__law_moved⟩ := D__law_moved
  refine F.ok sc_law (fun vs H Q E h => ?_) (fun cdv A outer s H vs Q E' hr h => ?_)
  · obtain ⟨a, ns, rfl, _⟩ := h
    rfl
  · obtain ⟨a, ns, rfl, hS, hl, q⟩ := h
    have n9 : (2 : Nat) ^ 8 ≤ 2 ^ 9000 := Nat.pow_le_pow_right (by decide) (by decide)
    refine ⟨_, (pss_cons (ps_set (i := 1) sc_law.nd rfl (Or.inl rfl) (pe_call G__law_stream (hr.mono (by decide)) (by rfl) g__law_stream kp__law_stream b__law_stream .nil pass0 (pa_cons (pv 0) pa_nil)))
      (pss_cons (ps_set (i := 2) sc_law.nd rfl (Or.inr rfl) (pe_call G__law_cells (hr.mono (by decide)) (by rfl) g__law_cells kp__law_cells b__law_cells .nil pass0 (pa_cons (pv 1) (pa_cons (pe_call G__law_draw (hr.mono (by decide)) (by rfl) g__law_draw kp__law_draw b__law_draw .nil pass0 (pa_cons (pv 1) (pa_cons pe_int pa_nil))) pa_nil))))
      (pss_cons (ps_set (i := 3) sc_law.nd rfl (Or.inl rfl) (pe_call G__law_roots (hr.mono (by decide)) (by rfl) g__law_roots kp__law_roots b__law_roots .nil pass0 (pa_cons (pv 1) (pa_cons (pv 2) pa_nil))))
      (pss_cons (ps_set (i := 4) sc_law.nd rfl (Or.inl rfl) (pe_callTy call_list_of (by rfl) E.b_list (by decide +kernel) (pa_cons (pv 2) pa_nil)))
      (pss_cons (ps_set (i := 5) sc_law.nd rfl (Or.inl rfl) (pe_callTy call_list_of (by rfl) E.b_list (by decide +kernel) (pa_cons (pv 3) pa_nil)))
      (pss_cons (ps_set (i := 6) sc_law.nd rfl (Or.inl rfl) (pe_call G_slide (hr.mono (by decide)) (by rfl) g_slide kp_slide b_slide .nil pass0 (pa_cons (pv 4) (pa_cons (pv 5) pa_nil))))
      (pss_cons (ps_if (pw_or (pt_not (pt_val (pe_callB (show CallR _ (.builtin "isinstance") (rIsi K) from call_isi) (by rfl) E.b_isinstance (by decide +kernel) (pa_cons (pv 6) (pa_cons (pe_ty "tuple" (by rfl) E.b_tuple (by decide +kernel)) pa_nil))))) (pw_or (pt_cmpR op_ne (pe_callB (show CallR _ (.builtin "len") (fun xs H Q => ∃ p ys, xs = [V.ref p] ∧ (SqL K H p ys ∨ SqT K H p ys) ∧ Q (V.int ys.length) H) from call_len_seq) (by rfl) E.b_len PySem.boot_len (pa_cons (pv 6) pa_nil)) pe_int (nomark _)) (pw_or (pt_cmpR (show OpR _ (compareOp .NotEq) (rNeD K) from op_neD hr.units) (pv 4) (pv 2) (nomark _)) (pw_or1 (pt_cmpR (show OpR _ (compareOp .NotEq) (rNeD K) from op_neD hr.units) (pv 5) (pv 3) (nomark _)))))).pt (pss_one (ps_ret pe_bl)) pss_nil)
      (pss_cons (ps_set (i := 7) sc_law.nd rfl (Or.inl rfl) (pe_call G__law_reachable (hr.mono (by decide)) (by rfl) g__law_reachable kp__law_reachable b__law_reachable .nil pass0 (pa_cons (pv 2) (pa_cons (pv 3) pa_nil))))
      (pss_cons (ps_set (i := 8) sc_law.nd rfl (Or.inr rfl) pe_dnewK)
      (pss_cons (ps_for PassesOwn.never rfl (pi_range1 (by rfl) E.b_range (pa_cons (pe_callB (show CallR _ (.builtin "len") (fun xs H Q => ∃ p ys, xs = [V.ref p] ∧ (SqL K H p ys ∨ SqT K H p ys) ∧ Q (V.int ys.length) H) from call_len_seq) (by rfl) E.b_len PySem.boot_len (pa_cons (pv 7) pa_nil)) pa_nil)) (pg_name (i := 9) sc_law.nd rfl (Or.inl rfl)) (pss_one (ps_dput (hu_of hr) (pv 8) (pe_ix (show IxR _ (rIxL K) from ix_list) (pv 7) (pv 9) (fun _ _ => rfl)) (pv 9) (by rfl))))
      (pss_cons (ps_if (pw_or (pt_not (pt_val (pe_callB (show CallR _ (.builtin "isinstance") (rIsi K) from call_isi) (by rfl) E.b_isinstance (by decide +kernel) (pa_cons (pe_ix (show IxR _ (rIxT K) from ix_tup) (pv 6) pe_int (fun _ _ => rfl)) (pa_cons (pe_ty "dict" (by rfl) E.b_dict (by decide +kernel)) pa_nil))))) (pw_or1 (pt_cmpR (op_neW (units150 hr)) (pe_ix (show IxR _ (rIxT K) from ix_tup) (pv 6) pe_int (fun _ _ => rfl)) (pv 8) (nomark _)))).pt (pss_one (ps_ret pe_bl)) pss_nil)
      (pss_cons (ps_setLc (i := 10) (own := [("at", 11)]) (g := gName 11) (tt := tYes) rfl sc_law.nd rfl rfl (by rfl) (pi_list (pv 7)) (blkOk_by (N := N_law) (sc := defScope s_law) (by decide +kernel)) (fun _ _ _ _ _ => pg_name (i := 11) sc_law.nd rfl (Or.inl rfl)) (fun _ _ _ _ _ => pts_nil) (fun _ _ _ _ _ => (pe_call G__law_moved (hr.mono (by decide)) (by rfl) g__law_moved kp__law_moved b__law_moved .nil pass0 (pa_cons (pe_ix (show IxR _ (rIxL K) from ix_list) (pv 2) (pv 11) (fun _ _ => rfl)) (pa_cons (pv 8) pa_nil)))))
      (pss_cons (ps_if (pw_or (pt_cmpR (show OpR _ (compareOp .NotEq) (rNeD K) from op_neD hr.units) (pe_ix (show IxR _ (rIxT K) from ix_tup) (pv 6) pe_int (fun _ _ => rfl)) (pv 10) (nomark _)) (pw_or1 (pt_cmpR (show OpR _ (compareOp .NotEq) (rNeD K) from op_neD hr.units) (pe_ix (show IxR _ (rIxT K) from ix_tup) (pv 6) pe_int (fun _ _ => rfl)) (pe_lc (own := [("root", 12)]) (g := gName 12) (tt := tYes) rfl sc_law.nd (pi_list (pv 3)) (blkOk_by (N := N_law) (sc := defScope s_law) (by decide +kernel)) (fun _ _ _ _ _ => pg_name (i := 12) sc_law.nd rfl (Or.inl rfl)) (fun _ _ _ _ _ => pts_nil) (fun _ _ _ _ _ => (pe_call G__law_moved (hr.mono (by decide)) (by rfl) g__law_moved kp__law_moved b__law_moved .nil pass0 (pa_cons (pv 12) (pa_cons (pv 8) pa_nil))))) (nomark _)))).pt (pss_one (ps_ret pe_bl)) pss_nil)
      (pss_cons (ps_if (pt_val (pe_callB (cr_any rfl) (by rfl) E.b_any (by decide +kernel) (pa_cons (pe_lc (own := [("new", 9)]) (g := gName 9) (tt := tYes) rfl sc_law.nd (pi_list (pe_listVals rfl (by rfl) E.b_list (pe_ix (show IxR _ (rIxT K) from ix_tup) (pv 6) pe_int (fun _ _ => rfl)))) (blkOk_by (N := N_law) (sc := defScope s_law) (by decide +kernel)) (fun _ _ _ _ _ => pg_name (i := 9) sc_law.nd rfl (Or.inl rfl)) (fun _ _ _ _ _ => pts_nil) (fun _ _ _ _ _ => (pe_callB (show CallR _ (.builtin "isinstance") (rIsi K) from call_isi) (by rfl) E.b_isinstance (by decide +kernel) (pa_cons (pv 9) (pa_cons (pe_ty "bool" (by rfl) E.b_bool (by decide +kernel)) pa_nil))))) pa_nil))) (pss_one (ps_ret pe_bl)) pss_nil)
      (pss_cons (ps_set (i := 13) sc_law.nd rfl (Or.inl rfl) (pe_call G_slide (hr.mono (by decide)) (by rfl) g_slide kp_slide b_slide .nil pass0 (pa_cons (pe_callTy call_list_of (by rfl) E.b_list (by decide +kernel) (pa_cons (pe_ix (show IxR _ (rIxT K) from ix_tup) (pv 6) pe_int (fun _ _ => rfl)) pa_nil)) (pa_cons (pe_callTy call_list_of (by rfl) E.b_list (by decide +kernel) (pa_cons (pe_ix (show IxR _ (rIxT K) from ix_tup) (pv 6) pe_int (fun _ _ => rfl)) pa_nil)) pa_nil))))
      (pss_cons (ps_set (i := 14) sc_law.nd rfl (Or.inl rfl) pe_dnewK)
      (pss_cons (ps_for PassesOwn.never rfl (pi_range1 (by rfl) E.b_range (pa_cons (pe_callB (show CallR _ (.builtin "len") (fun xs H Q => ∃ p ys, xs = [V.ref p] ∧ (SqL K H p ys ∨ SqT K H p ys) ∧ Q (V.int ys.length) H) from call_len_seq) (by rfl) E.b_len PySem.boot_len (pa_cons (pv 7) pa_nil)) pa_nil)) (pg_name (i := 11) sc_law.nd rfl (Or.inl rfl)) (pss_one (ps_dput (hu_of hr) (pv 14) (pv 11) (pv 11) (by rfl))))
      (pss_cons (ps_if (pt_cmpR (op_neW (units150 hr)) (pv 13) (pe_tup (pa_cons (pe_ix (show IxR _ (rIxT K) from ix_tup) (pv 6) pe_int (fun _ _ => rfl)) (pa_cons (pe_ix (show IxR _ (rIxT K) from ix_tup) (pv 6) pe_int (fun _ _ => rfl)) (pa_cons (pv 14) pa_nil)))) (nomark _)) (pss_one (ps_ret pe_bl)) pss_nil)
      (pss_cons (ps_expr (pe_bm PySem.F.plainAttrs_list PySem.F.slot_list_append PySem.F.type_list_append mt_append (pe_ix (show IxR _ (rIxT K) from ix_tup) (pv 6) pe_int (fun _ _ => rfl)) (pa_cons pe_int pa_nil)))
      (pss_cons (ps_expr (pe_bm PySem.F.plainAttrs_list PySem.F.slot_list_append PySem.F.type_list_append mt_append (pe_ix (show IxR _ (rIxT K) from ix_tup) (pv 6) pe_int (fun _ _ => rfl)) (pa_cons pe_int pa_nil)))
      (pss_cons (ps_dput (hu_of hr) (pe_ix (show IxR _ (rIxT K) from ix_tup) (pv 6) pe_int (fun _ _ => rfl)) (pe_un un_neg pe_int) pe_int (by rfl))
      (pss_cons (ps_if (pw_or (pt_cmpR (show OpR _ (compareOp .NotEq) (rNeD K) from op_neD hr.units) (pv 4) (pv 2) (nomark _)) (pw_or1 (pt_cmpR (show OpR _ (compareOp .NotEq) (rNeD K) from op_neD hr.units) (pv 5) (pv 3) (nomark _)))).pt (pss_one (ps_ret pe_bl)) pss_nil)
      (pss_one (ps_ret (pe_cmpR (op_eqW (units150 hr)) (pe_call G_slide (hr.mono (by decide)) (by rfl) g_slide kp_slide b_slide .nil pass0 (pa_cons (pv 4) (pa_cons (pv 5) pa_nil))) (pe_tup (pa_cons (pv 10) (pa_cons (pe_lc (own := [("root", 12)]) (g := gName 12) (tt := tYes) rfl sc_law.nd (pi_list (pv 3)) (blkOk_by (N := N_law) (sc := defScope s_law) (by decide +kernel)) (fun _ _ _ _ _ => pg_name (i := 12) sc_law.nd rfl (Or.inl rfl)) (fun _ _ _ _ _ => pts_nil) (fun _ _ _ _ _ => (pe_call G__law_moved (hr.mono (by decide)) (by rfl) g__law_moved kp__law_moved b__law_moved .nil pass0 (pa_cons (pv 12) (pa_cons (pv 8) pa_nil))))) (pa_cons (pv 8) pa_nil)))) (nomark _)))))))))))))))))))))))))), ?_⟩
    refine st_of (σ := [some _, none, none, none, none, none, none, none, none, none, none, none, none, none, none]) rfl ?_
    walk_at "go"
    refine ⟨a, ns, rfl, hS, hl, fun s l H1 hs hl1 s1 St1 => ?_⟩
    walk_at "go"
    refine ⟨s, l, 38, rfl, St1, by decide, Nat.lt_of_lt_of_le (by decide) n9, fun n1 H2 n10 n11 b2 S2 => ?_⟩
    walk_at "go"
    refine ⟨s, l, n1, rfl, S2, n10, by omega, fun vc cs H3 wf lc b3 S3 ic => ?_⟩
    walk_at "go"
    have bs : ∀ b, H2 b = Option.none → b ≠ s := fun b e z => by
      obtain ⟨o, ho⟩ := S2.at_s
      rw [z, ho] at e
      cases e
    refine ⟨s, l, vc, cs, rfl, S3, Im.mono (fun _ _ _ e => e) (fun b g => bs b g) _ _ ic, wf, lc, fun vr rs H4 rd lr b4 S4 ir => ?_⟩
    have dc4 : Dp K H4 vc (.list cs) := Im.dp _ _ (Im.mono (G' := fun b => b ≠ s) (fun b o g e => b4 b o (bs b g) e) (fun b g => bs b g) _ _ ic)
    have dr4 := Im.dp _ _ ir
    clear ic ir
    obtain ⟨c0, xs, rfl, hs0, ha0⟩ := dp_lst dc4
    obtain ⟨r0, ys, rfl, ht0, hb0⟩ := dp_lst dr4
    walk_at "go"
    refine ⟨c0, xs, rfl, .inl hs0, fun g nc => ?_⟩
    walk_at "go"
    have s4 := same_upd (o := .lst xs) nc
    refine ⟨r0, ys, rfl, .inl (s4.seq ht0), fun g2 nc2 => ?_⟩
    have s5 := s4.trans (same_upd (o := .lst ys) nc2)
    have dg : Dp K (upd (upd H4 g (.lst xs)) g2 (.lst ys)) (.ref g) (.list cs) := .lst (SqL.of (same_upd nc2 _ _ upd_same)) (dp_sameAll s5 _ _ ha0)
    have dg2 : Dp K (upd (upd H4 g (.lst xs)) g2 (.lst ys)) (.ref g2) (.list rs) := .lst (SqL.of upd_same) (dp_sameAll s5 _ _ hb0)
    have dc5 := dp_same s5 _ _ dc4
    have dr5 := dp_same s5 _ _ dr4
    generalize upd (upd H4 g (.lst xs)) g2 (.lst ys) = H5 at dg dg2 dc5 dr5
    walk_at "go"
    refine ⟨.ref g, .ref g2, cs, rs, rfl, dg, dg2, wf, rd, by omega, by omega, fun t1 a1 b1 p1 ys1 zs1 mk H6 L s6 ⟨na1, nb1, np1, ab1, ap1, bp1⟩ et ea da eb db ep => ?_⟩
    walk_at "go"
    have rcell : ∀ d ∈ rs, CellD cs.length d := fun d hd => (rd d hd).cell
    have sl := sl_of L
    have hml : mk.length ≤ 50 := by rw [L.1]; exact lc
    generalize hLL : resN mk mk.length = LL at da db ep sl
    have nLL : LL.length ≤ 50 := by
      have := resN_len mk mk.length
      rw [hLL] at this
      omega
    have wf2 := sl.wf wf
    have rd2 := sl.roots rd
    refine isi_of (.base (.tup et)) kit_tt ?_
    walk_at "go"
    refine ⟨t1, _, rfl, .inr (SqT.of et), ?_⟩
    walk_at "go"
    refine iteF ?_
    walk_at "go"
    refine ⟨_, _, dp_same s6 _ _ dg, dp_same s6 _ _ dc5, cells_shaped wf.cell, cells_shaped wf.cell, ?_⟩
    rw [cells_eqv wf.cell]
    walk_at "go"
    refine ⟨_, _, dp_same s6 _ _ dg2, dp_same s6 _ _ dr5, cells_shaped rcell, cells_shaped rcell, ?_⟩
    rw [cells_eqv rcell]
    walk_at "go"
    refine ⟨.ref c0, .ref r0, cs, rs, rfl, dp_same s6 _ _ dc5, dp_same s6 _ _ dr5, wf, rd, by omega, by omega, fun k1 mk2 H7 L2 s7 ek => ?_⟩
    obtain rfl := least_eq L2 L
    rw [hLL] at ek
    walk_at "go"
    intro p2 np2
    have s8 := s7.trans (same_upd (o := .dK []) np2)
    have kp2 : k1 ≠ p2 := ne_of_none ek np2
    have ek8 : (upd H7 p2 (.dK [])) k1 = some (.lst (LL.map fun (j : Nat) => V.int (j : Int))) := by rw [upd_ne kp2]; exact ek
    have e8 : (upd H7 p2 (.dK [])) p2 = some (.dK (kvP LL 0)) := upd_same
    have np26 : H6 p2 = Option.none := s7.free np2
    generalize upd H7 p2 (.dK []) = H8 at s8 ek8 e8
    walk_at "go"
    refine ⟨k1, _, rfl, .inl (SqL.of ek8), ?_⟩
    rw [List.length_map]
    walk_at "go"
    refine ⟨_, rfl, by omega, by omega, ?_⟩
    rw [Int.toNat_natCast]
    have s68 := s8
    refine for_range (fun i σ H' => ∃ v9 : Option V, σ = [some (.ref a), some (.ref s), some (.ref c0), some (.ref r0), some (.ref g), some (.ref g2), some (.ref t1), some (.ref k1), some (.ref p2), v9, none, none, none, none, none] ∧ Same H6 H' ∧ H' k1 = some (.lst (LL.map fun (j : Nat) => V.int (j : Int))) ∧ H' p2 = some (.dK (kvP LL i))) ⟨_, rfl, s8, ek8, e8⟩ ?_ ?_
    · rintro i σ H9 hi ⟨v9, rfl, s9, k9, e9⟩
      rw [Int.zero_add]
      walk_at "go"
      have hj := List.getElem?_eq_getElem hi
      refine ixL (j := i) (SqL.of k9) (by rw [List.getElem?_map, hj]; rfl) ?_
      refine ⟨p2, _, rfl, DPut.k (k := Sum.inl ((LL[i] : Nat) : Int)) e9 (Nat.lt_of_le_of_lt (show _ ≤ 100000 by rw [kvP_len (by omega)]; omega) (by decide)), ?_⟩
      walk_at "go"
      refine ⟨_, rfl, same_new np26 s9, by rw [upd_ne kp2]; exact k9, ?_⟩
      rw [upd_same, kvP_put sl.nodup hj]
    · rintro σ H9 ⟨v9, rfl, s9, k9, e9⟩
      have lkv : (kvP LL LL.length).length = LL.length := kvP_len (Nat.le_refl _)
      have same_tab : ∀ {H : Hp} {p q : Addr} {n : Nat}, H p = some (.dK (kvP LL LL.length)) → H q = some (.dK (kvP LL LL.length)) → EqS K H (EqW K H (n + 1)) (.ref p) (.ref q) := fun h1 h2 => eqs_dict h1 h2 rfl fun kv hkv => by
        obtain ⟨i, hi⟩ := List.getElem?_of_mem hkv
        have hl := (List.getElem?_eq_some_iff.mp hi).1
        rw [lkv] at hl
        have hj := List.getElem?_eq_getElem hl
        rw [kvP_at hl hj] at hi
        cases hi
        have := kvP_val sl.nodup (j := LL[i]) _ (Nat.le_refl _) (by rw [idx_at sl.nodup hj]; exact hl)
        rw [idx_at sl.nodup hj] at this
        exact ⟨_, this, eqw_i _⟩
      walk_at "go"
      refine ixT (j := 2) (SqT.of (s9 _ _ et)) rfl ?_
      walk_at "go"
      refine isi_of (.base (.dK (s9 _ _ ep))) kit_dd ?_
      walk_at "go"
      refine ixT (j := 2) (SqT.of (s9 _ _ et)) rfl ?_
      walk_at "go"
      refine ⟨1, by decide, same_tab (n := 0) (s9 _ _ ep) e9, ?_⟩
      walk_at "go"
      have nlc : ∀ {e : PyData}, e ∈ cells2 LL cs → noL e = true := fun he => (cell_lay (wf2.cell _ he)).2.2.2
      have nlr : ∀ {e : PyData}, e ∈ roots2 LL rs → noL e = true := fun he => (cell_lay (rd2 _ he).cell).2.2.2
      obtain ⟨c0', cx, ec0, hsc, hac⟩ := dp_lst dc5
      cases ec0
      obtain ⟨r0', rx, er0, hsr, har⟩ := dp_lst dr5
      cases er0
      have lx := DpAll.len hac
      have lr := DpAll.len har
      have s69 := s6.trans s9
      refine ⟨k1, rfl, ⟨_, SqL.of k9⟩, fun D nD => ?_⟩
      have np9 : D ≠ p2 := (ne_of_none e9 nD).symm
      refine lc_it (n := (LL.map fun (j : Nat) => V.int (j : Int)).length) walk_list (fun i H' => Same H9 H' ∧ ∃ us, H' D = some (.lst us) ∧ DpAll K H' us ((cells2 LL cs).take i)) ⟨same_upd nD, [], upd_same, .nil⟩ (fun i H' _ h => SqL.of (h.1 _ _ k9)) ?_ ?_
      · rintro i z H10 H11 hi ⟨s10, us, e10, d10⟩ ⟨rfl, hz⟩
        rw [List.length_map] at hi
        have hj := List.getElem?_eq_getElem hi
        rw [List.getElem?_map, hj] at hz
        cases hz
        have hl := sl.low LL[i] (List.getElem_mem hi)
        have sH := s69.trans s10
        obtain ⟨u, hu, du⟩ := DpAll.get hac (List.getElem?_eq_getElem hl)
        obtain ⟨c1, c2⟩ := sl.cell wf (List.getElem_mem hi) (List.getElem?_eq_getElem hl)
        walk_at "wp"
        walk_at "go"
        refine ⟨rfl, ?_⟩
        walk_at "go"
        refine ixL (j := LL[i]) (same_sqL sH hsc) hu ?_
        walk_at "go"
        refine ⟨u, _, p2, LL, _, rfl, dp_same sH _ _ du, c1, .inl (s10 _ _ e9), sl.nodup, c2, fun v H12 s12 d12 => ?_⟩
        have ly := DpAll.len d10
        rw [List.length_take] at ly
        have e12 := s12 _ _ e10
        have g3 := cells2_of hj (List.getElem?_eq_getElem hl)
        refine ⟨us, e12, Nat.lt_of_le_of_lt (show _ ≤ 100000 by omega) (by decide), same_new nD (s10.trans s12), us ++ [v], upd_same, ?_⟩
        rw [List.take_add_one, g3]
        have nt : notTup H12 D := .inl ⟨_, e12⟩
        exact dpAll_end (dp_putAll nt _ _ (noLA_of fun e he => nlc (List.mem_of_mem_take he)) (dp_sameAll s12 _ _ d10)) (dp_put nt _ _ (nlc (List.mem_of_getElem? g3)) d12)
      rintro H10 ⟨s10, us, e10, d10⟩
      rw [List.length_map, List.take_of_length_le (by rw [cells2_len]; exact Nat.le_refl _)] at d10
      walk_at "go"
      have s610 := s9.trans s10
      refine ixT (j := 0) (SqT.of (s610 _ _ et)) rfl ?_
      walk_at "go"
      have d10a : Dp K H10 (.ref a1) (.list (cells2 LL cs)) := .lst (SqL.of (s610 _ _ ea)) (dp_sameAll s610 _ _ da)
      have d10b : Dp K H10 (.ref b1) (.list (roots2 LL rs)) := .lst (SqL.of (s610 _ _ eb)) (dp_sameAll s610 _ _ db)
      have sh1 := cells_shaped wf2.cell
      have ev1 := cells_eqv wf2.cell
      have sh2 := cells_shaped (ds := roots2 LL rs) fun d hd => (rd2 d hd).cell
      have ev2 := cells_eqv (ds := roots2 LL rs) fun d hd => (rd2 d hd).cell
      refine ⟨_, _, d10a, .lst (SqL.of e10) d10, sh1, sh1, ?_⟩
      rw [ev1]
      walk_at "go"
      refine ixT (j := 1) (SqT.of (s610 _ _ et)) rfl ?_
      walk_at "go"
      refine ⟨r0, rfl, ⟨_, same_sqL (s69.trans s10) hsr⟩, fun B nB => ?_⟩
      refine lc_it walk_list (fun i H' => Same H10 H' ∧ ∃ zs, H' B = some (.lst zs) ∧ DpAll K H' zs ((roots2 LL rs).take i)) ⟨same_upd nB, [], upd_same, .nil⟩ (fun i H' _ h => same_sqL (s69.trans (s10.trans h.1)) hsr) ?_ ?_
      · rintro i z H11 H12 hi ⟨s11, zs, e11, d11⟩ ⟨rfl, hz⟩
        obtain ⟨d, hd, dz0⟩ := DpAll.getV har hz
        have sH := s69.trans (s10.trans s11)
        have rdd := rd d (List.mem_of_getElem? hd)
        walk_at "wp"
        walk_at "go"
        refine ⟨rfl, ?_⟩
        walk_at "go"
        refine ⟨z, d, p2, LL, _, rfl, dp_same sH _ _ dz0, rdd.cell, .inl (s11 _ _ (s10 _ _ e9)), sl.nodup, sl.root d (List.mem_of_getElem? hd), fun v H13 s13 d13 => ?_⟩
        have lz := DpAll.len d11
        rw [List.length_take] at lz
        have e13 := s13 _ _ e11
        have g3 : (roots2 LL rs)[i]? = some (movD LL d) := by unfold roots2; rw [List.getElem?_map, hd]; rfl
        refine ⟨zs, e13, Nat.lt_of_le_of_lt (show _ ≤ 100000 by omega) (by decide), same_new nB (s11.trans s13), zs ++ [v], upd_same, ?_⟩
        rw [List.take_add_one, g3]
        have nt : notTup H13 B := .inl ⟨_, e13⟩
        exact dpAll_end (dp_putAll nt _ _ (noLA_of fun e he => nlr (List.mem_of_mem_take he)) (dp_sameAll s13 _ _ d11)) (dp_put nt _ _ (nlr (List.mem_of_getElem? g3)) d13)
      rintro H11 ⟨s11, zs, e11, d11⟩
      rw [lr, List.take_of_length_le (by unfold roots2; rw [List.length_map]; exact Nat.le_refl _)] at d11
      refine ⟨_, _, dp_same s11 _ _ d10b, .lst (SqL.of e11) d11, sh2, sh2, ?_⟩
      rw [ev2]
      walk_at "go"
      have s611 := s610.trans s11
      refine g_lvals ?_
      walk_at "go"
      refine ixT (j := 2) (SqT.of (s611 _ _ et)) rfl ?_
      refine ⟨p1, _, rfl, s611 _ _ ep, fun vl nvl => ?_⟩
      have e12 : (upd H11 vl (.lst ((kvP LL LL.length).map (·.2)))) vl = some (.lst ((kvP LL LL.length).map (·.2))) := upd_same
      have s12 := same_upd (o := .lst ((kvP LL LL.length).map (·.2))) nvl
      generalize upd H11 vl (.lst ((kvP LL LL.length).map (·.2))) = H12 at e12 s12
      refine ⟨vl, rfl, ⟨_, SqL.of e12⟩, fun bl nbl => ?_⟩
      refine lc_it (n := ((kvP LL LL.length).map (·.2)).length) walk_list (fun i H' => Same H12 H' ∧ H' bl = some (.lst (List.replicate i (.bl false)))) ⟨same_upd nbl, upd_same⟩ (fun i H' _ h => SqL.of (h.1 _ _ e12)) ?_ ?_
      · rintro i z H13 H14 hi ⟨s13, e13⟩ ⟨rfl, hz⟩
        rw [List.length_map, lkv] at hi
        have hj := List.getElem?_eq_getElem hi
        rw [List.getElem?_map, kvP_at hi hj] at hz
        cases hz
        walk_at "wp"
        walk_at "go"
        refine ⟨rfl, ?_⟩
        walk_at "go"
        refine isi_of (.base (.int _)) kit_ib ?_
        refine ⟨_, e13, Nat.lt_of_le_of_lt (show _ ≤ 100000 by rw [List.length_replicate]; omega) (by decide), same_new nbl s13, ?_⟩
        rw [upd_same, List.replicate_succ']
      rintro H13 ⟨s13, e13⟩
      walk_at "go"
      refine ⟨bl, List.replicate ((kvP LL LL.length).map (·.2)).length false, rfl, SqL.of (by rw [List.map_replicate]; exact e13), _, rfl, ?_⟩
      rw [show (List.replicate ((kvP LL LL.length).map (·.2)).length false).any id = false by simp]
      walk_at "go"
      have s613 := s611.trans (s12.trans s13)
      refine ixT (j := 0) (SqT.of (s613 _ _ et)) rfl ?_
      walk_at "go"
      refine ⟨a1, ys1, rfl, .inl (SqL.of (s613 _ _ ea)), fun q1 nq1 => ?_⟩
      have s14 := same_upd (o := .lst ys1) nq1
      walk_at "go"
      refine ixT (j := 1) (SqT.of (s14 _ _ (s613 _ _ et))) rfl ?_
      walk_at "go"
      refine ⟨b1, zs1, rfl, .inl (SqL.of (s14 _ _ (s613 _ _ eb))), fun q2 nq2 => ?_⟩
      have s15 := s14.trans (same_upd (o := .lst zs1) nq2)
      have s615 := s613.trans s15
      have dq1 : Dp K (upd (upd H13 q1 (.lst ys1)) q2 (.lst zs1)) (.ref q1) (.list (cells2 LL cs)) := .lst (SqL.of (same_upd nq2 _ _ upd_same)) (dp_sameAll s615 _ _ da)
      have dq2 : Dp K (upd (upd H13 q1 (.lst ys1)) q2 (.lst zs1)) (.ref q2) (.list (roots2 LL rs)) := .lst (SqL.of upd_same) (dp_sameAll s615 _ _ db)
      have s10_15 := s11.trans (s12.trans (s13.trans s15))
      generalize upd (upd H13 q1 (.lst ys1)) q2 (.lst zs1) = H15 at dq1 dq2 s615 s10_15
      refine ⟨.ref q1, .ref q2, _, _, rfl, dq1, dq2, wf2, rd2, by rw [cells2_len]; omega, by unfold roots2; rw [List.length_map]; omega, fun t2 a2 b2 p3 ys2 zs2 mk3 H16 L3 s16 ⟨na2, nb2, np3, ab2, ap2, bp2⟩ et2 ea2 da2 eb2 db2 ep2 => ?_⟩
      have em3 := least_eq L3 (sl.least2 wf rd)
      subst em3
      rw [resN_all] at da2 db2 ep2
      rw [sl.cells_again wf] at da2
      rw [sl.roots_again rd] at db2
      rw [List.length_range] at ep2
      walk_at "go"
      intro p4 np4
      have s9_16 := s10.trans (s10_15.trans s16)
      have s17 := same_upd (o := .dK []) np4
      have e17 : (upd H16 p4 (.dK [])) p4 = some (.dK (kvP (List.range LL.length) 0)) := upd_same
      generalize upd H16 p4 (.dK []) = H17 at s17 e17
      walk_at "go"
      have k17 := s17 _ _ (s9_16 _ _ k9)
      refine ⟨k1, _, rfl, .inl (SqL.of k17), ?_⟩
      rw [List.length_map]
      walk_at "go"
      refine ⟨_, rfl, by omega, by omega, ?_⟩
      rw [Int.toNat_natCast]
      refine for_range (fun i σ H' => ∃ v11 : Option V, σ = [some (.ref a), some (.ref s), some (.ref c0), some (.ref r0), some (.ref g), some (.ref g2), some (.ref t1), some (.ref k1), some (.ref p2), v9, some (.ref D), v11, none, some (.ref t2), some (.ref p4)] ∧ Same H16 H' ∧ H' p4 = some (.dK (kvP (List.range LL.length) i))) ⟨_, rfl, s17, e17⟩ ?_ ?_
      · rintro i σ H18 hi ⟨v11, rfl, s18, e18⟩
        rw [Int.zero_add]
        walk_at "go"
        have hj : (List.range LL.length)[i]? = some i := by rw [List.getElem?_eq_getElem (by simpa using hi), List.getElem_range]
        refine ⟨p4, _, rfl, DPut.k (k := Sum.inl (i : Int)) e18 (Nat.lt_of_le_of_lt (show _ ≤ 100000 by rw [kvP_len (by rw [List.length_range]; omega)]; omega) (by decide)), ?_⟩
        walk_at "go"
        refine ⟨_, rfl, same_new np4 s18, ?_⟩
        rw [upd_same, kvP_put List.nodup_range hj]
      · rintro σ H18 ⟨v11, rfl, s18, e18⟩
        have s6_18 := s615.trans (s16.trans s18)
        have hj : ∀ {i : Nat}, i < LL.length → (List.range LL.length)[i]? = some i := fun hi => by rw [List.getElem?_eq_getElem (by simpa using hi), List.getElem_range]
        have lkr : (kvP (List.range LL.length) LL.length).length = LL.length := kvP_len (by rw [List.length_range]; exact Nat.le_refl _)
        walk_at "go"
        refine ixT (j := 0) (SqT.of (s6_18 _ _ et)) rfl ?_
        walk_at "go"
        refine ixT (j := 1) (SqT.of (s6_18 _ _ et)) rfl ?_
        walk_at "go"
        refine newN (n := 3) rfl (by decide) fun t3 nt3 => ?_
        have s19 := s18.trans (same_upd (o := .tup [.ref a1, .ref b1, .ref p4]) nt3)
        have t19 : (upd H18 t3 (.tup [.ref a1, .ref b1, .ref p4])) t3 = some (.tup [.ref a1, .ref b1, .ref p4]) := upd_same
        have p19 : (upd H18 t3 (.tup [.ref a1, .ref b1, .ref p4])) p4 = some (.dK (kvP (List.range LL.length) LL.length)) := same_upd nt3 _ _ e18
        generalize upd H18 t3 (.tup [.ref a1, .ref b1, .ref p4]) = H19 at s19 t19 p19
        have s6_19 := s615.trans (s16.trans s19)
        have hkv : EqS K H19 (EqW K H19 1) (.ref p3) (.ref p4) := eqs_dict (s19 _ _ ep2) p19 rfl fun kv hkv => by
          obtain ⟨i, hi⟩ := List.getElem?_of_mem hkv
          have hl := (List.getElem?_eq_some_iff.mp hi).1
          rw [lkr] at hl
          rw [kvP_at hl (hj hl)] at hi
          cases hi
          have := kvP_val (L := List.range LL.length) List.nodup_range (j := i) LL.length (by rw [List.length_range]; exact Nat.le_refl _) (by rw [idx_range hl]; exact hl)
          rw [idx_range hl] at this
          exact ⟨_, this, eqw_i _⟩
        refine ⟨2, by decide, eqs_tup (SqT.of (s19 _ _ et2)) (SqT.of t19) (.cons ?_ (.cons ?_ (.cons (eqw_s hkv) .nil))), ?_⟩
        · exact eqw_d (.lst (SqL.of (s19 _ _ ea2)) (dp_sameAll s19 _ _ da2)) (.lst (SqL.of (s6_19 _ _ ea)) (dp_sameAll s6_19 _ _ da)) sh1 ev1
        · exact eqw_d (.lst (SqL.of (s19 _ _ eb2)) (dp_sameAll s19 _ _ db2)) (.lst (SqL.of (s6_19 _ _ eb)) (dp_sameAll s6_19 _ _ db)) sh2 ev2
        walk_at "go"
        have et19 := s6_19 _ _ et
        refine ixT (j := 0) (SqT.of et19) rfl ?_
        refine ⟨.inl ⟨rfl, _, SqL.of (s6_19 _ _ ea)⟩, ?_⟩
        walk_at "go"
        have lys1 := DpAll.len da
        rw [cells2_len] at lys1
        have lzs1 := DpAll.len db
        unfold roots2 at lzs1
        rw [List.length_map] at lzs1
        refine rap (s6_19 _ _ ea) (by omega) ?_
        walk_at "go"
        have s20 := same_new (o := .lst (ys1 ++ [.int 3])) na1 (s6.trans s6_19)
        have keep20 : ∀ b o, b ≠ a1 → H19 b = some o → (upd H19 a1 (.lst (ys1 ++ [.int 3]))) b = some o := fun b o hb e => by rw [upd_ne hb]; exact e
        generalize upd H19 a1 (.lst (ys1 ++ [.int 3])) = H20 at s20 keep20
        have at1 : t1 ≠ a1 := fun z => by rw [z, ea] at et; cases et
        have bt1 : t1 ≠ b1 := fun z => by rw [z, eb] at et; cases et
        have pt1 : t1 ≠ p1 := fun z => by rw [z, ep] at et; cases et
        have et20 := keep20 _ _ at1 et19
        have eb20 := keep20 _ _ ab1.symm (s6_19 _ _ eb)
        refine ixT (j := 1) (SqT.of et20) rfl ?_
        refine ⟨.inl ⟨rfl, _, SqL.of eb20⟩, ?_⟩
        walk_at "go"
        refine rap eb20 (by omega) ?_
        walk_at "go"
        have s21 := same_new (o := .lst (zs1 ++ [.int 3])) nb1 s20
        have keep21 : ∀ b o, b ≠ b1 → H20 b = some o → (upd H20 b1 (.lst (zs1 ++ [.int 3]))) b = some o := fun b o hb e => by rw [upd_ne hb]; exact e
        generalize upd H20 b1 (.lst (zs1 ++ [.int 3])) = H21 at s21 keep21
        have et21 := keep21 _ _ bt1 et20
        have ep21 := keep21 _ _ bp1.symm (keep20 _ _ ap1.symm (s6_19 _ _ ep))
        refine ixT (j := 2) (SqT.of et21) rfl ?_
        walk_at "go"
        refine ⟨p1, _, rfl, DPut.k (k := Sum.inl (-1)) ep21 (Nat.lt_of_le_of_lt (show _ ≤ 100000 by rw [lkv]; omega) (by decide)), ?_⟩
        walk_at "go"
        have s22 := same_new (o := .dK (putK (kvP LL LL.length) (Sum.inl (-1)) (.int 3))) np1 s21
        have keep22 : ∀ b o, b ≠ p1 → H21 b = some o → (upd H21 p1 (.dK (putK (kvP LL LL.length) (Sum.inl (-1)) (.int 3)))) b = some o := fun b o hb e => by rw [upd_ne hb]; exact e
        generalize upd H21 p1 (.dK (putK (kvP LL LL.length) (Sum.inl (-1)) (.int 3))) = H22 at s22 keep22
        have keep : ∀ b o, b ≠ a1 → b ≠ b1 → b ≠ p1 → H19 b = some o → H22 b = some o := fun b o h1 h2 h3 e => keep22 _ _ h3 (keep21 _ _ h2 (keep20 _ _ h1 e))
        refine ⟨_, _, dp_same s22 _ _ dg, dp_same s22 _ _ dc5, cells_shaped wf.cell, cells_shaped wf.cell, ?_⟩
        rw [cells_eqv wf.cell]
        walk_at "go"
        refine ⟨_, _, dp_same s22 _ _ dg2, dp_same s22 _ _ dr5, cells_shaped rcell, cells_shaped rcell, ?_⟩
        rw [cells_eqv rcell]
        walk_at "go"
        have ea19 := s6_19 _ _ ea
        have eb19 := s6_19 _ _ eb
        have ep19 := s6_19 _ _ ep
        have sqt : ∀ b xs, SqT K H19 b xs → SqT K H22 b xs := fun b xs h => by
          rcases h with (h | ⟨u, h⟩) | h
          · exact .inl (.inl (keep _ _ (fun z => by rw [z, ea19] at h; cases h) (fun z => by rw [z, eb19] at h; cases h) (fun z => by rw [z, ep19] at h; cases h) h))
          · exact .inl (.inr ⟨u, keep _ _ (fun z => by rw [z, ea19] at h; cases h) (fun z => by rw [z, eb19] at h; cases h) (fun z => by rw [z, ep19] at h; cases h) h⟩)
          · exact .inr h
        have s10_19 := s10_15.trans (s16.trans s19)
        have d22 : DpAll K H22 us (cells2 LL cs) := dp_mapAll sqt _ _ (noLA_of fun e he => nlc he) (dp_sameAll s10_19 _ _ d10)
        have e22 : H22 D = some (.lst us) := keep _ _ (ne_of_none (s9 _ _ ea) nD).symm (ne_of_none (s9 _ _ eb) nD).symm (ne_of_none (s9 _ _ ep) nD).symm (s10_19 _ _ e10)
        have p22 : H22 p2 = some (.dK (kvP LL LL.length)) := keep _ _ (ne_of_none ea np26).symm (ne_of_none eb np26).symm (ne_of_none ep np26).symm (s10_19 _ _ (s10 _ _ e9))
        refine ⟨.ref g, .ref g2, cs, rs, rfl, dp_same s22 _ _ dg, dp_same s22 _ _ dg2, wf, rd, by omega, by omega, fun t5 a5 b5 p5 ys5 zs5 mk5 H23 L5 s23 _ et5 ea5 da5 eb5 db5 ep5 => ?_⟩
        have em5 := least_eq L5 L
        subst em5
        rw [hLL] at da5 db5 ep5
        walk_at "go"
        have s5_23 := s22.trans s23
        refine ⟨r0, rfl, ⟨_, same_sqL s5_23 hsr⟩, fun B2 nB2 => ?_⟩
        refine lc_it walk_list (fun i H' => Same H23 H' ∧ ∃ zs, H' B2 = some (.lst zs) ∧ DpAll K H' zs ((roots2 LL rs).take i)) ⟨same_upd nB2, [], upd_same, .nil⟩ (fun i H' _ h => same_sqL (s5_23.trans h.1) hsr) ?_ ?_
        · rintro i z H24 H25 hi ⟨s24, ws, e24, d24⟩ ⟨rfl, hz⟩
          obtain ⟨d, hd, dz0⟩ := DpAll.getV har hz
          have sH := s5_23.trans s24
          have rdd := rd d (List.mem_of_getElem? hd)
          walk_at "wp"
          walk_at "go"
          refine ⟨rfl, ?_⟩
          walk_at "go"
          refine ⟨z, d, p2, LL, _, rfl, dp_same sH _ _ dz0, rdd.cell, .inl (s24 _ _ (s23 _ _ p22)), sl.nodup, sl.root d (List.mem_of_getElem? hd), fun v H26 s26 d26 => ?_⟩
          have lz := DpAll.len d24
          rw [List.length_take] at lz
          have e26 := s26 _ _ e24
          have g3 : (roots2 LL rs)[i]? = some (movD LL d) := by unfold roots2; rw [List.getElem?_map, hd]; rfl
          refine ⟨ws, e26, Nat.lt_of_le_of_lt (show _ ≤ 100000 by omega) (by decide), same_new nB2 (s24.trans s26), ws ++ [v], upd_same, ?_⟩
          rw [List.take_add_one, g3]
          have nt : notTup H26 B2 := .inl ⟨_, e26⟩
          exact dpAll_end (dp_putAll nt _ _ (noLA_of fun e he => nlr (List.mem_of_mem_take he)) (dp_sameAll s26 _ _ d24)) (dp_put nt _ _ (nlr (List.mem_of_getElem? g3)) d26)
        rintro H24 ⟨s24, ws, e24, d24⟩
        rw [lr, List.take_of_length_le (by unfold roots2; rw [List.length_map]; exact Nat.le_refl _)] at d24
        walk_at "go"
        refine newN (n := 3) rfl (by decide) fun t6 nt6 => ?_
        have s25 := s24.trans (same_upd (o := .tup [.ref D, .ref B2, .ref p2]) nt6)
        have s25b := same_upd (o := .tup [.ref D, .ref B2, .ref p2]) nt6
        have s22_25 := s23.trans s25
        refine ⟨2, by decide, eqs_tup (SqT.of (s25 _ _ et5)) (SqT.of upd_same) (.cons ?_ (.cons ?_ (.cons (eqw_s (same_tab (n := 0) (s25 _ _ ep5) (s22_25 _ _ p22))) .nil))), q _⟩
        · exact eqw_d (.lst (SqL.of (s25 _ _ ea5)) (dp_sameAll s25 _ _ da5)) (.lst (SqL.of (s22_25 _ _ e22)) (dp_sameAll s22_25 _ _ d22)) sh1 ev1
        · exact eqw_d (.lst (SqL.of (s25 _ _ eb5)) (dp_sameAll s25 _ _ db5)) (.lst (SqL.of (s25b _ _ e24)) (dp_sameAll s25b _ _ d24)) sh2 ev2

end
/-! ### the end -/
theorem all_mk {l : PySem.W.OpenLaw} {w : World} {K : PySem.W.Frag} {h : Heap} {mg : Str → Option Value} {fa f1 f2 f3 f4 f5 f6 f7 f8 f9 f10 f11 f12 f13 f14 f15 f16 : Addr} (X : K.In h) (G : h.Ns mainGlobals mg) (hfa : mg "law" = some (.ref fa))
    {od1 an1 od2 an2 od3 an3 od4 an4 od5 an5 od6 an6 od7 an7 od8 an8 od9 an9 od10 an10 od11 an11 od12 an12 od13 an13 od14 an14 od15 an15 od16 an16 : Option Addr} {sl1 sl2 sl3 sl4 sl5 sl6 sl7 sl8 sl9 sl10 sl11 sl12 sl13 sl14 sl15 sl16 : Array (Option Value)} {oc1 kV1 dc1 pm1 cd1 ct1 oc2 kV2 dc2 pm2 cd2 ct2 oc3 kV3 dc3 pm3 cd3 ct3 oc4 kV4 dc4 pm4 cd4 ct4 oc5 kV5 dc5 pm5 cd5 ct5 oc6 kV6 dc6 pm6 cd6 ct6 oc7 kV7 dc7 pm7 cd7 ct7 oc8 kV8 dc8 pm8 cd8 ct8 oc9 kV9 dc9 pm9 cd9 ct9 oc10 kV10 dc10 pm10 cd10 ct10 oc11 kV11 dc11 pm11 cd11 ct11 oc12 kV12 dc12 pm12 cd12 ct12 oc13 kV13 dc13 pm13 cd13 ct13 oc14 kV14 dc14 pm14 cd14 ct14 oc15 kV15 dc15 pm15 cd15 ct15 oc16 kV16 dc16 pm16 cd16 ct16 : Value}

    (a1 : PySem.W.nsIn K mainGlobals "is_symbol" = some (some (.ref f1))) (l1 : K.lookup f1 = some ⟨oc1, od1, .func (PySem.W.fnOf "is_symbol" "is_symbol" (defArgs s_is_symbol) (defBody s_is_symbol) (defScope s_is_symbol) .none kV1 dc1 pm1 an1 cd1 ct1), sl1⟩) (c1 : PySem.W.codeIn K cd1 "is_symbol" = true) (k1 : PySem.W.keepIn K (.ref f1) = true)
    (a2 : PySem.W.nsIn K mainGlobals "arity_of" = some (some (.ref f2))) (l2 : K.lookup f2 = some ⟨oc2, od2, .func (PySem.W.fnOf "arity_of" "arity_of" (defArgs s_arity_of) (defBody s_arity_of) (defScope s_arity_of) .none kV2 dc2 pm2 an2 cd2 ct2), sl2⟩) (c2 : PySem.W.codeIn K cd2 "arity_of" = true) (k2 : PySem.W.keepIn K (.ref f2) = true)
    (a3 : PySem.W.nsIn K mainGlobals "is_link" = some (some (.ref f3))) (l3 : K.lookup f3 = some ⟨oc3, od3, .func (PySem.W.fnOf "is_link" "is_link" (defArgs s_is_link) (defBody s_is_link) (defScope s_is_link) .none kV3 dc3 pm3 an3 cd3 ct3), sl3⟩) (c3 : PySem.W.codeIn K cd3 "is_link" = true) (k3 : PySem.W.keepIn K (.ref f3) = true)
    (a4 : PySem.W.nsIn K mainGlobals "marks" = some (some (.ref f4))) (l4 : K.lookup f4 = some ⟨oc4, od4, .func (PySem.W.fnOf "marks" "marks" (defArgs s_marks) (defBody s_marks) (defScope s_marks) .none kV4 dc4 pm4 an4 cd4 ct4), sl4⟩) (c4 : PySem.W.codeIn K cd4 "marks" = true) (k4 : PySem.W.keepIn K (.ref f4) = true)
    (a5 : PySem.W.nsIn K mainGlobals "reachable" = some (some (.ref f5))) (l5 : K.lookup f5 = some ⟨oc5, od5, .func (PySem.W.fnOf "reachable" "reachable" (defArgs s_reachable) (defBody s_reachable) (defScope s_reachable) .none kV5 dc5 pm5 an5 cd5 ct5), sl5⟩) (c5 : PySem.W.codeIn K cd5 "reachable" = true) (k5 : PySem.W.keepIn K (.ref f5) = true)
    (a6 : PySem.W.nsIn K mainGlobals "moved" = some (some (.ref f6))) (l6 : K.lookup f6 = some ⟨oc6, od6, .func (PySem.W.fnOf "moved" "moved" (defArgs s_moved) (defBody s_moved) (defScope s_moved) .none kV6 dc6 pm6 an6 cd6 ct6), sl6⟩) (c6 : PySem.W.codeIn K cd6 "moved" = true) (k6 : PySem.W.keepIn K (.ref f6) = true)
    (a7 : PySem.W.nsIn K mainGlobals "slide" = some (some (.ref f7))) (l7 : K.lookup f7 = some ⟨oc7, od7, .func (PySem.W.fnOf "slide" "slide" (defArgs s_slide) (defBody s_slide) (defScope s_slide) .none kV7 dc7 pm7 an7 cd7 ct7), sl7⟩) (c7 : PySem.W.codeIn K cd7 "slide" = true) (k7 : PySem.W.keepIn K (.ref f7) = true)
    (a8 : PySem.W.nsIn K mainGlobals "_law_stream" = some (some (.ref f8))) (l8 : K.lookup f8 = some ⟨oc8, od8, .func (PySem.W.fnOf "_law_stream" "_law_stream" (defArgs s__law_stream) (defBody s__law_stream) (defScope s__law_stream) .none kV8 dc8 pm8 an8 cd8 ct8), sl8⟩) (c8 : PySem.W.codeIn K cd8 "_law_stream" = true) (k8 : PySem.W.keepIn K (.ref f8) = true)
    (a9 : PySem.W.nsIn K mainGlobals "_law_draw" = some (some (.ref f9))) (l9 : K.lookup f9 = some ⟨oc9, od9, .func (PySem.W.fnOf "_law_draw" "_law_draw" (defArgs s__law_draw) (defBody s__law_draw) (defScope s__law_draw) .none kV9 dc9 pm9 an9 cd9 ct9), sl9⟩) (c9 : PySem.W.codeIn K cd9 "_law_draw" = true) (k9 : PySem.W.keepIn K (.ref f9) = true)
    (a10 : PySem.W.nsIn K mainGlobals "_law_cells" = some (some (.ref f10))) (l10 : K.lookup f10 = some ⟨oc10, od10, .func (PySem.W.fnOf "_law_cells" "_law_cells" (defArgs s__law_cells) (defBody s__law_cells) (defScope s__law_cells) .none kV10 dc10 pm10 an10 cd10 ct10), sl10⟩) (c10 : PySem.W.codeIn K cd10 "_law_cells" = true) (k10 : PySem.W.keepIn K (.ref f10) = true)
    (a11 : PySem.W.nsIn K mainGlobals "_law_is_symbol" = some (some (.ref f11))) (l11 : K.lookup f11 = some ⟨oc11, od11, .func (PySem.W.fnOf "_law_is_symbol" "_law_is_symbol" (defArgs s__law_is_symbol) (defBody s__law_is_symbol) (defScope s__law_is_symbol) .none kV11 dc11 pm11 an11 cd11 ct11), sl11⟩) (c11 : PySem.W.codeIn K cd11 "_law_is_symbol" = true) (k11 : PySem.W.keepIn K (.ref f11) = true)
    (a12 : PySem.W.nsIn K mainGlobals "_law_settled" = some (some (.ref f12))) (l12 : K.lookup f12 = some ⟨oc12, od12, .func (PySem.W.fnOf "_law_settled" "_law_settled" (defArgs s__law_settled) (defBody s__law_settled) (defScope s__law_settled) .none kV12 dc12 pm12 an12 cd12 ct12), sl12⟩) (c12 : PySem.W.codeIn K cd12 "_law_settled" = true) (k12 : PySem.W.keepIn K (.ref f12) = true)
    (a13 : PySem.W.nsIn K mainGlobals "_law_roots" = some (some (.ref f13))) (l13 : K.lookup f13 = some ⟨oc13, od13, .func (PySem.W.fnOf "_law_roots" "_law_roots" (defArgs s__law_roots) (defBody s__law_roots) (defScope s__law_roots) .none kV13 dc13 pm13 an13 cd13 ct13), sl13⟩) (c13 : PySem.W.codeIn K cd13 "_law_roots" = true) (k13 : PySem.W.keepIn K (.ref f13) = true)
    (a14 : PySem.W.nsIn K mainGlobals "_law_reachable" = some (some (.ref f14))) (l14 : K.lookup f14 = some ⟨oc14, od14, .func (PySem.W.fnOf "_law_reachable" "_law_reachable" (defArgs s__law_reachable) (defBody s__law_reachable) (defScope s__law_reachable) .none kV14 dc14 pm14 an14 cd14 ct14), sl14⟩) (c14 : PySem.W.codeIn K cd14 "_law_reachable" = true) (k14 : PySem.W.keepIn K (.ref f14) = true)
    (a15 : PySem.W.nsIn K mainGlobals "_law_moved" = some (some (.ref f15))) (l15 : K.lookup f15 = some ⟨oc15, od15, .func (PySem.W.fnOf "_law_moved" "_law_moved" (defArgs s__law_moved) (defBody s__law_moved) (defScope s__law_moved) .none kV15 dc15 pm15 an15 cd15 ct15), sl15⟩) (c15 : PySem.W.codeIn K cd15 "_law_moved" = true) (k15 : PySem.W.keepIn K (.ref f15) = true)
    (a16 : PySem.W.nsIn K mainGlobals "law" = some (some (.ref f16))) (l16 : K.lookup f16 = some ⟨oc16, od16, .func (PySem.W.fnOf "law" "law" (defArgs s_law) (defBody s_law) (defScope s_law) .none kV16 dc16 pm16 an16 cd16 ct16), sl16⟩) (c16 : PySem.W.codeIn K cd16 "law" = true) (k16 : PySem.W.keepIn K (.ref f16) = true)
    (z0 : PySem.W.nsIn K mainGlobals "abs" = some none)
    (z1 : PySem.W.nsIn K mainGlobals "any" = some none)
    (z2 : PySem.W.nsIn K mainGlobals "bool" = some none)
    (z3 : PySem.W.nsIn K mainGlobals "dict" = some none)
    (z4 : PySem.W.nsIn K mainGlobals "enumerate" = some none)
    (z5 : PySem.W.nsIn K mainGlobals "int" = some none)
    (z6 : PySem.W.nsIn K mainGlobals "isinstance" = some none)
    (z7 : PySem.W.nsIn K mainGlobals "len" = some none)
    (z8 : PySem.W.nsIn K mainGlobals "list" = some none)
    (z9 : PySem.W.nsIn K mainGlobals "max" = some none)
    (z10 : PySem.W.nsIn K mainGlobals "range" = some none)
    (z11 : PySem.W.nsIn K mainGlobals "tuple" = some none)
    : ∃ fd : FuncData, (∀ (s : Shared) (v : Value), BindsTo s fd ⟨[v], []⟩ [("script", v)]) ∧ ∀ base : Heap, K.In base → base.Ns mainGlobals mg → FnOk l.prog w K mg base CX0 6 fa fd ["script"] (sp_law K) := by
  have e := hfa.symm.trans (PySem.W.mg_of X G a16)
  cases e
  have F1 := fun_mk (st := s_is_symbol) l1 c1 k1
  have b1 := F1.binds (ps := ["node"]) fun _ _ _ _ _ _ us hl => match us, hl with | [_], _ => rfl
  have F2 := fun_mk (st := s_arity_of) l2 c2 k2
  have b2 := F2.binds (ps := ["node"]) fun _ _ _ _ _ _ us hl => match us, hl with | [_], _ => rfl
  have F3 := fun_mk (st := s_is_link) l3 c3 k3
  have b3 := F3.binds (ps := ["cell"]) fun _ _ _ _ _ _ us hl => match us, hl with | [_], _ => rfl
  have F4 := fun_mk (st := s_marks) l4 c4 k4
  have b4 := F4.binds (ps := ["cells", "roots"]) fun _ _ _ _ _ _ us hl => match us, hl with | [_, _], _ => rfl
  have F5 := fun_mk (st := s_reachable) l5 c5 k5
  have b5 := F5.binds (ps := ["cells", "roots"]) fun _ _ _ _ _ _ us hl => match us, hl with | [_, _], _ => rfl
  have F6 := fun_mk (st := s_moved) l6 c6 k6
  have b6 := F6.binds (ps := ["cell", "places"]) fun _ _ _ _ _ _ us hl => match us, hl with | [_, _], _ => rfl
  have F7 := fun_mk (st := s_slide) l7 c7 k7
  have b7 := F7.binds (ps := ["cells", "roots"]) fun _ _ _ _ _ _ us hl => match us, hl with | [_, _], _ => rfl
  have F8 := fun_mk (st := s__law_stream) l8 c8 k8
  have b8 := F8.binds (ps := ["script"]) fun _ _ _ _ _ _ us hl => match us, hl with | [_], _ => rfl
  have F9 := fun_mk (st := s__law_draw) l9 c9 k9
  have b9 := F9.binds (ps := ["stream", "many"]) fun _ _ _ _ _ _ us hl => match us, hl with | [_, _], _ => rfl
  have F10 := fun_mk (st := s__law_cells) l10 c10 k10
  have b10 := F10.binds (ps := ["stream", "size"]) fun _ _ _ _ _ _ us hl => match us, hl with | [_, _], _ => rfl
  have F11 := fun_mk (st := s__law_is_symbol) l11 c11 k11
  have b11 := F11.binds (ps := ["cell"]) fun _ _ _ _ _ _ us hl => match us, hl with | [_], _ => rfl
  have F12 := fun_mk (st := s__law_settled) l12 c12 k12
  have b12 := F12.binds (ps := ["cells", "at", "symbols", "others"]) fun _ _ _ _ _ _ us hl => match us, hl with | [_, _, _, _], _ => rfl
  have F13 := fun_mk (st := s__law_roots) l13 c13 k13
  have b13 := F13.binds (ps := ["stream", "cells"]) fun _ _ _ _ _ _ us hl => match us, hl with | [_, _], _ => rfl
  have F14 := fun_mk (st := s__law_reachable) l14 c14 k14
  have b14 := F14.binds (ps := ["cells", "roots"]) fun _ _ _ _ _ _ us hl => match us, hl with | [_, _], _ => rfl
  have F15 := fun_mk (st := s__law_moved) l15 c15 k15
  have b15 := F15.binds (ps := ["cell", "places"]) fun _ _ _ _ _ _ us hl => match us, hl with | [_, _], _ => rfl
  have F16 := fun_mk (st := s_law) l16 c16 k16
  have E : Bi K mg := ⟨PySem.W.mg_none_of X G z0, PySem.W.mg_none_of X G z1, PySem.W.mg_none_of X G z2, PySem.W.mg_none_of X G z3, PySem.W.mg_none_of X G z4, PySem.W.mg_none_of X G z5, PySem.W.mg_none_of X G z6, PySem.W.mg_none_of X G z7, PySem.W.mg_none_of X G z8, PySem.W.mg_none_of X G z9, PySem.W.mg_none_of X G z10, PySem.W.mg_none_of X G z11⟩
  refine ⟨PySem.W.fnOf "law" "law" (defArgs s_law) (defBody s_law) (defScope s_law) .none kV16 dc16 pm16 an16 cd16 ct16, fun s v => .of_eq rfl, fun base _ _ => ?_⟩
  have D1 : Has l.prog w K mg base 1 "is_symbol" ["node"] (sp_is_symbol K) := ⟨_, _, ok_is_symbol F1 E , PySem.W.mg_of X G a1, k1, b1⟩
  have D3 : Has l.prog w K mg base 1 "is_link" ["cell"] (sp_is_link K) := ⟨_, _, ok_is_link F3 E , PySem.W.mg_of X G a3, k3, b3⟩
  have D8 : Has l.prog w K mg base 1 "_law_stream" ["script"] (sp__law_stream K) := ⟨_, _, ok__law_stream F8 E , PySem.W.mg_of X G a8, k8, b8⟩
  have D9 : Has l.prog w K mg base 1 "_law_draw" ["stream", "many"] (sp__law_draw K) := ⟨_, _, ok__law_draw F9 E , PySem.W.mg_of X G a9, k9, b9⟩
  have D11 : Has l.prog w K mg base 1 "_law_is_symbol" ["cell"] (sp__law_is_symbol K) := ⟨_, _, ok__law_is_symbol F11 E , PySem.W.mg_of X G a11, k11, b11⟩
  have D12 : Has l.prog w K mg base 1 "_law_settled" ["cells", "at", "symbols", "others"] (sp__law_settled K) := ⟨_, _, ok__law_settled F12 E , PySem.W.mg_of X G a12, k12, b12⟩
  have D14 : Has l.prog w K mg base 1 "_law_reachable" ["cells", "roots"] (sp__law_reachable K) := ⟨_, _, ok__law_reachable F14 E , PySem.W.mg_of X G a14, k14, b14⟩
  have D15 : Has l.prog w K mg base 1 "_law_moved" ["cell", "places"] (sp__law_moved K) := ⟨_, _, ok__law_moved F15 E , PySem.W.mg_of X G a15, k15, b15⟩
  have D2 : Has l.prog w K mg base 2 "arity_of" ["node"] (sp_arity_of K) := ⟨_, _, ok_arity_of F2 E D1, PySem.W.mg_of X G a2, k2, b2⟩
  have D6 : Has l.prog w K mg base 2 "moved" ["cell", "places"] (sp_moved K) := ⟨_, _, ok_moved F6 E D3, PySem.W.mg_of X G a6, k6, b6⟩
  have D10 : Has l.prog w K mg base 2 "_law_cells" ["stream", "size"] (sp__law_cells K) := ⟨_, _, ok__law_cells F10 E D9 D11 D12, PySem.W.mg_of X G a10, k10, b10⟩
  have D13 : Has l.prog w K mg base 2 "_law_roots" ["stream", "cells"] (sp__law_roots K) := ⟨_, _, ok__law_roots F13 E D9 D11, PySem.W.mg_of X G a13, k13, b13⟩
  have D4 : Has l.prog w K mg base 3 "marks" ["cells", "roots"] (sp_marks K) := ⟨_, _, ok_marks F4 E D3 D2, PySem.W.mg_of X G a4, k4, b4⟩
  have D5 : Has l.prog w K mg base 4 "reachable" ["cells", "roots"] (sp_reachable K) := ⟨_, _, ok_reachable F5 E D4, PySem.W.mg_of X G a5, k5, b5⟩
  have D7 : Has l.prog w K mg base 5 "slide" ["cells", "roots"] (sp_slide K) := ⟨_, _, ok_slide F7 E D5 D6, PySem.W.mg_of X G a7, k7, b7⟩
  exact ok_law F16 E D8 D10 D9 D13 D7 D14 D15
end My
open PySem PySem.W PyProof.Rows
set_option maxRecDepth 100000 in
set_option maxHeartbeats 0 in
theorem PySem.Challenge.cw_hornbook_k92_whole_slide_keeps_terms_holds : PySem.Challenge.rw_hornbook_k92_whole_slide_keeps_terms.Holds := by
  w_on; o_law; k_head; (case hw => w_witness2)
  k_fill
  refine L2.walk_of (l := PySem.Challenge.rw_hornbook_k92_whole_slide_keeps_terms) (n := 63) (k := 6) (x := "script") (CX := fun _ => L2.CX0) (sp := fun w => My.sp_law _) rfl (by decide) rfl ⟨rfl, by decide, by decide⟩ (fun w h Y => PySem.W.kIn_of Y) ?F (fun _ _ a ns hl _ hS => ⟨a, ns, rfl, hS, hl, fun _ => rfl⟩) (fun _ _ _ _ _ h => h)
  case F =>
    intro w mg fa h KX G hmg
    refine' My.all_mk KX G hmg ?a1 ?l1 ?c1 ?k1 ?a2 ?l2 ?c2 ?k2 ?a3 ?l3 ?c3 ?k3 ?a4 ?l4 ?c4 ?k4 ?a5 ?l5 ?c5 ?k5 ?a6 ?l6 ?c6 ?k6 ?a7 ?l7 ?c7 ?k7 ?a8 ?l8 ?c8 ?k8 ?a9 ?l9 ?c9 ?k9 ?a10 ?l10 ?c10 ?k10 ?a11 ?l11 ?c11 ?k11 ?a12 ?l12 ?c12 ?k12 ?a13 ?l13 ?c13 ?k13 ?a14 ?l14 ?c14 ?k14 ?a15 ?l15 ?c15 ?k15 ?a16 ?l16 ?c16 ?k16 ?z0 ?z1 ?z2 ?z3 ?z4 ?z5 ?z6 ?z7 ?z8 ?z9 ?z10 ?z11
    (case a1 => k_is)
    (case l1 => k_is)
    (case c1 => k_is)
    (case k1 => k_is)
    (case a2 => k_is)
    (case l2 => k_is)
    (case c2 => k_is)
    (case k2 => k_is)
    (case a3 => k_is)
    (case l3 => k_is)
    (case c3 => k_is)
    (case k3 => k_is)
    (case a4 => k_is)
    (case l4 => k_is)
    (case c4 => k_is)
    (case k4 => k_is)
    (case a5 => k_is)
    (case l5 => k_is)
    (case c5 => k_is)
    (case k5 => k_is)
    (case a6 => k_is)
    (case l6 => k_is)
    (case c6 => k_is)
    (case k6 => k_is)
    (case a7 => k_is)
    (case l7 => k_is)
    (case c7 => k_is)
    (case k7 => k_is)
    (case a8 => k_is)
    (case l8 => k_is)
    (case c8 => k_is)
    (case k8 => k_is)
    (case a9 => k_is)
    (case l9 => k_is)
    (case c9 => k_is)
    (case k9 => k_is)
    (case a10 => k_is)
    (case l10 => k_is)
    (case c10 => k_is)
    (case k10 => k_is)
    (case a11 => k_is)
    (case l11 => k_is)
    (case c11 => k_is)
    (case k11 => k_is)
    (case a12 => k_is)
    (case l12 => k_is)
    (case c12 => k_is)
    (case k12 => k_is)
    (case a13 => k_is)
    (case l13 => k_is)
    (case c13 => k_is)
    (case k13 => k_is)
    (case a14 => k_is)
    (case l14 => k_is)
    (case c14 => k_is)
    (case k14 => k_is)
    (case a15 => k_is)
    (case l15 => k_is)
    (case c15 => k_is)
    (case k15 => k_is)
    (case a16 => k_is)
    (case l16 => k_is)
    (case c16 => k_is)
    (case k16 => k_is)
    (case z0 => k_is)
    (case z1 => k_is)
    (case z2 => k_is)
    (case z3 => k_is)
    (case z4 => k_is)
    (case z5 => k_is)
    (case z6 => k_is)
    (case z7 => k_is)
    (case z8 => k_is)
    (case z9 => k_is)
    (case z10 => k_is)
    (case z11 => k_is)
