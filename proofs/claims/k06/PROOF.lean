import PyProof.Rows.All
import Wide.All
import OpenK.AllK
import Wide.FinOn
import HandS.ForMost
import HandS.IsInst
import HandS.Wide
import HandS.Codes
import HandS.Style
import HandS.TupLe
import HandS.TupAny
import HandS.EndBits
import HandS.Walk
import HandS.Zip
import KE.LtData
import HandS.SortKw
import HandS.Deep
import KE.SortKeyHeap
import KE.DataFind
import KE.DataCmp
import HandS.Defaults
import HandS.Defaults
import PySem.Challenge.RW_hornbook_k06_sort
set_option Elab.async false
set_option linter.all false
set_option maxRecDepth 100000
set_option maxHeartbeats 4000000
set_option exponentiation.threshold 10000
namespace My
open PySem PySem.Spec PyProof.Rows L2
/-- a def of the text that keeps a promise, as its callers want it -/
def Has (P : Program) (w : World) (K : PySem.W.Frag) (mg : Str → Option Value) (base : Heap) (k : Nat) (x : Str) (ps : List Str) (sp : Sp) : Prop :=
  ∃ (f : Addr) (fd : FuncData), FnOk P w K mg base CX0 k f fd ps sp ∧ mg x = some (.ref f) ∧ PySem.W.keepIn K (.ref f) = true ∧ Binds K fd ps []
theorem same_upd {H : Hp} {p : Addr} {o : HO} (h : H p = none) : Same H (upd H p o) := fun b x e => by
  rw [upd_ne (ne_of_none e h)]
  exact e
/-- all but the object at s is as it was -/
def But (s : Addr) (H H' : Hp) : Prop := ∀ b o, b ≠ s → H b = some o → H' b = some o
theorem But.refl (s : Addr) (H : Hp) : But s H H := fun _ _ _ e => e
theorem But.trans {s : Addr} {H H1 H2 : Hp} (a : But s H H1) (b : But s H1 H2) : But s H H2 := fun c o hc e => b c o hc (a c o hc e)
theorem But.of {s : Addr} {H H' : Hp} (a : Same H H') : But s H H' := fun b o _ e => a b o e
theorem But.put {s : Addr} {H : Hp} {o : HO} : But s H (upd H s o) := fun b u hb e => by rw [upd_ne hb]; exact e
/-! ### what a value is -/
mutual
inductive Im (K : PySem.W.Frag) (G : Addr → Prop) (H : Hp) : V → PyData → Prop
  | non : Im K G H .non .none
  | bl (b : Bool) : Im K G H (.bl b) (.bool b)
  | int (i : Int) : Im K G H (.int i) (.int i)
  | str (x : Str) : Im K G H (.str x) (.str x)
  | lst {a : Addr} {xs : List V} {ds : List PyData} : G a → H a = some (.lst xs) → ImAll K G H xs ds → Im K G H (.ref a) (.list ds)
  | tup {a : Addr} {xs : List V} {ds : List PyData} : G a → H a = some (.tup xs) → ImAll K G H xs ds → Im K G H (.ref a) (.tuple ds)
inductive ImAll (K : PySem.W.Frag) (G : Addr → Prop) (H : Hp) : List V → List PyData → Prop
  | nil : ImAll K G H [] []
  | cons {v : V} {vs : List V} {d : PyData} {ds : List PyData} : Im K G H v d → ImAll K G H vs ds → ImAll K G H (v :: vs) (d :: ds)
end
section
variable {K : PySem.W.Frag} {G G' : Addr → Prop} {H H' : Hp}
mutual
theorem Im.mono (hH : ∀ b o, G b → H b = some o → H' b = some o) (hG : ∀ b, G b → G' b) : ∀ (d : PyData) (v : V), Im K G H v d → Im K G' H' v d
  | .none, _, h => by cases h; exact .non
  | .bool b, _, h => by cases h; exact .bl b
  | .int i, _, h => by cases h; exact .int i
  | .str x, _, h => by cases h; exact .str x
  | .list ds, _, h => by
    cases h with
    | lst g e ha => exact .lst (hG _ g) (hH _ _ g e) (Im.monoAll hH hG ds _ ha)
  | .tuple ds, _, h => by
    cases h with
    | tup g e ha => exact .tup (hG _ g) (hH _ _ g e) (Im.monoAll hH hG ds _ ha)
  | .dict _, _, h => by cases h
theorem Im.monoAll (hH : ∀ b o, G b → H b = some o → H' b = some o) (hG : ∀ b, G b → G' b) : ∀ (ds : List PyData) (vs : List V), ImAll K G H vs ds → ImAll K G' H' vs ds
  | [], _, h => by cases h; exact .nil
  | d :: ds, _, h => by
    cases h with
    | cons h1 h2 => exact .cons (Im.mono hH hG d _ h1) (Im.monoAll hH hG ds _ h2)
end
mutual
theorem Im.dp : ∀ (d : PyData) (v : V), Im K G H v d → Dp K H v d
  | .none, _, h => by cases h; exact .non
  | .bool b, _, h => by cases h; exact .bl b
  | .int i, _, h => by cases h; exact .int i
  | .str x, _, h => by cases h; exact .str x
  | .list ds, _, h => by
    cases h with
    | lst g e ha => exact .lst (SqL.of e) (Im.dpAll ds _ ha)
  | .tuple ds, _, h => by
    cases h with
    | tup g e ha => exact .tup (SqT.of e) (Im.dpAll ds _ ha)
  | .dict _, _, h => by cases h
theorem Im.dpAll : ∀ (ds : List PyData) (vs : List V), ImAll K G H vs ds → DpAll K H vs ds
  | [], _, h => by cases h; exact .nil
  | d :: ds, _, h => by
    cases h with
    | cons h1 h2 => exact .cons (Im.dp d _ h1) (Im.dpAll ds _ h2)
end
theorem ImAll.len : ∀ {vs : List V} {ds : List PyData}, ImAll K G H vs ds → vs.length = ds.length
  | _, _, .nil => rfl
  | _, _, .cons _ t => congrArg (· + 1) (ImAll.len t)
theorem ImAll.get : ∀ {vs : List V} {ds : List PyData} {i : Nat} {d : PyData}, ImAll K G H vs ds → ds[i]? = some d → ∃ v, vs[i]? = some v ∧ Im K G H v d
  | _, _, _, _, .nil, e => by simp at e
  | _, _, 0, _, .cons r _, e => by simp at e; subst e; exact ⟨_, rfl, r⟩
  | _, _, i + 1, _, .cons _ t, e => by
    obtain ⟨u, h1, h2⟩ := ImAll.get (i := i) t (by simpa using e)
    exact ⟨u, by simpa using h1, h2⟩
theorem ImAll.getV : ∀ {vs : List V} {ds : List PyData} {i : Nat} {v : V}, ImAll K G H vs ds → vs[i]? = some v → ∃ d, ds[i]? = some d ∧ Im K G H v d
  | _, _, _, _, .nil, e => by simp at e
  | _, _, 0, _, .cons r _, e => by simp at e; subst e; exact ⟨_, rfl, r⟩
  | _, _, i + 1, _, .cons _ t, e => by
    obtain ⟨u, h1, h2⟩ := ImAll.getV (i := i) t (by simpa using e)
    exact ⟨u, by simpa using h1, h2⟩
theorem ImAll.snoc : ∀ {vs : List V} {ds : List PyData} {v : V} {d : PyData}, ImAll K G H vs ds → Im K G H v d → ImAll K G H (vs ++ [v]) (ds ++ [d])
  | _, _, _, _, .nil, r => .cons r .nil
  | _, _, _, _, .cons q t, r => .cons q (ImAll.snoc t r)
theorem ImAll.app : ∀ {vs : List V} {ds : List PyData} {us : List V} {es : List PyData}, ImAll K G H vs ds → ImAll K G H us es → ImAll K G H (vs ++ us) (ds ++ es)
  | _, _, _, _, .nil, r => r
  | _, _, _, _, .cons q t, r => .cons q (ImAll.app t r)
end
section
variable {K : PySem.W.Frag} {H : Hp}
theorem DpAll.len : ∀ {vs : List V} {ds : List PyData}, DpAll K H vs ds → vs.length = ds.length
  | _, _, .nil => rfl
  | _, _, .cons _ t => congrArg (· + 1) (DpAll.len t)
theorem DpAll.get : ∀ {vs : List V} {ds : List PyData} {i : Nat} {d : PyData}, DpAll K H vs ds → ds[i]? = some d → ∃ v, vs[i]? = some v ∧ Dp K H v d
  | _, _, _, _, .nil, e => by simp at e
  | _, _, 0, _, .cons r _, e => by simp at e; subst e; exact ⟨_, rfl, r⟩
  | _, _, i + 1, _, .cons _ t, e => by
    obtain ⟨u, h1, h2⟩ := DpAll.get (i := i) t (by simpa using e)
    exact ⟨u, by simpa using h1, h2⟩
/-- the name of a value's class -/
def tyN : PyData → String
  | .none => "NoneType" | .bool _ => "bool" | .int _ => "int" | .str _ => "str" | .list _ => "list" | .tuple _ => "tuple" | .dict _ => "dict"
theorem tyx_of : ∀ {x : V} {d : PyData}, Dp K H x d → TyX K H x (.type (tyN d))
  | _, _, .non => .base .non
  | _, _, .bl b => .base (.bl b)
  | _, _, .int i => .base (.int i)
  | _, _, .str x => .base (.str x)
  | _, _, .lst h _ => by
    rcases h with (h | ⟨o, h⟩) | ⟨o, its, n, hk, hc, _⟩
    · exact .base (.lst h)
    · exact .base (.frz h)
    · exact .kList hk hc
  | _, _, .tup h _ => by
    rcases h with (h | ⟨o, h⟩) | ⟨o, its, n, hk, hc, _⟩
    · exact .base (.tup h)
    · exact .fTuple h
    · exact .kTuple hk hc
def isI : PyData → Bool
  | .int _ => true | .bool _ => true | _ => false
def isB : PyData → Bool
  | .bool _ => true | _ => false
def isS : PyData → Bool
  | .str _ => true | _ => false
def isT : PyData → Bool
  | .tuple _ => true | _ => false
def isL : PyData → Bool
  | .list _ => true | _ => false
theorem kitI (d : PyData) : kitB (tyN d) "int" = some (isI d) := by cases d <;> (show kitB _ "int" = _; simp only [tyN, isI]; decide +kernel)
theorem kitBo (d : PyData) : kitB (tyN d) "bool" = some (isB d) := by cases d <;> (show kitB _ "bool" = _; simp only [tyN, isB]; decide +kernel)
theorem kitS (d : PyData) : kitB (tyN d) "str" = some (isS d) := by cases d <;> (show kitB _ "str" = _; simp only [tyN, isS]; decide +kernel)
theorem kitT (d : PyData) : kitB (tyN d) "tuple" = some (isT d) := by cases d <;> (show kitB _ "tuple" = _; simp only [tyN, isT]; decide +kernel)
theorem kitL (d : PyData) : kitB (tyN d) "list" = some (isL d) := by cases d <;> (show kitB _ "list" = _; simp only [tyN, isL]; decide +kernel)
theorem isi_int {x : V} {d : PyData} {Q : VK} (h : Dp K H x d) (q : Q (.bl (isI d)) H) : rIsi K [x, .ty "int"] H Q := ⟨x, .ty "int", _, _, _, rfl, .ty _, tyx_of h, kit_ty (kitI d), q⟩
theorem isi_bool {x : V} {d : PyData} {Q : VK} (h : Dp K H x d) (q : Q (.bl (isB d)) H) : rIsi K [x, .ty "bool"] H Q := ⟨x, .ty "bool", _, _, _, rfl, .ty _, tyx_of h, kit_ty (kitBo d), q⟩
theorem isi_str {x : V} {d : PyData} {Q : VK} (h : Dp K H x d) (q : Q (.bl (isS d)) H) : rIsi K [x, .ty "str"] H Q := ⟨x, .ty "str", _, _, _, rfl, .ty _, tyx_of h, kit_ty (kitS d), q⟩
theorem isi_tup {x : V} {d : PyData} {Q : VK} (h : Dp K H x d) (q : Q (.bl (isT d)) H) : rIsi K [x, .ty "tuple"] H Q := ⟨x, .ty "tuple", _, _, _, rfl, .ty _, tyx_of h, kit_ty (kitT d), q⟩
theorem isi_list {x : V} {d : PyData} {Q : VK} (h : Dp K H x d) (q : Q (.bl (isL d)) H) : rIsi K [x, .ty "list"] H Q := ⟨x, .ty "list", _, _, _, rfl, .ty _, tyx_of h, kit_ty (kitL d), q⟩
end
/-! ### the stream of draws -/
structure Stm (H : Hp) (s l : Addr) : Prop where
  ex : ∃ (a b m : Int) (ns : List Int), H s = some (.lst [.ref l, .int a, .int b, .int m]) ∧ H l = some (.lst (ns.map V.int)) ∧ ns.length ≤ 63 ∧ 0 ≤ a ∧ 0 ≤ b ∧ 0 ≤ m ∧ m < 2147483647
theorem Stm.keep {H H' : Hp} {s l : Addr} (h : Stm H s l) (e : Same H H') : Stm H' s l := by
  obtain ⟨a, b, m, ns, h1, h2, r⟩ := h.ex
  exact ⟨a, b, m, ns, e _ _ h1, e _ _ h2, r⟩
/-- another object is changed -/
theorem Stm.put {H : Hp} {s l r : Addr} {o : HO} (h : Stm H s l) (h1 : s ≠ r) (h2 : l ≠ r) : Stm (upd H r o) s l := by
  obtain ⟨a, b, m, ns, e1, e2, q⟩ := h.ex
  exact ⟨a, b, m, ns, by rw [upd_ne h1]; exact e1, by rw [upd_ne h2]; exact e2, q⟩
theorem Stm.at_s {H : Hp} {s l : Addr} (h : Stm H s l) : ∃ o, H s = some o := by
  obtain ⟨a, b, m, ns, e1, e2, q⟩ := h.ex
  exact ⟨_, e1⟩
theorem Stm.at_l {H : Hp} {s l : Addr} (h : Stm H s l) : ∃ o, H l = some o := by
  obtain ⟨a, b, m, ns, e1, e2, q⟩ := h.ex
  exact ⟨_, e2⟩
/-- a constant of the module -/
def GV (mg : Str → Option Value) (x : Str) (v : V) : Prop := ∃ u, mg x = some u ∧ RelV v u
theorem pe_gC {X : Cx} {x : Str} {v : V} {pos : Pos} (hg : Gl X x) (h : GV X.mg x v) (hd : (x == ("__debug__" : Str)) = false := by decide) : PE X (.Name x pos) (tC v) := by
  obtain ⟨u, e, r⟩ := h
  exact pe_glob hg e r hd

/-! ### 'a' * 40 -/
section
variable {X : Cx}
theorem op_mulS : OpR X (binaryOp .Mult) (fun x y H Q => ∃ z i, x = .str z ∧ y = .int i ∧ MulOk z i ∧ Q (.str (Txt.mul z i)) H) := by
  intro pins s σ H x y v u Q I rx ry h
  obtain ⟨z, i, rfl, rfl, hk, q⟩ := h
  obtain ⟨t, rfl⟩ := rx
  obtain ⟨t', rfl⟩ := ry
  exact SB.mul hk fun t2 k => ⟨.str _, H, I.tok k, ⟨_, rfl⟩, q⟩
end
/-! ### data written out: each part of it is new -/
section
variable {K : PySem.W.Frag}
/-- an expression that makes data and changes nothing else -/
def Lit (K : PySem.W.Frag) (σ : L2.St) (t : TE) (d : PyData) : Prop := ∀ (H : Hp) (Q : VK), (∀ v H', Same H H' → Im K (fun b => H b = Option.none) H' v d → Q v H') → t σ H Q
def LitA (K : PySem.W.Frag) (σ : L2.St) (t : TA) (ds : List PyData) : Prop := ∀ (H : Hp) (Q : List V → Hp → Prop), (∀ vs H', Same H H' → ImAll K (fun b => H b = Option.none) H' vs ds → Q vs H') → t σ H Q
variable {σ : L2.St}
theorem lit_int {i : Int} : Lit K σ (tC (.int i)) (.int i) := fun H Q h => h _ H (Same.refl H) (.int i)
theorem lit_str {x : Str} : Lit K σ (tC (.str x)) (.str x) := fun H Q h => h _ H (Same.refl H) (.str x)
theorem lit_bl {b : Bool} : Lit K σ (tC (.bl b)) (.bool b) := fun H Q h => h _ H (Same.refl H) (.bl b)
theorem lit_non : Lit K σ (tC .non) .none := fun H Q h => h _ H (Same.refl H) .non
theorem litA_nil : LitA K σ tNil [] := fun H Q h => h _ H (Same.refl H) .nil
theorem litA_cons {t : TE} {ta : TA} {d : PyData} {ds : List PyData} (h1 : Lit K σ t d) (h2 : LitA K σ ta ds) : LitA K σ (tCons t ta) (d :: ds) := fun H Q h =>
  h1 H _ fun v H1 s1 i1 => h2 H1 _ fun vs H2 s2 i2 => h _ H2 (s1.trans s2) (.cons (Im.mono (fun b o _ e => s2 b o e) (fun _ e => e) _ _ i1) (Im.monoAll (fun _ _ _ e => e) (fun b e => s1.free e) _ _ i2))
theorem lit_tup {ta : TA} {ds : List PyData} (h1 : LitA K σ ta ds) (hz : ds.length ≤ sizeLine) : Lit K σ (tTup ta) (.tuple ds) := fun H Q h =>
  h1 H _ fun vs H1 s1 i1 => ⟨by rw [i1.len]; exact hz, fun p np => h _ _ (s1.trans (same_upd np)) (.tup (s1.free np) upd_same (Im.monoAll (fun b o _ e => same_upd np b o e) (fun _ e => e) _ _ i1))⟩
theorem lit_lst {ta : TA} {ds : List PyData} (h1 : LitA K σ ta ds) (hz : ds.length ≤ sizeLine) : Lit K σ (tLst ta) (.list ds) := fun H Q h =>
  h1 H _ fun vs H1 s1 i1 => ⟨by rw [i1.len]; exact hz, fun p np => h _ _ (s1.trans (same_upd np)) (.lst (s1.free np) upd_same (Im.monoAll (fun b o _ e => same_upd np b o e) (fun _ e => e) _ _ i1))⟩
/-- what is an int -/
theorem lit_neg {t : TE} {i : Int} (h1 : Lit K σ t (.int i)) : Lit K σ (tUn (rU fun i => .int (-i)) t) (.int (-i)) := fun H Q h =>
  h1 H _ fun v H1 s1 i1 => by
    cases i1
    exact ⟨_, rfl, h _ H1 s1 (.int _)⟩
theorem lit_sub {t u : TE} {i j : Int} (h1 : Lit K σ t (.int i)) (h2 : Lit K σ u (.int j)) : Lit K σ (tOp (rI0 fun i j => .int (i - j)) t u) (.int (i - j)) := fun H Q h =>
  h1 H _ fun v H1 s1 i1 => h2 H1 _ fun v2 H2 s2 i2 => by
    cases i1
    cases i2
    exact ⟨_, _, rfl, rfl, h _ H2 (s1.trans s2) (.int _)⟩
theorem lit_pow {t u : TE} {i j : Int} (h1 : Lit K σ t (.int i)) (h2 : Lit K σ u (.int j)) (hc : CPow i j) : Lit K σ (tOp (rI CPow fun i j => .int (i ^ j.toNat)) t u) (.int (i ^ j.toNat)) := fun H Q h =>
  h1 H _ fun v H1 s1 i1 => h2 H1 _ fun v2 H2 s2 i2 => by
    cases i1
    cases i2
    exact ⟨_, _, rfl, rfl, hc, h _ H2 (s1.trans s2) (.int _)⟩
theorem lit_mulS {t u : TE} {z : Str} {j : Int} (h1 : Lit K σ t (.str z)) (h2 : Lit K σ u (.int j)) (hc : MulOk z j) : Lit K σ (tOp (fun x y H Q => ∃ z i, x = .str z ∧ y = .int i ∧ MulOk z i ∧ Q (.str (Txt.mul z i)) H) t u) (.str (Txt.mul z j)) := fun H Q h =>
  h1 H _ fun v H1 s1 i1 => h2 H1 _ fun v2 H2 s2 i2 => by
    cases i1
    cases i2
    exact ⟨_, _, rfl, rfl, hc, h _ H2 (s1.trans s2) (.str _)⟩
end
section
variable {X : Cx} {pos : Pos}
/-- a built-in class as a value -/
theorem pe_ty {x : Str} (n : String) (hg : Gl X x) (hm : X.mg x = Option.none) (hv : bootBuiltins x = some (.type n)) (hn : x ≠ "__name__" := by decide) (hd : (x == ("__debug__" : Str)) = false := by decide) : PE X (.Name x pos) (tC (.ty n)) :=
  pe_bltn hg hm hv rfl hn hd
end
section
variable {K : PySem.W.Frag} {H H' : Hp}
theorem same_sqT {a : Addr} {xs : List V} (e : Same H H') (h : SqT K H a xs) : SqT K H' a xs := by
  rcases h with (h | ⟨o, h⟩) | h
  · exact .inl (.inl (e _ _ h))
  · exact .inl (.inr ⟨o, e _ _ h⟩)
  · exact .inr h
mutual
theorem dp_same (e : Same H H') : ∀ (d : PyData) (v : V), Dp K H v d → Dp K H' v d
  | .none, _, h => by cases h; exact .non
  | .bool b, _, h => by cases h; exact .bl b
  | .int i, _, h => by cases h; exact .int i
  | .str x, _, h => by cases h; exact .str x
  | .list ds, _, h => by
    cases h with
    | lst g ha => exact .lst (e.seq g) (dp_sameAll e ds _ ha)
  | .tuple ds, _, h => by
    cases h with
    | tup g ha => exact .tup (same_sqT e g) (dp_sameAll e ds _ ha)
  | .dict _, _, h => by cases h
theorem dp_sameAll (e : Same H H') : ∀ (ds : List PyData) (vs : List V), DpAll K H vs ds → DpAll K H' vs ds
  | [], _, h => by cases h; exact .nil
  | d :: ds, _, h => by
    cases h with
    | cons h1 h2 => exact .cons (dp_same e d _ h1) (dp_sameAll e ds _ h2)
end
end
theorem small_of {n : Nat} (h : n ≤ 1000) : n ≤ sizeLine := Nat.le_of_lt (small1000 h)
theorem seq_asg {te : TE} {g : TG} {u : TS} {D : Ends} {σ : L2.St} {H : Hp} (h : te σ H fun x H1 => g x σ H1 (u D)) : tSeq (tAsg te g) u D σ H := h
theorem gname {i : Nat} {v : V} {σ : L2.St} {H : Hp} {Q : L2.St → Hp → Prop} (h : Q (σ.set i (some v)) H) : gName i v σ H Q := h
theorem nxp {N : L2.St → Hp → Prop} {R : VK} {B C : L2.St → Hp → Prop} {σ : L2.St} {H : Hp} (h : N σ H) : ({ nx := N, rt := R, bk := B, ct := C } : Ends).nx σ H := h
theorem seq_if {c : TT} {t t2 : TS} {u : TS} {D : Ends} {σ : L2.St} {H : Hp} (h : c σ H fun b H1 => if b = true then t { D with nx := u D } σ H1 else t2 { D with nx := u D } σ H1) : tSeq (tIfS c t t2) u D σ H := h
theorem seq_ifN {c : TT} {t : TS} {u : TS} {D : Ends} {σ : L2.St} {H : Hp} (h : c σ H fun b H1 => if b = true then t { D with nx := u D } σ H1 else u D σ H1) : tSeq (tIfS c t tNext) u D σ H := h
theorem seq_any {t : TS} {u : TS} {D : Ends} {σ : L2.St} {H : Hp} (h : t { D with nx := u D } σ H) : tSeq t u D σ H := h
theorem asg1 {te : TE} {g : TG} {D : Ends} {σ : L2.St} {H : Hp} (h : te σ H fun x H1 => g x σ H1 D.nx) : tAsg te g D σ H := h
section
variable {K : PySem.W.Frag} {G G' : Addr → Prop} {H H' : Hp}
mutual
theorem Im.mono2 (hH : ∀ b o, G b → H b = some o → H' b = some o) (hG : ∀ b o, H b = some o → G b → G' b) : ∀ (d : PyData) (v : V), Im K G H v d → Im K G' H' v d
  | .none, _, h => by cases h; exact .non
  | .bool b, _, h => by cases h; exact .bl b
  | .int i, _, h => by cases h; exact .int i
  | .str x, _, h => by cases h; exact .str x
  | .list ds, _, h => by
    cases h with
    | lst g e ha => exact .lst (hG _ _ e g) (hH _ _ g e) (Im.mono2All hH hG ds _ ha)
  | .tuple ds, _, h => by
    cases h with
    | tup g e ha => exact .tup (hG _ _ e g) (hH _ _ g e) (Im.mono2All hH hG ds _ ha)
  | .dict _, _, h => by cases h
theorem Im.mono2All (hH : ∀ b o, G b → H b = some o → H' b = some o) (hG : ∀ b o, H b = some o → G b → G' b) : ∀ (ds : List PyData) (vs : List V), ImAll K G H vs ds → ImAll K G' H' vs ds
  | [], _, h => by cases h; exact .nil
  | d :: ds, _, h => by
    cases h with
    | cons h1 h2 => exact .cons (Im.mono2 hH hG d _ h1) (Im.mono2All hH hG ds _ h2)
end
end
theorem join_set {c : Prop} [Decidable c] {v : V} {i : Nat} {u : TS} {D : Ends} {σ : L2.St} {H : Hp} (P : L2.St → Prop) (h : ∀ σ2, P σ2 → u D σ2 H) (h1 : c → P (σ.set i (some v))) (h2 : ¬ c → P σ) :
    if c then tAsg (tC v) (gName i) { D with nx := u D } σ H else u D σ H := by
  by_cases hc : c
  · rw [if_pos hc]
    exact h _ (h1 hc)
  · rw [if_neg hc]
    exact h _ (h2 hc)
/-- a constant tuple of the module, by its data -/
def GC (K : PySem.W.Frag) (mg : Str → Option Value) (x : Str) (d : PyData) : Prop := ∃ (u : Value) (v : V), mg x = some u ∧ RelV v u ∧ Dp K (fun _ => Option.none) v d
theorem none_same (H : Hp) : Same (fun _ => Option.none) H := fun _ _ e => nomatch e
theorem kt_of {K : PySem.W.Frag} {a : Addr} {its : Array Value} {n : Nat} {dd : Option Addr} {sl : Array (Option Value)} {xs : List V} {ds : List PyData} (h : K.lookup a = some ⟨.type "tuple", dd, .seq its n, sl⟩) (hz : its.size ≤ 1000) (hv : Vals xs its.toList) (ha : DpAll K (fun _ => Option.none) xs ds) :
    Dp K (fun _ => Option.none) (.ref a) (.tuple ds) := .tup (.inr ⟨_, its, n, h, rfl, rfl, Nat.le_trans hz (by decide), hv⟩) ha
/-! ### list.extend(tuple) -/
section
open Builtin
theorem extT (l b : Addr) (xs ys : Array Value) (n k : Nat) (dd : Option Addr) (sl : Array (Option Value)) (hlong : ¬(!xs.isEmpty && Builtin.List.listTooLong (xs.size + ys.size)) = true) (h1 : xs.size ≤ sizeLine) (h2 : xs.size + ys.size ≤ sizeLine + 1) :
    Meets (Builtin.«list.extend» ⟨[.ref l, .ref b], []⟩) (fun _ R s => s.heap.get? l = some { cls := .type "list", dict := none, data := .seq xs n, slots := #[] } ∧ s.heap.get? b = some { cls := .type "tuple", dict := dd, data := .seq ys k, slots := sl } ∧ R (.ok (.ret Value.none)) { s with heap := s.heap.update l (Obj.mapSeq fun x => x ++ ys), toks := s.toks }) := by
  refine .of_wp fun prog w A R s h => ?_
  obtain ⟨hp, g, d, tk, os⟩ := s
  obtain ⟨ea, eb, q⟩ := h
  have i1 := AutoSeq1.idx_int
  have i2 := AutoSeq1.sub_tuple_tuple
  have i3 := AutoSeq1.sub_list_list
  have i4 := AutoSeq1.sub_tuple_list
  have i5 := AutoSeq1.sub_list_tuple
  have hz : (xs ++ ys).size ≤ sizeLine + 1 := by rw [Array.size_append]; exact h2
  wp_walk using (wpAny_updateSeq ea rfl (hz := h1) (_hz' := hz)), AutoSeq1.wpAny_loadPart' ea, AutoSeq1.wpAny_loadPart' eb
  exact ⟨_, rfl, q⟩
end
section
variable {X : Cx}
def rExtT (K : PySem.W.Frag) : V → List V → Hp → VK → Prop := fun x vs H Q => ∃ l b xs zs, x = .ref l ∧ vs = [.ref b] ∧ H l = some (.lst xs) ∧ SqT K H b zs ∧ xs.length + zs.length ≤ sizeLine ∧ Q .non (upd H l (.lst (xs ++ zs)))
theorem mt_extT : MtR X "list.extend" (rExtT X.K) := by
  intro pins s σ H x vs v us Q I rx rv h
  obtain ⟨l, b, xs, zs, rfl, rfl, hH, hB, hz, q⟩ := h
  cases rx
  obtain ⟨u, rfl, ru⟩ := rv.one
  cases ru
  obtain ⟨z, its, n, r, hl, e⟩ := I.lstM hH
  obtain ⟨its2, r2, ⟨⟨oc, od, dt, sl⟩, e2, ec, k2, ed⟩, _⟩ := I.tuple hB
  simp only at ec ed
  subst ec ed
  have z1 := r.length
  have z2 := r2.length
  have hsz : its.toArray.size + its2.toArray.size ≤ sizeLine := by rw [List.size_toArray, List.size_toArray]; omega
  have nl : ¬ (!its.toArray.isEmpty && Builtin.List.listTooLong (its.toArray.size + its2.toArray.size)) = true := by
    rw [notLongL hsz, Bool.and_false]
    exact Bool.false_ne_true
  refine call_meets F.slot_list_extend ⟨_, e, rfl⟩ F.entry_list_extend (F.args_list_extend_2 _ _) (extT l b its.toArray its2.toArray n k2 od sl nl (by rw [List.size_toArray]; omega) (by omega)) ⟨e, e2, ?_⟩
  refine ⟨.non, _, I.lset (its' := its ++ its2) hH e (by simp) (r.append r2) ?_, rfl, q⟩
  rw [List.length_append]
  omega
/-! ### x in (a, b, ..), data of any depth -/
def rInT (K : PySem.W.Frag) : R2 := fun x y H Q => ∃ d ds, Dp K H x d ∧ Dp K H y (.tuple ds) ∧ SeqAt.shaped d = true ∧ SeqAt.shaped (.tuple ds) = true ∧ Q (.bl (ds.any fun z => PyData.eqv z d)) H
def rNotInT (K : PySem.W.Frag) : R2 := fun x y H Q => ∃ d ds, Dp K H x d ∧ Dp K H y (.tuple ds) ∧ SeqAt.shaped d = true ∧ SeqAt.shaped (.tuple ds) = true ∧ Q (.bl (!ds.any fun z => PyData.eqv z d)) H
theorem op_inT (hu : X.A.units + 65 < cLine) : OpR X (compareOp .In) (rInT X.K) := by
  intro pins s σ H x y v u Q I rx ry h
  obtain ⟨d, ds, hd, he, sd, se, q⟩ := h
  obtain ⟨as, r1⟩ := Dp.reads I d x v hd rx
  obtain ⟨bs, r2⟩ := Dp.reads I (.tuple ds) y u he ry
  exact SeqAt.in_tuple_reads r2 r1 (SeqAt.canLay_of_shaped se) (SeqAt.canLay_of_shaped sd) (room_in_shaped sd hu) ⟨.bl _, H, I, rfl, q⟩
theorem op_notInT (hu : X.A.units + 65 < cLine) : OpR X (compareOp .NotIn) (rNotInT X.K) := by
  intro pins s σ H x y v u Q I rx ry h
  obtain ⟨d, ds, hd, he, sd, se, q⟩ := h
  obtain ⟨as, r1⟩ := Dp.reads I d x v hd rx
  obtain ⟨bs, r2⟩ := Dp.reads I (.tuple ds) y u he ry
  exact SeqAt.notIn_tuple_reads r2 r1 (SeqAt.canLay_of_shaped se) (SeqAt.canLay_of_shaped sd) (room_in_shaped sd hu) ⟨.bl _, H, I, rfl, q⟩
theorem units65 {k : Nat} {A : Around} (r : Room k A) : A.units + 65 < cLine := by
  have := r.un
  omega
end
section
variable {K : PySem.W.Frag} {H : Hp}
theorem DpAll.dropt : ∀ {xs : List V} {ds : List PyData} (n : Nat), DpAll K H xs ds → DpAll K H (xs.drop n) (ds.drop n)
  | _, _, 0, r => r
  | _, _, _ + 1, .nil => .nil
  | _, _, n + 1, .cons _ t => DpAll.dropt n t
theorem DpAll.taket : ∀ {xs : List V} {ds : List PyData} (n : Nat), DpAll K H xs ds → DpAll K H (xs.take n) (ds.take n)
  | _, _, 0, _ => .nil
  | _, _, _ + 1, .nil => .nil
  | _, _, n + 1, .cons r t => .cons r (DpAll.taket n t)
theorem DpAll.app : ∀ {xs ys : List V} {ds es : List PyData}, DpAll K H xs ds → DpAll K H ys es → DpAll K H (xs ++ ys) (ds ++ es)
  | _, _, _, _, .nil, r => r
  | _, _, _, _, .cons q t, r => .cons q (DpAll.app t r)
theorem DpAll.getV : ∀ {vs : List V} {ds : List PyData} {i : Nat} {v : V}, DpAll K H vs ds → vs[i]? = some v → ∃ d, ds[i]? = some d ∧ Dp K H v d
  | _, _, _, _, .nil, e => by simp at e
  | _, _, 0, _, .cons r _, e => by simp at e; subst e; exact ⟨_, rfl, r⟩
  | _, _, i + 1, _, .cons _ t, e => by
    obtain ⟨u, h1, h2⟩ := DpAll.getV (i := i) t (by simpa using e)
    exact ⟨u, by simpa using h1, h2⟩
end
/-- a part of a tuple, also the whole -/
theorem cut_nat (xs : List V) (i j : Nat) (h1 : i ≤ xs.length) (h2 : j ≤ xs.length) : cutV xs (some (i : Int)) (some (j : Int)) = (xs.drop i).take (j - i) := by
  unfold cutV
  rw [HT.sIx_nat, HT.sIx_nat, Nat.min_eq_left h1, Nat.min_eq_left h2]
theorem slA_nat {K : PySem.W.Frag} {H : Hp} {a : Addr} {xs : List V} {i j : Nat} {Q : VK} (hs : SqT K H a xs) (h1 : i ≤ xs.length) (h2 : j ≤ xs.length) (h : ∀ b H', Same H H' → SqT K H' b ((xs.drop i).take (j - i)) → (∀ c, H c = Option.none → c ≠ b → H' c = Option.none) → Q (.ref b) H') :
    rSlA K (.ref a) (some (i : Int)) (some (j : Int)) H Q := by
  refine ⟨a, xs, rfl, hs, fun z => ?_, fun z p np => ?_⟩
  · rw [HT.sIx_nat, HT.sIx_nat, Nat.min_eq_left h1, Nat.min_eq_left h2] at z
    refine h a H (Same.refl H) ?_ fun _ e _ => e
    rw [z.1, z.2, List.drop_zero, Nat.sub_zero, List.take_length]
    exact hs
  · rw [cut_nat xs i j h1 h2]
    exact h p _ (same_upd np) (SqT.of upd_same) fun c e hc => by rw [upd_ne hc]; exact e
theorem cat_dp {K : PySem.W.Frag} {H : Hp} {x y : V} {ds es : List PyData} {Q : VK} (hx : Dp K H x (.tuple ds)) (hy : Dp K H y (.tuple es)) (hne : ds ≠ []) (hz : ds.length + es.length ≤ 1000) (h : ∀ v H', Same H H' → Dp K H' v (.tuple (ds ++ es)) → Q v H') : rCatT K x y H Q := by
  cases hx with
  | @tup a xs _ sx ax =>
  cases hy with
  | @tup b ys _ sy ay =>
  have lx := DpAll.len ax
  have ly := DpAll.len ay
  refine ⟨a, b, xs, ys, rfl, rfl, sx, sy, fun z => ?_, small_of (by omega), fun z => ?_, fun z p np => ?_⟩
  · rw [z] at lx
    exact hne (List.eq_nil_of_length_eq_zero lx.symm)
  · subst z
    cases ay
    rw [List.append_nil] at h
    exact h _ H (Same.refl H) (.tup sx ax)
  · exact h _ _ (same_upd np) (.tup (SqT.of upd_same) (dp_sameAll (same_upd np) _ _ (DpAll.app ax ay)))
theorem cut_from1 (v : V) (xs : List V) : cutV (v :: xs) (some 1) Option.none = xs := by
  unfold cutV
  rw [show (some (1 : Int)) = some ((1 : Nat) : Int) from rfl, HT.sIx_nat, HT.sIx_none, List.length_cons, Nat.min_eq_left (by omega), List.drop_succ_cons, List.drop_zero, Nat.add_sub_cancel]
  exact List.take_length
section
variable {σ : L2.St} {H : Hp}
theorem args1 {t : TE} {ta : TA} {Q : List V → Hp → Prop} (h : t σ H fun x H1 => ta σ H1 fun xs H2 => Q (x :: xs) H2) : tCons t ta σ H Q := h
theorem tup_of {ta : TA} {Q : VK} (h : ta σ H fun xs H1 => xs.length ≤ sizeLine ∧ ∀ p, H1 p = Option.none → Q (.ref p) (upd H1 p (.tup xs))) : tTup ta σ H Q := h
theorem const_of {v : V} {Q : VK} (h : Q v H) : tC v σ H Q := h
theorem op_of {r : R2} {ta tb : TE} {Q : VK} (h : ta σ H fun x H1 => tb σ H1 fun y H2 => r x y H2 Q) : tOp r ta tb σ H Q := h
theorem nil_of {Q : List V → Hp → Prop} (h : Q [] H) : tNil σ H Q := h
end
section
variable {σ : L2.St} {H : Hp}
theorem call_of {sp : Sp} {dvs : List V} {E : XK} {t : TA} {Q : VK} (h : t σ H fun vs H1 => sp (vs ++ dvs) H1 Q E) : tCall sp dvs E t σ H Q := h
theorem args_and {r : R2} {sp : Sp} {dvs : List V} {E : XK} {t : TA} {tb tc : TE} {D : Ends} (h : t σ H fun vs H1 => sp (vs ++ dvs) H1 (fun x H1 => tb σ H1 fun y H2 => r x y H2 fun x H1 => ∃ c, x = .bl c ∧ if c = true then tc σ H1 D.rt else D.rt (.bl false) H1) E) : tRet (tAndV (tOp r (tCall sp dvs E t) tb) tc) D σ H := h
end
theorem relStr (x : Str) (t : Tok) : RelV (.str x) (.str x t) := ⟨_, rfl⟩
theorem relInt (i : Int) (t : Tok) : RelV (.int i) (.int i t) := ⟨_, rfl⟩
theorem relRef (a : Addr) : RelV (.ref a) (.ref a) := rfl
/-! ### a < b of data whose places are alike -/
section
variable {X : Cx}
def rLtD (K : PySem.W.Frag) : R2 := fun x y H Q => ∃ d e, Dp K H x d ∧ Dp K H y e ∧ PySem.W.alike d e = true ∧ d ≠ .none ∧ d.depth ≤ 8 ∧ Q (.bl (PySem.W.dataLt d e)) H
theorem op_ltD (hu : X.A.units + 64 < cLine) : OpR X (compareOp .Lt) (rLtD X.K) := by
  intro pins s σ H x y v u Q I rx ry h
  obtain ⟨d, e, hd, he, ha, hn, hz, q⟩ := h
  obtain ⟨as, r1⟩ := Dp.reads I d x v hd rx
  obtain ⟨bs, r2⟩ := Dp.reads I e y u he ry
  have R := PySem.W.rcLt_alike d e X.A s v u as bs r1 r2 ha hn (Nat.lt_of_le_of_lt (Nat.add_le_add_left (Nat.le_trans (Nat.min_le_left _ _) (Nat.le_trans hz (by decide : 8 ≤ 64))) _) hu)
  have z : wpAny (model X.prog X.w) X.A (compareOp .Lt v u) (EP X pins σ Q) X.xe s := R X.prog X.w X.xe (EP X pins σ Q) ⟨.bl _, H, I, rfl, q⟩
  exact z
end
/-! ### zip of two tuples -/
theorem walk_zipT {K : PySem.W.Frag} {a b : Addr} {xs ys : List V} {n : Nat} (hn : n = min xs.length ys.length) : Walk (RZ.ItzT K a b) n (fun H => SqT K H a xs ∧ SqT K H b ys) (YPair (fun i => xs[i]?) (fun i => ys[i]?)) := by
  subst hn
  refine ⟨fun i H hi q => ?_, fun H q => ⟨xs, ys, q.1, q.2, by omega⟩, fun i H v H' hi q y => ?_⟩
  · have h1 : i < xs.length := by omega
    have h2 : i < ys.length := by omega
    exact ⟨xs, ys, _, _, q.1, q.2, List.getElem?_eq_getElem h1, List.getElem?_eq_getElem h2⟩
  · obtain ⟨T, x, y, e1, e2, e3, e4, e5⟩ := y
    exact ⟨T, x, y, e1, e2, e3, e4 xs q.1, e5 ys q.2⟩
/-! ### () + t -/
section
open Builtin
theorem addE (l b : Addr) (xs ys : Array Value) (n k : Nat) (dd dd2 : Option Addr) (sl sl2 : Array (Option Value)) (he : xs.isEmpty = true) :
    Meets (Builtin.«tuple.__add__» ⟨[.ref l, .ref b], []⟩) (fun _ R s => s.heap.get? l = some { cls := .type "tuple", dict := dd, data := .seq xs n, slots := sl } ∧ s.heap.get? b = some { cls := .type "tuple", dict := dd2, data := .seq ys k, slots := sl2 } ∧ R (.ok (.ret (Value.ref b))) s) := by
  refine .of_wp fun prog w A R s h => ?_
  obtain ⟨hp, g, d, tk, os⟩ := s
  obtain ⟨ea, eb, q⟩ := h
  have i1 := AutoSeq1.idx_int
  have i2 := AutoSeq1.sub_tuple_tuple
  have i3 := AutoSeq1.sub_list_list
  have i4 := AutoSeq1.sub_tuple_list
  have i5 := AutoSeq1.sub_list_tuple
  wp_walk using AutoSeq1.wpAny_loadPart' ea, AutoSeq1.wpAny_loadPart' eb
  exact ⟨_, rfl, q⟩
end
section
variable {X : Cx}
def rCatA (K : PySem.W.Frag) : R2 := fun x y H Q => ∃ a b xs ys, x = .ref a ∧ y = .ref b ∧ SqT K H a xs ∧ SqT K H b ys ∧ xs.length + ys.length ≤ sizeLine ∧ (xs = [] → Q (.ref b) H) ∧ (ys = [] → Q (.ref a) H) ∧ ∀ p, H p = Option.none → Q (.ref p) (upd H p (.tup (xs ++ ys)))
theorem op_catA : OpR X (binaryOp .Add) (rCatA X.K) := by
  intro pins s σ H x y v u Q I rx ry h
  obtain ⟨a, b, xs, ys, rfl, rfl, ha, hb, hz, q1, q2, q3⟩ := h
  by_cases hx : xs = []
  · subst hx
    cases rx
    cases ry
    obtain ⟨its, r1, p1, _⟩ := I.tuple ha
    obtain ⟨its2, r2, p2, _⟩ := I.tuple hb
    cases r1
    obtain ⟨⟨oc, od, dt, sl⟩, e1, c1, n, d1⟩ := p1
    obtain ⟨⟨oc2, od2, dt2, sl2⟩, e2, c2, n2, d2⟩ := p2
    simp only at c1 d1 c2 d2
    subst c1 d1 c2 d2
    exact concat_meets ⟨_, e1, rfl⟩ ⟨_, e2, rfl⟩ noFill_tuple_add seq_tuple_add PySem.F.slot_tuple_add PySem.F.entry_tuple_add (PySem.F.args_tuple_add_2 _ _)
      (addE a b #[] its2.toArray n n2 od od2 sl sl2 rfl) ⟨e1, e2, ⟨.ref b, H, I, rfl, q1 rfl⟩⟩
  · exact op_catT pins s σ H (.ref a) (.ref b) v u Q I rx ry ⟨a, b, xs, ys, rfl, rfl, ha, hb, hx, hz, q2, fun _ p np => q3 p np⟩
end
section
variable {K : PySem.W.Frag} {G : Addr → Prop} {H : Hp}
theorem ImAll.dropt : ∀ {xs : List V} {ds : List PyData} (n : Nat), ImAll K G H xs ds → ImAll K G H (xs.drop n) (ds.drop n)
  | _, _, 0, r => r
  | _, _, _ + 1, .nil => .nil
  | _, _, n + 1, .cons _ t => ImAll.dropt n t
theorem ImAll.taket : ∀ {xs : List V} {ds : List PyData} (n : Nat), ImAll K G H xs ds → ImAll K G H (xs.take n) (ds.take n)
  | _, _, 0, _ => .nil
  | _, _, _ + 1, .nil => .nil
  | _, _, n + 1, .cons r t => .cons r (ImAll.taket n t)
theorem im_new {xs : List V} {ds : List PyData} {p : Addr} (np : H p = Option.none) (ia : ImAll K G H xs ds) : Im K (fun b => G b ∨ H b = Option.none) (upd H p (.tup xs)) (.ref p) (.tuple ds) :=
  .tup (.inr np) upd_same (Im.monoAll (fun b o _ e => same_upd np b o e) (fun _ g => .inl g) _ _ ia)
theorem im_cut {x : V} {ds es : List PyData} {lo hi : Option Int} {Q : VK} (iv : Im K G H x (.tuple ds)) (hc : ∀ xs : List V, ImAll K G H xs ds → ImAll K G H (cutV xs lo hi) es) (h : ∀ v H', Same H H' → (∀ b, G b ∨ H b = Option.none → G b ∨ H b = Option.none) → Im K (fun b => G b ∨ H b = Option.none) H' v (.tuple es) → Q v H') : rSlA K x lo hi H Q := by
  cases iv with
  | @tup a xs _ g e ia =>
  refine ⟨a, xs, rfl, SqT.of e, fun z => ?_, fun z p np => ?_⟩
  · have hw : cutV xs lo hi = xs := by
      unfold cutV
      rw [z.1, z.2, List.drop_zero, Nat.sub_zero, List.take_length]
    have := hc xs ia
    rw [hw] at this
    exact h _ H (Same.refl H) (fun _ q => q) (.tup (.inl g) e (Im.monoAll (fun _ _ _ e => e) (fun _ g => .inl g) _ _ this))
  · exact h _ _ (same_upd np) (fun _ q => q) (im_new np (hc xs ia))
theorem im_take {x : V} {ds : List PyData} {k : Nat} {Q : VK} (iv : Im K G H x (.tuple ds)) (hk : k ≤ ds.length) (h : ∀ v H', Same H H' → Im K (fun b => G b ∨ H b = Option.none) H' v (.tuple (ds.take k)) → Q v H') : rSlA K x Option.none (some (k : Int)) H Q :=
  im_cut iv (fun xs ia => by
    unfold cutV
    rw [HT.sIx_none, HT.sIx_nat, Nat.min_eq_left (by rw [ia.len]; exact hk), List.drop_zero, Nat.sub_zero]
    exact ImAll.taket _ ia) fun v H' s _ i => h v H' s i
theorem im_drop {x : V} {ds : List PyData} {k : Nat} {Q : VK} (iv : Im K G H x (.tuple ds)) (hk : k ≤ ds.length) (h : ∀ v H', Same H H' → Im K (fun b => G b ∨ H b = Option.none) H' v (.tuple (ds.drop k)) → Q v H') : rSlA K x (some (k : Int)) Option.none H Q :=
  im_cut iv (fun xs ia => by
    unfold cutV
    rw [HT.sIx_none, HT.sIx_nat, Nat.min_eq_left (by rw [ia.len]; exact hk), List.take_of_length_le (by rw [List.length_drop]; exact Nat.le_refl _)]
    exact ImAll.dropt _ ia) fun v H' s _ i => h v H' s i
theorem im_cat {x y : V} {ds es : List PyData} {Q : VK} (iv : Im K G H x (.tuple ds)) (iw : Im K G H y (.tuple es)) (hz : ds.length + es.length ≤ 1000) (h : ∀ v H', Same H H' → Im K (fun b => G b ∨ H b = Option.none) H' v (.tuple (ds ++ es)) → Q v H') : rCatA K x y H Q := by
  have w1 := Im.mono (G' := fun b => G b ∨ H b = Option.none) (fun _ _ _ e => e) (fun _ g => .inl g) _ _ iv
  have w2 := Im.mono (G' := fun b => G b ∨ H b = Option.none) (fun _ _ _ e => e) (fun _ g => .inl g) _ _ iw
  cases iv with
  | @tup a xs _ g e ia =>
  cases iw with
  | @tup b ys _ g2 e2 ib =>
  have l1 := ia.len
  have l2 := ib.len
  refine ⟨a, b, xs, ys, rfl, rfl, SqT.of e, SqT.of e2, small_of (by omega), fun z => ?_, fun z => ?_, fun p np => ?_⟩
  · subst z
    cases ia
    exact h _ H (Same.refl H) w2
  · subst z
    cases ib
    rw [List.append_nil] at h
    exact h _ H (Same.refl H) w1
  · exact h _ _ (same_upd np) (im_new np (ImAll.app ia ib))
end
end My
namespace My
open PySem PySem.Spec PyProof.Rows L2
/-! ### sorted by a def of the program that makes each item's key anew -/
def KeyCall (K : PySem.W.Frag) (sp : Sp) (H : Hp) (x : V) (d : PyData) : Prop := ∀ H1, Same H H1 → ∀ Q : VK, (∀ v H2, Same H1 H2 → Dp K H2 v d → Q v H2) → sp [x] H1 Q (fun _ _ _ => False)
def rSortF (K : PySem.W.Frag) (f : Addr) (sp : Sp) : List V → List V → Hp → VK → Prop := fun vs zs H Q =>
  ∃ (β : Type) (a : Addr) (xs : List V) (bs : List β) (k : β → PyData) (R : V → β → Prop), vs = [.ref a] ∧ zs = [.ref f] ∧ SqL K H a xs ∧ PySem.W.EachIs R xs bs ∧ (∀ x b, R x b → b ∈ bs → KeyCall K sp H x (k b)) ∧
    PySem.W.AllAlike (bs.map k) ∧ PySem.W.Sortable (bs.map k) ∧ (∀ b ∈ bs, (k b).depth ≤ 8) ∧
    ∀ H' p ys, Same H H' → H p = Option.none → H' p = some (.lst ys) → PySem.W.EachIs R ys (bs.mergeSort (PySem.W.dataLe false k)) → Q (.ref p) H'
section
variable {K : PySem.W.Frag} {H : Hp}
theorem room_2 {j : Nat} {A : Around} (r : Room (j + 1) A) : Room j A.in1.in1 :=
  ⟨r.hd, by have := r.dp; show A.depth + 3 * j + 5 < recursionLimit; omega, by have := r.un; show A.units + 1 + 1 + 16 * j + 200 < cLine; omega⟩
theorem same_free {H H' : Hp} (h : Same H H') {a : Addr} (e : H' a = Option.none) : H a = Option.none := h.free e
theorem outs {β : Type} {R : V → β → Prop} : ∀ {out : List Value} {cs : List β}, PySem.W.EachIs (fun u b => ∃ x, R x b ∧ RelV x u) out cs → ∃ ys, Vals ys out ∧ PySem.W.EachIs R ys cs
  | _, _, .nil => ⟨[], .nil, .nil⟩
  | _, _, .cons ⟨x, h1, h2⟩ t => by
    obtain ⟨ys, i1, i2⟩ := outs t
    exact ⟨x :: ys, .cons h2 i1, .cons h1 i2⟩
theorem ins {β : Type} {R : V → β → Prop} : ∀ {xs : List V} {us : List Value} {bs : List β}, PySem.W.EachIs R xs bs → Vals xs us → PySem.W.EachIs (fun u b => ∃ x, R x b ∧ RelV x u) us bs
  | _, _, _, .nil, r => by cases r; exact .nil
  | _, _, _, .cons h1 t, r => by
    cases r with
    | cons r1 r2 => exact .cons ⟨_, h1, r1⟩ (ins t r2)
theorem each_at {β : Type} {R : V → β → Prop} : ∀ {xs : List V} {bs : List β} {i : Nat} {x : V}, PySem.W.EachIs R xs bs → xs[i]? = some x → ∃ b, bs[i]? = some b ∧ R x b
  | _, _, _, _, .nil, e => by simp at e
  | _, _, 0, _, .cons h1 _, e => by simp at e; subst e; exact ⟨_, rfl, h1⟩
  | _, _, i + 1, _, .cons _ t, e => by
    obtain ⟨b, e1, e2⟩ := each_at (i := i) t (by simpa using e)
    exact ⟨b, by simpa using e1, e2⟩
theorem vals_at : ∀ {xs : List V} {us : List Value} {i : Nat} {u : Value}, Vals xs us → us[i]? = some u → ∃ x, xs[i]? = some x ∧ RelV x u
  | _, _, _, _, .nil, e => by simp at e
  | _, _, 0, _, .cons h1 _, e => by simp at e; subst e; exact ⟨_, rfl, h1⟩
  | _, _, i + 1, _, .cons _ t, e => by
    obtain ⟨b, e1, e2⟩ := vals_at (i := i) t (by simpa using e)
    exact ⟨b, by simpa using e1, e2⟩
theorem vals_snoc : ∀ {xs : List V} {us : List Value} {x : V} {u : Value}, Vals xs us → RelV x u → Vals (xs ++ [x]) (us ++ [u])
  | _, _, _, _, .nil, r => .cons r .nil
  | _, _, _, _, .cons q t, r => .cons q (vals_snoc t r)
theorem dpAll_snoc : ∀ {vs : List V} {ds : List PyData} {v : V} {d : PyData}, DpAll K H vs ds → Dp K H v d → DpAll K H (vs ++ [v]) (ds ++ [d])
  | _, _, _, _, .nil, r => .cons r .nil
  | _, _, _, _, .cons q t, r => .cons q (dpAll_snoc t r)
end
section
variable {X : Cx} {pins : List (Addr × Obj)} {σ : L2.St} {H : Hp} {s : Shared}
theorem each_reads (I : Inv X pins σ H s) : ∀ {ks : List V} {us : List Value} {ds : List PyData}, DpAll X.K H ks ds → Vals ks us → PySem.W.EachIs (fun v d => ∃ as, Reads s.heap v d as) us ds
  | _, _, _, .nil, r => by cases r; exact .nil
  | _, _, _, .cons h1 t, r => by
    cases r with
    | cons r1 r2 => exact .cons (Dp.reads I _ _ _ h1 r1) (each_reads I t r2)
/-- an address that is new in the heap is none of the frame's -/
theorem far (I : Inv X pins σ H s) {c : Addr} (hc : s.heap.objs.size ≤ c) : c ≠ X.env.locals ∧ c ∉ X.fs ∧ c ∉ frs X.stack ∧ X.s_0.heap.objs.size ≤ c ∧ (∀ x d, X.env.cells.lookup x = some d → d ≠ c) ∧ (∀ p ∈ X.pn ++ pins, p.1 ≠ c) := by
  have h1 : c ≠ X.env.locals := fun z => by
    rw [z] at hc
    exact Nat.lt_irrefl _ (Nat.lt_of_lt_of_le I.lt hc)
  refine ⟨h1, I.nofs hc, fun z => ?_, Nat.le_trans I.sz hc, fun x d e z => ?_, fun p hp z => ?_⟩
  · rcases List.mem_cons.mp (I.stkSub c z) with e | e
    · exact h1 e
    · exact I.nofs hc e
  · obtain ⟨v, o, ho, _⟩ := I.cell x d e
    rw [z] at ho
    exact Nat.lt_irrefl _ (Nat.lt_of_lt_of_le (Heap.lt_size ho) hc)
  · have e := (I.pin p hp).1
    rw [z] at e
    exact Nat.lt_irrefl _ (Nat.lt_of_lt_of_le (Heap.lt_size e) hc)
variable {j : Nat} {f : Addr} {fd : FuncData} {ps : List Str} {sp : Sp}
/-- the key's def runs within the sort -/
theorem key_runs (F : FnOk X.prog X.w X.K X.mg X.base CX0 j f fd ps sp) (hr : Room j X.A.in1.in1) (hb : Binds X.K fd ps []) (I : Inv X pins σ H s) {H0 : Hp} (h0 : Same H0 H) {x : V} {u : Value} {d : PyData} (kc : KeyCall X.K sp H0 x d) (r : RelV x u) :
    wpAny (model X.prog X.w) X.A.in1.in1 (call (.ref f) [u]) (fun v s' => ∃ w H2, Inv X pins σ H2 s' ∧ Same H H2 ∧ Dp X.K H2 w d ∧ RelV w v ∧ Un (frs X.stack) [] H H2 s.heap s'.heap) (fun _ _ => False) s := by
  have q : sp [x] H (fun w H2 => Same H H2 ∧ Dp X.K H2 w d) (fun _ _ _ => False) := kc H h0 _ fun v H2 e1 e2 => ⟨e1, e2⟩
  have r1 : Vals [x] [u] := .cons r .nil
  have hl : ([u] ++ ([] : List Value)).length = ps.length := by
    rw [List.append_nil, ← r1.length]
    exact F.len _ _ _ _ q
  have bt := hb s [u] I.kIn hl
  rw [List.append_nil] at bt
  refine wpAny_call (codeAny_mono (F.run X.A.in1.in1 X.stack s H ⟨[u], []⟩ [u] [x] _ _ hr I.env0.in1.in1 bt r1 q) fun res s' hq => ?_)
  cases res with
  | error e => exact False.elim hq
  | ok fl =>
    cases fl with
    | ret v =>
      obtain ⟨w, H2, os, bare, un, hok, rr, q1, q2⟩ := hq
      obtain ⟨v', H2', I2, _⟩ := I.after (Q := fun _ _ => True) (u := v) ⟨w, H2, os, bare, un, hok, rr, trivial⟩
      have hI : Inv X pins σ H2 s' := I.call' os un hok bare (fun b z => nomatch z)
      exact ⟨w, H2, hI, q1, q2, rr, un⟩
    | next => exact False.elim hq
    | brk => exact False.elim hq
    | cont => exact False.elim hq
end
section
variable {X : Cx} {pins : List (Addr × Obj)} {σ : L2.St} {H : Hp} {s : Shared} {j : Nat} {f : Addr} {fd : FuncData} {ps : List Str} {sp : Sp} {β : Type}
/-- what stands while the keys are made: the keys' list and the emptied list are nobody's -/
structure Keying (X : Cx) (pins : List (Addr × Obj)) (σ : L2.St) (H : Hp) (kS a : Addr) (e1 : Nat) (kz : List PyData) (s' : Shared) (H' : Hp) (kA : Array Value) (e : Nat) (ks : List V) : Prop where
  inv : Inv X pins σ H' s'
  same : Same H H'
  atS : s'.heap.get? kS = some (seqObj "list" kA e)
  atA : s'.heap.get? a = some (seqObj "list" #[] e1)
  nS : H' kS = Option.none
  nA : H' a = Option.none
  vals : Vals ks kA.toList
  data : DpAll X.K H' ks kz
theorem sort_keyed (F : FnOk X.prog X.w X.K X.mg X.base CX0 j f fd ps sp) (hr : Room j X.A.in1.in1) (hb : Binds X.K fd ps []) (hu : X.A.units + 64 < cLine) {xs : List V} {us : List Value} {bs : List β} {k : β → PyData} {R : V → β → Prop} {Q : VK} {E : Value → Shared → Prop} {s1 : Shared} {a kS : Addr} {e0 : Nat}
    (I : Inv X pins σ H s) (fA : s.heap.objs.size ≤ a) (fS : s.heap.objs.size ≤ kS) (ne : kS ≠ a) (I1 : Inv X pins σ H s1) (atA : s1.heap.get? a = some (seqObj "list" #[] e0)) (atS : s1.heap.get? kS = some (seqObj "list" #[] 0))
    (rv : Vals xs us) (he : PySem.W.EachIs R xs bs) (hc : ∀ x b, R x b → b ∈ bs → KeyCall X.K sp H x (k b)) (hal : PySem.W.AllAlike (bs.map k)) (hso : PySem.W.Sortable (bs.map k)) (hdp : ∀ b ∈ bs, (k b).depth ≤ 8) (hz : xs.length ≤ sizeLine)
    (q : ∀ H' p ys, Same H H' → H p = Option.none → H' p = some (.lst ys) → PySem.W.EachIs R ys (bs.mergeSort (PySem.W.dataLe false k)) → Q (.ref p) H') :
    wpAny (model X.prog X.w) X.A.in1.in1 (ksk_rest a (.ref f) false us.toArray e0 (.ref kS)) (fun fin s' => fin = .done (.ret .none) ∧ EP X pins σ Q (.ref a) s') E s1 := by
  have fa := far I fA
  have fs := far I fS
  have nHa : H a = Option.none := I.hok.fresh fA
  have nHs : H kS = Option.none := I.hok.fresh fS
  have lxs : xs.length = us.length := rv.length
  have lbs : xs.length = bs.length := he.length
  unfold ksk_rest
  refine wpAny_bind (wpAny_rule ?_)
  rw [List.forIn_toArray]
  refine wpAny_bind (ksk_fold (fun i s' => ∃ H' kA e ks, Keying X pins σ H kS a e0 ((bs.take i).map k) s' H' kA e ks) us 0 s1 ⟨H, #[], 0, [], I1, Same.refl H, atS, atA, nHs, nHa, .nil, by rw [List.take_zero]; exact .nil⟩ ?turn ?fin)
  case turn =>
    rintro i u s2 hi ⟨H2, kA, e, ks, Y⟩
    simp only [Nat.zero_add] at Y ⊢
    obtain ⟨x, hx, rx⟩ := vals_at rv hi
    obtain ⟨b, hbi, hR⟩ := each_at he hx
    have mb : b ∈ bs := List.mem_of_getElem? hbi
    have lk : kA.size = (bs.take i).length := by
      have l1 := Y.vals.length
      have l2 := DpAll.len Y.data
      rw [List.length_map] at l2
      rw [← Array.length_toList]
      omega
    have lk2 : kA.size ≤ sizeLine := by
      rw [lk, List.length_take]
      omega
    have li : kA.size < sizeLine := by
      have := (List.getElem?_eq_some_iff.mp hbi).1
      rw [lk, List.length_take]
      omega
    refine wpAny_bind (wpAny_attempt (wpAny_mono (key_runs F hr hb Y.inv Y.same (hc x b hR mb) rx) (fun v s3 hv => ?_) fun _ _ z => z.elim))
    obtain ⟨w, H3, I3, s23, dw, rw3, un⟩ := hv
    try dsimp only
    have at3 : s3.heap.get? kS = some (seqObj "list" kA e) := un.keep kS _ Y.atS Y.nS fs.2.2.1 (fun z => nomatch z)
    have at3a : s3.heap.get? a = some (seqObj "list" #[] e0) := un.keep a _ Y.atA Y.nA fa.2.2.1 (fun z => nomatch z)
    have n3 : H3 kS = Option.none := un.free kS _ Y.atS Y.nS (fun z => nomatch z)
    have n3a : H3 a = Option.none := un.free a _ Y.atA Y.nA (fun z => nomatch z)
    have sb := Heap.SameBut.update s3.heap kS (Obj.mapSeq (·.push v))
    obtain ⟨c2, hc2⟩ : ∃ c2, (s3.heap.update kS (Obj.mapSeq (·.push v))).get? kS = some (seqObj "list" (kA.push v) c2) := ⟨_, get?_update_seq at3 (·.push v)⟩
    refine wpAny_bind (listUpdate_at at3 rfl ?_ lk2 (by show (kA.push v).size ≤ sizeLine + 1; rw [Array.size_push]; omega))
    refine wpAny_pure ⟨rfl, H3, kA.push v, c2, ks ++ [w], ?_⟩
    refine ⟨I3.turned (t' := s3.toks) (it := kS) (fun b o hb e => (sb.2 b hb).trans e) n3 fs.1 (.inr fs.2.2.2.1) fs.2.2.2.2.1 fs.2.2.2.2.2, Y.same.trans s23, hc2, (sb.2 a ne.symm).trans at3a, n3, n3a, ?_, ?_⟩
    · rw [Array.toList_push]
      exact vals_snoc Y.vals rw3
    · rw [List.take_add_one, hbi, List.map_append]
      exact dpAll_snoc (dp_sameAll s23 _ _ Y.data) dw
  case fin =>
    rintro s2 ⟨H2, kA, e, ks, Y⟩
    rw [Nat.zero_add, List.take_of_length_le (by omega)] at Y
    have er := each_reads Y.inv Y.data Y.vals
    have lk : kA.size = us.length := by
      have l1 := Y.vals.length
      have l2 := DpAll.len Y.data
      rw [List.length_map] at l2
      rw [← Array.length_toList]
      omega
    refine wpAny_bind (listItems_at Y.atS rfl ?_)
    have S := PySem.W.SortsAt.data (prog := X.prog) (w := X.w) (A := X.A.in1.in1) (s := s2) er hal hso (fun d hd => by
      obtain ⟨b, hb, rfl⟩ := List.mem_map.mp hd
      have := hdp b hb
      show X.A.units + 1 + 1 + (k b).depth < cLine
      omega)
    refine PySem.W.keyH_end (κ := PySem.W.dataKind s2.heap (bs.map k)) (b := false) (h₁ := PySem.W.hideAll s2.heap [kS]) (fun b o hb e => PySem.W.of_hideAll _ e) (PySem.W.hideAll_none _ (.head _)) Y.atS Y.atA ne S lk (by omega) fun h3 tk3 c3 kp3 at3 => ⟨rfl, ?_⟩
    have ko : PySem.W.KeyedOut false (bs.map k) us (PySem.W.sortVals (PySem.W.dataKind s2.heap (bs.map k)) false kA.toList us) := ⟨s2.heap, kA.toList, hal, rfl, er⟩
    obtain ⟨ys, vy, ey⟩ := outs (PySem.W.keyedOut_each k ko (ins he rv))
    have ly : ys.length ≤ sizeLine := by
      rw [ey.length, (List.mergeSort_perm _ _).length_eq]
      omega
    have kp : ∀ b o, b ≠ a → b ≠ kS → s2.heap.get? b = some o → h3.get? b = some o := fun b o n1 n2 e => kp3 b o n1 (PySem.W.hideAll_get _ e fun z => by
      rcases List.mem_singleton.mp z with rfl
      exact n2 rfl)
    have na : ∀ b u, H2 b = some u → b ≠ a := fun b u e z => by rw [z, Y.nA] at e; cases e
    have ns : ∀ b u, H2 b = some u → b ≠ kS := fun b u e z => by rw [z, Y.nS] at e; cases e
    refine ⟨.ref a, upd H2 a (.lst ys), ?_, rfl, q _ _ ys (Y.same.trans (same_upd Y.nA)) nHa upd_same ey⟩
    refine Y.inv.step (g' := s2.gens) (d' := s2.drawn) (ch := [kS, a]) (fun b hb => ?_) (fun b o _ _ hc e _ => kp b o (fun z => hc (by simp [z])) (fun z => hc (by simp [z])) e) (fun b o _ _ hc e _ => ⟨o.slots, kp b o (fun z => hc (by simp [z])) (fun z => hc (by simp [z])) e⟩)
      (fun b o hc _ n => by rw [upd_ne (fun z => hc (by simp [z]))]; exact n) (fun b o hc e => ⟨o, kp b o (fun z => hc (by simp [z])) (fun z => hc (by simp [z])) e⟩) (fun b xs e => by rw [upd_ne (na _ _ e)]; exact e) (fun b o u e => by rw [upd_ne (na _ _ e)]; exact e)
      (fun b ps e => ⟨#[], by rw [upd_ne (na _ _ e), e]; simp⟩) (fun m hm => ?_) (fun b u e => ?_) Y.inv.bare
    · have z : b = kS ∨ b = a := by simpa using hb
      rcases z with rfl | rfl
      · exact ⟨.inr fs.2.2.2.1, fs.1, fs.2.2.2.2.1, fs.2.2.2.2.2⟩
      · exact ⟨.inr fa.2.2.2.1, fa.1, fa.2.2.2.2.1, fa.2.2.2.2.2⟩
    · obtain ⟨o, es, ep, ho, r⟩ := hm
      exact ⟨o, es, ep, kp _ o fa.1.symm fs.1.symm ho, r⟩
    · by_cases hba : b = a
      · subst hba
        rw [upd_same] at e
        cases e
        exact ⟨ly, _, c3, vy, at3⟩
      · rw [upd_ne hba] at e
        refine (Y.inv.hok b u e).stay (fun c v hc g => ?_) (fun c g => by rw [upd_ne (na _ _ g)]; exact g) fun c xs g => by rw [upd_ne (na _ _ g)]; exact g
        rcases hc with rfl | hc
        · exact kp _ _ hba (ns _ _ e) g
        · exact kp _ _ (na _ _ hc) (ns _ _ hc) g
/-- sorted(xs, key=f) -/
theorem cr_sortF (F : FnOk X.prog X.w X.K X.mg X.base CX0 j f fd ps sp) (hr : Room (j + 1) X.A) (hb : Binds X.K fd ps []) : CallRK X (.builtin "sorted") [Str.ofString "key"] (rSortF X.K f sp) := by
  intro pins s σ H vs zs us ws Q I r rz h
  obtain ⟨β, a, xs, bs, k, R, rfl, rfl, hs, he, hc, hal, hso, hdp, q⟩ := h
  obtain rfl := Vals.ref1 r
  obtain ⟨w1, rfl, e1⟩ := vals1 rz
  obtain rfl : w1 = Value.ref f := e1
  obtain ⟨its, rv, hl, hz⟩ := I.list hs
  have hi : its.length ≤ sizeLine := by rw [← rv.length]; exact hz
  refine PySem.W.sorted_of_sort (vs := its) hl.isList hi (ksk_s1 _ _) (fun _ => ksk_l1 _ _) fun E' => ?_
  have ho := PySem.W.copyHeap_at s.heap its
  have hlt : s.heap.objs.size + 1 < (PySem.W.copyHeap s.heap its).objs.size := Heap.lt_size ho
  show wpAny _ _ (ksk_tree (s.heap.objs.size + 1) (.ref f) false) _ _ _
  obtain ⟨e0, ho1⟩ : ∃ e0, ((PySem.W.copyHeap s.heap its).update (s.heap.objs.size + 1) (Obj.mapSeq fun _ => (#[] : Array Value))).get? (s.heap.objs.size + 1) = some (seqObj "list" #[] e0) := ⟨_, get?_update_seq ho fun _ => #[]⟩
  unfold ksk_tree
  refine wpAny_bind (listItems_at ho rfl ?_)
  refine wpAny_bind (listUpdate_at ho rfl ?_ (by rw [List.size_toArray]; exact hi) (Nat.zero_le _))
  refine wpAny_bind (seqEpoch_at ho1 rfl ?_)
  refine wpAny_bind (wpAny_newTuple ?_ (by show its.length ≤ _; exact hi))
  refine wpAny_bind (wpAny_newList ?_ (Nat.zero_le _))
  refine wpAny_holding ?_
  have sz : (((PySem.W.copyHeap s.heap its).update (s.heap.objs.size + 1) (Obj.mapSeq fun _ => (#[] : Array Value))).push (seqObj "tuple" its.toArray 0)).objs.size = (PySem.W.copyHeap s.heap its).objs.size + 1 := by rw [size_push', Heap.size_update]
  have keep : ∀ b o, s.heap.get? b = some o → ((((PySem.W.copyHeap s.heap its).update (s.heap.objs.size + 1) (Obj.mapSeq fun _ => (#[] : Array Value))).push (seqObj "tuple" its.toArray 0)).push (seqObj "list" #[] 0)).get? b = some o := fun b o e => by
    have hb : b < s.heap.objs.size := Heap.lt_size e
    exact Heap.get?_push_of_some _ (Heap.get?_push_of_some _ ((Heap.get?_update_ne _ _ _ _ (Nat.ne_of_lt (Nat.lt_succ_of_lt hb))).trans (PySem.W.copyHeap_old e)))
  have big : s.heap.objs.size + 1 < (((PySem.W.copyHeap s.heap its).update (s.heap.objs.size + 1) (Obj.mapSeq fun _ => (#[] : Array Value))).push (seqObj "tuple" its.toArray 0)).objs.size := by
    rw [sz]
    omega
  refine sort_keyed F (room_2 hr) hb (by have := hr.un; omega) I (Nat.le_succ _) (Nat.le_of_lt (Nat.lt_of_succ_lt big)) (Nat.ne_of_gt big) (I.kept (t' := s.toks) keep) (Heap.get?_push_of_some _ (Heap.get?_push_of_some _ ho1)) (Heap.get?_push_size _ rfl) rv he hc hal hso hdp hz q
/-- l.count(x), data -/
def rCountD (K : PySem.W.Frag) : V → List V → Hp → VK → Prop := fun x xs H Q => ∃ (a : Addr) (y : V) (d : PyData) (ds : List PyData), x = V.ref a ∧ xs = [y] ∧ Dp K H (V.ref a) (.list ds) ∧ Dp K H y d ∧ PyData.plainAll ds = true ∧ d.plain = true ∧ d.depth ≤ 32 ∧ Q (.int ((ds.countP fun z => PyData.eqv z d : Nat) : Int)) H
theorem mt_countD (hu : X.A.units + 64 < cLine) : MtR X "list.count" (rCountD X.K) := by
  intro pins s σ H x xs v us Q I rx rxs h
  obtain ⟨a, y, d, ds, rfl, rfl, hl, hy, pl, pd, hd, q⟩ := h
  cases rx
  obtain ⟨uy, rfl, ry⟩ := vals1 rxs
  obtain ⟨cs, r1⟩ := Dp.reads I d y uy hy ry
  cases hl with
  | lst hs ha =>
    obtain ⟨its, rv, hp, hlen⟩ := I.list hs
    obtain ⟨as, r2⟩ := Dp.readsAll I ds _ its ha rv
    refine PySem.SeqAt.count_list_data hp.isList (show ReadsAll s.heap its.toArray.toList ds as from r2) r1 pl pd (by
      have : min (PyData.depthAll ds) d.depth ≤ d.depth := Nat.min_le_right _ _
      omega) ⟨.int _, H, I.tok _, ⟨_, rfl⟩, q⟩
end
end My
namespace My
open PySem PySem.Spec PyProof.Rows L2
/-! ### one step of a reading each -/
section
variable {σ : L2.St} {H : Hp} {Q : VK} {QA : List V → Hp → Prop} {QT : Bool → Hp → Prop} {te ta tb : TE} {tr tk : TA} {t u : TS} {c d : TT} {D : Ends} {v x y : V} {i j : Int} {g : TG} {K : PySem.W.Frag}
theorem st_of {N : List Str} {vs : List V} (e : L2.start N vs = σ) (h : t D σ H) : t D (L2.start N vs) H := e ▸ h
theorem g_var {n : Nat} (e : σ[n]? = some (some v)) (h : Q v H) : tVar n σ H Q := ⟨v, e, h⟩
theorem g_c (h : Q v H) : tC v σ H Q := h
theorem g_nil (h : QA [] H) : tNil σ H QA := h
theorem g_cons (h : ta σ H fun x H1 => tr σ H1 fun xs H2 => QA (x :: xs) H2) : tCons ta tr σ H QA := h
theorem g_op {r : R2} (h : ta σ H fun x H1 => tb σ H1 fun y H2 => r x y H2 Q) : tOp r ta tb σ H Q := h
theorem g_un {r : V → Hp → VK → Prop} (h : ta σ H fun x H1 => r x H1 Q) : tUn r ta σ H Q := h
theorem g_i0 {f : Int → Int → V} (h : Q (f i j) H) : rI0 f (.int i) (.int j) H Q := ⟨i, j, rfl, rfl, h⟩
theorem g_i1 {C : Int → Int → Prop} {f : Int → Int → V} (hc : C i j) (h : Q (f i j) H) : rI C f (.int i) (.int j) H Q := ⟨i, j, rfl, rfl, hc, h⟩
theorem g_iu {f : Int → V} (h : Q (f i) H) : rU f (.int i) H Q := ⟨i, rfl, h⟩
theorem dec_i : decide (V.int i = V.int j) = decide (i = j) := by
  by_cases e : i = j
  · rw [e]; simp
  · rw [decide_eq_false e, decide_eq_false fun z => e (V.int.inj z)]
theorem dec_s {a b : Str} : decide (V.str a = V.str b) = decide (a = b) := by
  by_cases e : a = b
  · rw [e]; simp
  · rw [decide_eq_false e, decide_eq_false fun z => e (V.str.inj z)]
theorem g_eqi (h : Q (.bl (decide (i = j))) H) : rEq (.int i) (.int j) H Q := ⟨rfl, by rw [dec_i]; exact h⟩
theorem g_nei (h : Q (.bl (!decide (i = j))) H) : rNe (.int i) (.int j) H Q := ⟨rfl, by rw [dec_i]; exact h⟩
theorem g_eqs {a b : Str} (h : Q (.bl (decide (a = b))) H) : rEq (.str a) (.str b) H Q := ⟨rfl, by rw [dec_s]; exact h⟩
theorem g_nes {a b : Str} (h : Q (.bl (!decide (a = b))) H) : rNe (.str a) (.str b) H Q := ⟨rfl, by rw [dec_s]; exact h⟩
theorem g_bl {b : Bool} {P : Bool → Prop} (h : P b) : ∃ k, V.bl b = V.bl k ∧ P k := ⟨b, rfl, h⟩
theorem g_in {P : Int → Prop} (h : P i) : ∃ k, V.int i = V.int k ∧ P k := ⟨i, rfl, h⟩
theorem g_test (h : te σ H fun x H' => ∃ k, x = .bl k ∧ QT k H') : tTest te σ H QT := h
theorem g_b (h : te σ H fun x H' => ∃ k, x = .bl k ∧ QT k H') : tB te σ H QT := h
theorem g_not (h : c σ H fun b H1 => QT (!b) H1) : tNot c σ H QT := h
theorem g_and (h : c σ H fun b H1 => if b = true then d σ H1 QT else QT false H1) : tAnd c d σ H QT := h
theorem g_or (h : c σ H fun b H1 => if b = true then QT true H1 else d σ H1 QT) : tOr c d σ H QT := h
theorem g_andV (h : ta σ H fun x H1 => ∃ k, x = .bl k ∧ if k = true then tb σ H1 Q else Q (.bl false) H1) : tAndV ta tb σ H Q := h
theorem g_orV (h : ta σ H fun x H1 => ∃ k, x = .bl k ∧ if k = true then Q (.bl true) H1 else tb σ H1 Q) : tOrV ta tb σ H Q := h
theorem g_notV (h : ta σ H fun x H1 => ∃ k, x = .bl k ∧ Q (.bl (!k)) H1) : tNotV ta σ H Q := h
theorem g_if (h : c σ H fun b H1 => if b = true then ta σ H1 Q else tb σ H1 Q) : tIf c ta tb σ H Q := h
theorem g_next (h : D.nx σ H) : tNext D σ H := h
theorem g_seq (h : t { D with nx := u D } σ H) : tSeq t u D σ H := h
theorem g_brk (h : D.bk σ H) : tBreak D σ H := h
theorem g_cont (h : D.ct σ H) : tCont D σ H := h
theorem g_drop (h : te σ H fun _ H1 => D.nx σ H1) : tDrop te D σ H := h
theorem g_ret (h : te σ H D.rt) : tRet te D σ H := h
theorem g_retN (h : D.rt .non H) : tRetN D σ H := h
theorem g_ifS (h : c σ H fun b H1 => if b = true then t D σ H1 else u D σ H1) : tIfS c t u D σ H := h
theorem g_asg (h : te σ H fun x H1 => g x σ H1 D.nx) : tAsg te g D σ H := h
theorem g_par {m n : Nat} (h : tr σ H fun vs H1 => ∃ v w, vs = [v, w] ∧ D.nx ((σ.set m (some v)).set n (some w)) H1) : tPar m n tr D σ H := h
theorem g_two {P : V → V → Prop} (h : P x y) : ∃ a b, [x, y] = [a, b] ∧ P a b := ⟨x, y, rfl, h⟩
theorem g_aug {n : Nat} {ti : TIp} (e : σ[n]? = some (some x)) (h : te σ H fun y H1 => ti x y H1 fun z H2 => D.nx (σ.set n (some z)) H2) : tAug n te ti D σ H := ⟨x, e, h⟩
theorem g_call {sp : Sp} {dvs : List V} {E : XK} (h : tr σ H fun vs H1 => sp (vs ++ dvs) H1 Q E) : tCall sp dvs E tr σ H Q := h
theorem g_callN {n m : Nat} {sp : Sp} {gV : List V → List V → List V} {E : XK} (h : tr σ H fun vs H1 => tk σ H1 fun zs H2 => vs.length = n ∧ zs.length = m ∧ sp (gV vs zs) H2 Q E) : tCallN n m sp gV E tr tk σ H Q := h
theorem g_kw {r : List V → List V → Hp → VK → Prop} (h : tr σ H fun vs H1 => tk σ H1 fun zs H2 => r vs zs H2 Q) : tCKw r tr tk σ H Q := h
theorem g_cb {r : List V → Hp → VK → Prop} (h : tr σ H fun vs H1 => r vs H1 Q) : tCB r tr σ H Q := h
theorem g_tup (h : tr σ H fun xs H1 => xs.length ≤ sizeLine ∧ ∀ p, H1 p = Option.none → Q (.ref p) (upd H1 p (.tup xs))) : tTup tr σ H Q := h
theorem g_lst (h : tr σ H fun xs H1 => xs.length ≤ sizeLine ∧ ∀ p, H1 p = Option.none → Q (.ref p) (upd H1 p (.lst xs))) : tLst tr σ H Q := h
theorem g_sl {r : V → Option Int → Option Int → Hp → VK → Prop} {tl th : TO} (h : te σ H fun x H1 => tl σ H1 fun l H2 => th σ H2 fun u H3 => r x l u H3 Q) : tSl r te tl th σ H Q := h
theorem g_np {QO : Option Int → Hp → Prop} (h : QO Option.none H) : tNoPart σ H QO := h
theorem g_part {QO : Option Int → Hp → Prop} (h : te σ H fun x H1 => ∃ i, x = .int i ∧ QO (some i) H1) : tPart te σ H QO := h
theorem g_bm {T : String} {r : V → List V → Hp → VK → Prop} (h : te σ H fun x H1 => tyV K T x H1 ∧ tr σ H1 fun xs H2 => r x xs H2 Q) : tBM K T r te tr σ H Q := h
theorem g_bm0 {T : String} {r : V → List V → Hp → VK → Prop} (h : te σ H fun x H1 => tyV K T x H1 ∧ r x [] H1 Q) : tBM0 K T r te σ H Q := h
theorem g_rt {N : L2.St → Hp → Prop} {R : VK} {B C : L2.St → Hp → Prop} (h : R v H) : ({ nx := N, rt := R, bk := B, ct := C } : Ends).rt v H := h
theorem g_bk {N : L2.St → Hp → Prop} {R : VK} {B C : L2.St → Hp → Prop} (h : B σ H) : ({ nx := N, rt := R, bk := B, ct := C } : Ends).bk σ H := h
theorem g_ct {N : L2.St → Hp → Prop} {R : VK} {B C : L2.St → Hp → Prop} (h : C σ H) : ({ nx := N, rt := R, bk := B, ct := C } : Ends).ct σ H := h
theorem g_sub {to ti : TE} {ts : TSet} {QS : L2.St → Hp → Prop} (h : to σ H fun o H1 => ti σ H1 fun i H2 => ts o i v H2 fun H3 => QS σ H3) : gSub to ti ts v σ H QS := h
theorem g_isN {P : Bool → Prop} (h : P true) : P (decide (V.non = V.non)) := by rw [decide_eq_true rfl]; exact h
theorem seq_via {t u : TS} (P : L2.St → Hp → Prop) (hu : ∀ σ H, P σ H → u D σ H) (ht : (∀ σ H, P σ H → u D σ H) → t { D with nx := u D } σ H) : tSeq t u D σ H := ht hu
theorem ifs_via (P : Hp → Prop) (hu : ∀ H, P H → u D σ H) (hc : (∀ H, P H → u D σ H) → c σ H fun b H1 => if b = true then t D σ H1 else u D σ H1) : tIfS c t u D σ H := hc hu
theorem nx_via {t : TS} {N : L2.St → Hp → Prop} {R : VK} {B C : L2.St → Hp → Prop} (P : L2.St → Hp → Prop) (hu : ∀ σ H, P σ H → N σ H) (ht : (∀ σ H, P σ H → N σ H) → t { nx := N, rt := R, bk := B, ct := C } σ H) : t { nx := N, rt := R, bk := B, ct := C } σ H := ht hu
theorem iteNf {A B : Prop} (h : A) : if (!false) = true then A else B := h
theorem iteNt {A B : Prop} (h : B) : if (!true) = true then A else B := iteF h
theorem g_yes {QT : Bool → Hp → Prop} (h : QT true H) : tYes σ H QT := h
theorem nine {n : Int} (h0 : 0 ≤ n) (h : n ≤ 10 ^ 41) : n.natAbs < 2 ^ 9000 := Nat.lt_of_lt_of_le (show n.natAbs < 2 ^ 140 from Nat.lt_of_le_of_lt (show n.natAbs ≤ 10 ^ 41 by omega) (by decide)) (Nat.pow_le_pow_right (by decide) (by decide))
/-- a while by a measure -/
theorem while_m {tb : TS} (W : Nat → L2.St → Hp → Prop) (h0 : ∃ m, W m σ H) (hs : ∀ m σ H, W m σ H → c σ H fun b H1 => if b = true then ∃ N : L2.St → Hp → Prop, (∀ σ' H', N σ' H' → ∃ m', m' < m ∧ W m' σ' H') ∧ tb { D with nx := N, ct := N, bk := D.nx } σ H1 else D.nx σ H1) : tWhile c tb D σ H := ⟨W, h0, hs⟩
theorem while_n {tb : TS} {W : Nat → L2.St → Hp → Prop} {m : Nat} (h : tb { D with nx := fun σ' H' => ∃ m', m' < m ∧ W m' σ' H', ct := fun σ' H' => ∃ m', m' < m ∧ W m' σ' H', bk := D.nx } σ H) :
    ∃ N : L2.St → Hp → Prop, (∀ σ' H', N σ' H' → ∃ m', m' < m ∧ W m' σ' H') ∧ tb { D with nx := N, ct := N, bk := D.nx } σ H := ⟨_, fun _ _ z => z, h⟩
end
section
variable {K : PySem.W.Frag} {a p : Addr} {xs ys : List V} {H : Hp} {Q : VK} {v y : V} {j : Nat} {P : Prop} {D : Ends} {σ : L2.St} {g : TG} {tb : TS}
theorem ixL (hs : SqL K H p xs) (e : xs[j]? = some v) (q : Q v H) : rIxL K (.ref p) (.int (j : Int)) H Q := ⟨p, xs, _, v, rfl, rfl, hs, atI_nat e, q⟩
theorem ixT (hs : SqT K H p xs) (e : xs[j]? = some v) (q : Q v H) : rIxT K (.ref p) (.int (j : Int)) H Q := ⟨p, xs, _, v, rfl, rfl, hs, atI_nat e, q⟩
theorem tyl (hs : SqL K H p xs) (q : P) : tyV K "list" (.ref p) H ∧ P := ⟨.inl ⟨rfl, _, hs⟩, q⟩
theorem rap (e : H p = some (.lst xs)) (l : xs.length ≤ 100000) (q : Q .non (upd H p (.lst (xs ++ [y])))) : rAppend (.ref p) [y] H Q := ⟨p, xs, y, rfl, rfl, e, Nat.lt_of_le_of_lt l (by decide), q⟩
theorem lenL (hs : SqL K H p xs) (q : Q (.int (xs.length : Nat)) H) : ∃ p' ys, [V.ref p] = [V.ref p'] ∧ (SqL K H p' ys ∨ SqT K H p' ys) ∧ Q (.int (ys.length : Nat)) H := ⟨p, xs, rfl, .inl hs, q⟩
theorem lenT (hs : SqT K H p xs) (q : Q (.int (xs.length : Nat)) H) : ∃ p' ys, [V.ref p] = [V.ref p'] ∧ (SqL K H p' ys ∨ SqT K H p' ys) ∧ Q (.int (ys.length : Nat)) H := ⟨p, xs, rfl, .inr hs, q⟩
theorem slL {lo hi : Option Int} (hs : SqL K H p xs) (q : ∀ b, H b = Option.none → Q (.ref b) (upd H b (.lst (cutV xs lo hi)))) : rSlL K (.ref p) lo hi H Q := ⟨p, xs, rfl, hs, q⟩
theorem newN {ws : List V} {n : Nat} (e : ws.length = n) (l : n ≤ 100000) {P : Addr → Prop} (q : ∀ b, H b = Option.none → P b) : ws.length ≤ sizeLine ∧ ∀ b, H b = Option.none → P b := ⟨Nat.le_trans (Nat.le_of_eq e) (Nat.le_trans l (by decide)), q⟩
end
section
variable {σ : L2.St} {H : Hp} {D : Ends} {K : PySem.W.Frag} {wi : TI} {g : TG} {tb : TS} {tl : TE} {ta : TA} {R : It → Hp → Prop}
theorem g_for (h : wi σ H fun J H1 => ∃ W : Nat → Nat → L2.St → Hp → Prop, (∃ m, W 0 m σ H1) ∧ ∀ i m σ H, W i m σ H →
    (J.stop i H ∧ D.nx σ H) ∨ (J.go i H ∧ ∃ N : L2.St → Hp → Prop, (∀ σ' H', N σ' H' → ∃ m', m' < m ∧ W (i + 1) m' σ' H') ∧ ∀ x H', J.yld i H x H' → g x σ H' fun σ2 H2 => tb { D with nx := N, ct := N, bk := D.nx } σ2 H2)) : tFor wi g tb D σ H := h
theorem g_iL (h : tl σ H fun x H1 => ∃ a, x = .ref a ∧ (∃ xs, SqL K H1 a xs) ∧ R (Itl K a) H1) : iList K tl σ H R := h
theorem g_iT (h : tl σ H fun x H1 => ∃ a, x = .ref a ∧ (∃ xs, SqT K H1 a xs) ∧ R (Itt K a) H1) : iTup K tl σ H R := h
theorem g_iR1 (h : ta σ H fun vs H1 => ∃ j : Int, vs = [.int j] ∧ -(2 ^ 62) ≤ j ∧ j < 2 ^ 62 ∧ R (Itr 0 j.toNat) H1) : iRng1 ta σ H R := h
theorem g_iR2 (h : ta σ H fun vs H1 => ∃ i j : Int, vs = [.int i, .int j] ∧ (-(2 ^ 62) ≤ i ∧ i < 2 ^ 62 ∧ -(2 ^ 62) ≤ j ∧ j < 2 ^ 62) ∧ R (Itr i (j - i).toNat) H1) : iRng2 ta σ H R := h
theorem itR {j : Int} {n : Nat} (e : j.toNat = n) (l : n ≤ 1000000) (h0 : 0 ≤ j) (q : R (Itr 0 n) H) : ∃ j' : Int, [V.int j] = [V.int j'] ∧ -(2 ^ 62) ≤ j' ∧ j' < 2 ^ 62 ∧ R (Itr 0 j'.toNat) H := ⟨j, rfl, by omega, by omega, by rw [e]; exact q⟩
theorem itRn {j : Int} (h0 : j ≤ 0) (l : -1000000 ≤ j) (q : R (Itr 0 0) H) : ∃ j' : Int, [V.int j] = [V.int j'] ∧ -(2 ^ 62) ≤ j' ∧ j' < 2 ^ 62 ∧ R (Itr 0 j'.toNat) H := ⟨j, rfl, by omega, by omega, by rw [Int.toNat_of_nonpos h0]; exact q⟩
theorem itL {a : Addr} {xs : List V} (hs : SqL K H a xs) (q : R (Itl K a) H) : ∃ a', V.ref a = .ref a' ∧ (∃ xs, SqL K H a' xs) ∧ R (Itl K a') H := ⟨a, rfl, ⟨xs, hs⟩, q⟩
theorem itT {a : Addr} {xs : List V} (hs : SqT K H a xs) (q : R (Itt K a) H) : ∃ a', V.ref a = .ref a' ∧ (∃ xs, SqT K H a' xs) ∧ R (Itt K a') H := ⟨a, rfl, ⟨xs, hs⟩, q⟩
theorem g_iZ (h : ta σ H fun vs H1 => ∃ a b xs ys, vs = [.ref a, .ref b] ∧ ((SqL K H1 a xs ∧ SqL K H1 b ys ∧ R (Itz K a b) H1) ∨ (SqT K H1 a xs ∧ SqT K H1 b ys ∧ R (RZ.ItzT K a b) H1))) : RZ.iZipA K ta σ H R := h
theorem itZ {a b : Addr} {xs ys : List V} (h1 : SqL K H a xs) (h2 : SqL K H b ys) (q : R (Itz K a b) H) : ∃ a' b' xs ys, [V.ref a, V.ref b] = [V.ref a', .ref b'] ∧ ((SqL K H a' xs ∧ SqL K H b' ys ∧ R (Itz K a' b') H) ∨ (SqT K H a' xs ∧ SqT K H b' ys ∧ R (RZ.ItzT K a' b') H)) := ⟨a, b, xs, ys, rfl, .inl ⟨h1, h2, q⟩⟩
theorem cutV_to (xs : List V) (n : Nat) : cutV xs Option.none (some (n : Int)) = xs.take n := by
  unfold cutV
  rw [HT.sIx_none, HT.sIx_nat, List.drop_zero, Nat.sub_zero]
  rcases Nat.le_total n xs.length with h | h
  · rw [Nat.min_eq_left h]
  · rw [Nat.min_eq_right h, List.take_length, List.take_of_length_le h]
theorem cutV_from (xs : List V) (n : Nat) : cutV xs (some (n : Int)) Option.none = xs.drop n := by
  unfold cutV
  rw [HT.sIx_none, HT.sIx_nat, List.take_of_length_le (by rw [List.length_drop]; exact Nat.le_refl _)]
  rcases Nat.le_total n xs.length with h | h
  · rw [Nat.min_eq_left h]
  · rw [Nat.min_eq_right h, List.drop_length, List.drop_of_length_le h]
theorem cutV_last (xs : List V) : cutV xs Option.none (some (-1)) = xs.dropLast := by
  unfold cutV
  rw [HT.sIx_none, show HT.sIx xs.length xs.length (some (-1)) = xs.length - 1 from by
    show (if (-1 : Int) < 0 then ((-1 : Int) + (xs.length : Int)).toNat else min (-1 : Int).toNat xs.length) = _
    rw [if_pos (by decide)]
    omega, List.drop_zero, Nat.sub_zero, List.dropLast_eq_take]
theorem g_gtup {n : Nat} {gs : TGs} {QS : L2.St → Hp → Prop} {a : Addr} {xs : List V} (hs : SqT K H a xs) (l : xs.length = n) (q : gs xs σ H QS) : gTup K n gs (.ref a) σ H QS := ⟨a, xs, rfl, hs, l, q⟩
theorem g_gnil {QS : L2.St → Hp → Prop} (q : QS σ H) : gNil [] σ H QS := ⟨rfl, q⟩
theorem g_gcons {gs : TGs} {v : V} {r : List V} {QS : L2.St → Hp → Prop} (q : g v σ H fun σ' H' => gs r σ' H' QS) : gCons g gs (v :: r) σ H QS := ⟨v, r, rfl, q⟩
theorem g_lc {tt : TT} {te : TE} {vs : List Nat} {Q : VK} (h : wi σ H fun J H1 => ∀ D, H1 D = Option.none → ∃ W : Nat → Nat → Hp → Prop, (∃ m, W 0 m (upd H1 D (.lst []))) ∧ ∀ i m H, W i m H →
  (J.stop i H ∧ Q (.ref D) H) ∨ (J.go i H ∧ ∃ Nx : Hp → Prop, (∀ H', Nx H' → ∃ m', m' < m ∧ W (i + 1) m' H') ∧ ∀ x H', J.yld i H x H' → g x (wipe σ vs) H' fun σ2 H2 => wipe σ2 vs = wipe σ vs ∧ tt σ2 H2 fun b H3 =>
    if b = true then te σ2 H3 fun y H4 => ∃ acc, H4 D = some (.lst acc) ∧ acc.length < sizeLine ∧ Nx (upd H4 D (.lst (acc ++ [y]))) else Nx H3)) : tLc wi g tt te vs σ H Q := h
end
/-! ### data without lists stay where a list is changed -/
mutual
def noL : PyData → Bool
  | .list _ => false
  | .tuple ds => noLs ds
  | _ => true
def noLs : List PyData → Bool
  | [] => true
  | d :: ds => noL d && noLs ds
end
section
variable {K : PySem.W.Frag} {H H' : Hp} {D : Addr}
/-- all but the object at D, which is no tuple -/
structure ButL (D : Addr) (H H' : Hp) : Prop where
  keep : ∀ b o, b ≠ D → H b = some o → H' b = some o
  list : ∃ o, H D = some o ∧ (∀ xs, o ≠ .tup xs) ∧ ∀ u xs, o ≠ .frz u (.tup xs)
theorem ButL.sqT (h : ButL D H H') {a : Addr} {xs : List V} (q : SqT K H a xs) : SqT K H' a xs := by
  obtain ⟨o, e, n1, n2⟩ := h.list
  rcases q with (q | ⟨u, q⟩) | q
  · exact .inl (.inl (h.keep _ _ (fun z => by rw [z, e] at q; exact n1 _ (Option.some.inj q)) q))
  · exact .inl (.inr ⟨u, h.keep _ _ (fun z => by rw [z, e] at q; exact n2 _ _ (Option.some.inj q)) q⟩)
  · exact .inr q
theorem ButL.put {zs : List V} {o : HO} (e : H D = some (.lst zs)) : ButL D H (upd H D o) :=
  ⟨fun b u hb g => by rw [upd_ne hb]; exact g, ⟨_, e, (fun _ z => by cases z), (fun _ _ z => by cases z)⟩⟩
mutual
theorem dp_noL (h : ButL D H H') : ∀ (d : PyData) (v : V), noL d = true → Dp K H v d → Dp K H' v d
  | .none, _, _, r => by cases r; exact .non
  | .bool b, _, _, r => by cases r; exact .bl b
  | .int i, _, _, r => by cases r; exact .int i
  | .str x, _, _, r => by cases r; exact .str x
  | .list ds, _, n, _ => by simp [noL] at n
  | .tuple ds, _, n, r => by
    cases r with
    | tup g ha => exact .tup (h.sqT g) (dp_noLs h ds _ (by simpa [noL] using n) ha)
  | .dict _, _, _, r => by cases r
theorem dp_noLs (h : ButL D H H') : ∀ (ds : List PyData) (vs : List V), noLs ds = true → DpAll K H vs ds → DpAll K H' vs ds
  | [], _, _, r => by cases r; exact .nil
  | d :: ds, _, n, r => by
    cases r with
    | cons r1 r2 =>
      simp only [noLs, Bool.and_eq_true] at n
      exact .cons (dp_noL h d _ n.1 r1) (dp_noLs h ds _ n.2 r2)
end
theorem noLs_of {ds : List PyData} (h : ∀ d ∈ ds, noL d = true) : noLs ds = true := by
  induction ds with
  | nil => simp [noLs]
  | cons d ds ih => simp only [noLs, h d (.head _), ih fun e he => h e (.tail _ he), Bool.and_self]
theorem noLs_mem {ds : List PyData} (h : noLs ds = true) : ∀ d ∈ ds, noL d = true := by
  induction ds with
  | nil => exact fun d hd => nomatch hd
  | cons d ds ih =>
    simp only [noLs, Bool.and_eq_true] at h
    intro e he
    rcases List.mem_cons.mp he with rfl | he
    · exact h.1
    · exact ih h.2 e he
theorem dpAll_end : ∀ {vs : List V} {ds : List PyData} {v : V} {d : PyData}, DpAll K H vs ds → Dp K H v d → DpAll K H (vs ++ [v]) (ds ++ [d])
  | _, _, _, _, .nil, r => .cons r .nil
  | _, _, _, _, .cons q t, r => .cons q (dpAll_end t r)
end
section
variable {v : V} {H : Hp} {QS : L2.St → Hp → Prop} {s : L2.St}
theorem g_n0 {a0 : Option V} (h : QS (some v :: s) H) : gName 0 v (a0 :: s) H QS := h
theorem g_n1 {a0 a1 : Option V} (h : QS (a0 :: some v :: s) H) : gName 1 v (a0 :: a1 :: s) H QS := h
theorem g_n2 {a0 a1 a2 : Option V} (h : QS (a0 :: a1 :: some v :: s) H) : gName 2 v (a0 :: a1 :: a2 :: s) H QS := h
theorem g_n3 {a0 a1 a2 a3 : Option V} (h : QS (a0 :: a1 :: a2 :: some v :: s) H) : gName 3 v (a0 :: a1 :: a2 :: a3 :: s) H QS := h
theorem g_n4 {a0 a1 a2 a3 a4 : Option V} (h : QS (a0 :: a1 :: a2 :: a3 :: some v :: s) H) : gName 4 v (a0 :: a1 :: a2 :: a3 :: a4 :: s) H QS := h
theorem g_n5 {a0 a1 a2 a3 a4 a5 : Option V} (h : QS (a0 :: a1 :: a2 :: a3 :: a4 :: some v :: s) H) : gName 5 v (a0 :: a1 :: a2 :: a3 :: a4 :: a5 :: s) H QS := h
theorem g_n6 {a0 a1 a2 a3 a4 a5 a6 : Option V} (h : QS (a0 :: a1 :: a2 :: a3 :: a4 :: a5 :: some v :: s) H) : gName 6 v (a0 :: a1 :: a2 :: a3 :: a4 :: a5 :: a6 :: s) H QS := h
theorem g_n7 {a0 a1 a2 a3 a4 a5 a6 a7 : Option V} (h : QS (a0 :: a1 :: a2 :: a3 :: a4 :: a5 :: a6 :: some v :: s) H) : gName 7 v (a0 :: a1 :: a2 :: a3 :: a4 :: a5 :: a6 :: a7 :: s) H QS := h
theorem g_n8 {a0 a1 a2 a3 a4 a5 a6 a7 a8 : Option V} (h : QS (a0 :: a1 :: a2 :: a3 :: a4 :: a5 :: a6 :: a7 :: some v :: s) H) : gName 8 v (a0 :: a1 :: a2 :: a3 :: a4 :: a5 :: a6 :: a7 :: a8 :: s) H QS := h
theorem g_n9 {a0 a1 a2 a3 a4 a5 a6 a7 a8 a9 : Option V} (h : QS (a0 :: a1 :: a2 :: a3 :: a4 :: a5 :: a6 :: a7 :: a8 :: some v :: s) H) : gName 9 v (a0 :: a1 :: a2 :: a3 :: a4 :: a5 :: a6 :: a7 :: a8 :: a9 :: s) H QS := h
theorem g_n10 {a0 a1 a2 a3 a4 a5 a6 a7 a8 a9 a10 : Option V} (h : QS (a0 :: a1 :: a2 :: a3 :: a4 :: a5 :: a6 :: a7 :: a8 :: a9 :: some v :: s) H) : gName 10 v (a0 :: a1 :: a2 :: a3 :: a4 :: a5 :: a6 :: a7 :: a8 :: a9 :: a10 :: s) H QS := h
theorem g_n11 {a0 a1 a2 a3 a4 a5 a6 a7 a8 a9 a10 a11 : Option V} (h : QS (a0 :: a1 :: a2 :: a3 :: a4 :: a5 :: a6 :: a7 :: a8 :: a9 :: a10 :: some v :: s) H) : gName 11 v (a0 :: a1 :: a2 :: a3 :: a4 :: a5 :: a6 :: a7 :: a8 :: a9 :: a10 :: a11 :: s) H QS := h
theorem g_n12 {a0 a1 a2 a3 a4 a5 a6 a7 a8 a9 a10 a11 a12 : Option V} (h : QS (a0 :: a1 :: a2 :: a3 :: a4 :: a5 :: a6 :: a7 :: a8 :: a9 :: a10 :: a11 :: some v :: s) H) : gName 12 v (a0 :: a1 :: a2 :: a3 :: a4 :: a5 :: a6 :: a7 :: a8 :: a9 :: a10 :: a11 :: a12 :: s) H QS := h
theorem g_n13 {a0 a1 a2 a3 a4 a5 a6 a7 a8 a9 a10 a11 a12 a13 : Option V} (h : QS (a0 :: a1 :: a2 :: a3 :: a4 :: a5 :: a6 :: a7 :: a8 :: a9 :: a10 :: a11 :: a12 :: some v :: s) H) : gName 13 v (a0 :: a1 :: a2 :: a3 :: a4 :: a5 :: a6 :: a7 :: a8 :: a9 :: a10 :: a11 :: a12 :: a13 :: s) H QS := h
theorem g_n14 {a0 a1 a2 a3 a4 a5 a6 a7 a8 a9 a10 a11 a12 a13 a14 : Option V} (h : QS (a0 :: a1 :: a2 :: a3 :: a4 :: a5 :: a6 :: a7 :: a8 :: a9 :: a10 :: a11 :: a12 :: a13 :: some v :: s) H) : gName 14 v (a0 :: a1 :: a2 :: a3 :: a4 :: a5 :: a6 :: a7 :: a8 :: a9 :: a10 :: a11 :: a12 :: a13 :: a14 :: s) H QS := h
theorem g_n15 {a0 a1 a2 a3 a4 a5 a6 a7 a8 a9 a10 a11 a12 a13 a14 a15 : Option V} (h : QS (a0 :: a1 :: a2 :: a3 :: a4 :: a5 :: a6 :: a7 :: a8 :: a9 :: a10 :: a11 :: a12 :: a13 :: a14 :: some v :: s) H) : gName 15 v (a0 :: a1 :: a2 :: a3 :: a4 :: a5 :: a6 :: a7 :: a8 :: a9 :: a10 :: a11 :: a12 :: a13 :: a14 :: a15 :: s) H QS := h
theorem g_n16 {a0 a1 a2 a3 a4 a5 a6 a7 a8 a9 a10 a11 a12 a13 a14 a15 a16 : Option V} (h : QS (a0 :: a1 :: a2 :: a3 :: a4 :: a5 :: a6 :: a7 :: a8 :: a9 :: a10 :: a11 :: a12 :: a13 :: a14 :: a15 :: some v :: s) H) : gName 16 v (a0 :: a1 :: a2 :: a3 :: a4 :: a5 :: a6 :: a7 :: a8 :: a9 :: a10 :: a11 :: a12 :: a13 :: a14 :: a15 :: a16 :: s) H QS := h
theorem g_n17 {a0 a1 a2 a3 a4 a5 a6 a7 a8 a9 a10 a11 a12 a13 a14 a15 a16 a17 : Option V} (h : QS (a0 :: a1 :: a2 :: a3 :: a4 :: a5 :: a6 :: a7 :: a8 :: a9 :: a10 :: a11 :: a12 :: a13 :: a14 :: a15 :: a16 :: some v :: s) H) : gName 17 v (a0 :: a1 :: a2 :: a3 :: a4 :: a5 :: a6 :: a7 :: a8 :: a9 :: a10 :: a11 :: a12 :: a13 :: a14 :: a15 :: a16 :: a17 :: s) H QS := h
theorem g_n18 {a0 a1 a2 a3 a4 a5 a6 a7 a8 a9 a10 a11 a12 a13 a14 a15 a16 a17 a18 : Option V} (h : QS (a0 :: a1 :: a2 :: a3 :: a4 :: a5 :: a6 :: a7 :: a8 :: a9 :: a10 :: a11 :: a12 :: a13 :: a14 :: a15 :: a16 :: a17 :: some v :: s) H) : gName 18 v (a0 :: a1 :: a2 :: a3 :: a4 :: a5 :: a6 :: a7 :: a8 :: a9 :: a10 :: a11 :: a12 :: a13 :: a14 :: a15 :: a16 :: a17 :: a18 :: s) H QS := h
theorem g_n19 {a0 a1 a2 a3 a4 a5 a6 a7 a8 a9 a10 a11 a12 a13 a14 a15 a16 a17 a18 a19 : Option V} (h : QS (a0 :: a1 :: a2 :: a3 :: a4 :: a5 :: a6 :: a7 :: a8 :: a9 :: a10 :: a11 :: a12 :: a13 :: a14 :: a15 :: a16 :: a17 :: a18 :: some v :: s) H) : gName 19 v (a0 :: a1 :: a2 :: a3 :: a4 :: a5 :: a6 :: a7 :: a8 :: a9 :: a10 :: a11 :: a12 :: a13 :: a14 :: a15 :: a16 :: a17 :: a18 :: a19 :: s) H QS := h
theorem g_n20 {a0 a1 a2 a3 a4 a5 a6 a7 a8 a9 a10 a11 a12 a13 a14 a15 a16 a17 a18 a19 a20 : Option V} (h : QS (a0 :: a1 :: a2 :: a3 :: a4 :: a5 :: a6 :: a7 :: a8 :: a9 :: a10 :: a11 :: a12 :: a13 :: a14 :: a15 :: a16 :: a17 :: a18 :: a19 :: some v :: s) H) : gName 20 v (a0 :: a1 :: a2 :: a3 :: a4 :: a5 :: a6 :: a7 :: a8 :: a9 :: a10 :: a11 :: a12 :: a13 :: a14 :: a15 :: a16 :: a17 :: a18 :: a19 :: a20 :: s) H QS := h
theorem g_n21 {a0 a1 a2 a3 a4 a5 a6 a7 a8 a9 a10 a11 a12 a13 a14 a15 a16 a17 a18 a19 a20 a21 : Option V} (h : QS (a0 :: a1 :: a2 :: a3 :: a4 :: a5 :: a6 :: a7 :: a8 :: a9 :: a10 :: a11 :: a12 :: a13 :: a14 :: a15 :: a16 :: a17 :: a18 :: a19 :: a20 :: some v :: s) H) : gName 21 v (a0 :: a1 :: a2 :: a3 :: a4 :: a5 :: a6 :: a7 :: a8 :: a9 :: a10 :: a11 :: a12 :: a13 :: a14 :: a15 :: a16 :: a17 :: a18 :: a19 :: a20 :: a21 :: s) H QS := h
theorem g_n22 {a0 a1 a2 a3 a4 a5 a6 a7 a8 a9 a10 a11 a12 a13 a14 a15 a16 a17 a18 a19 a20 a21 a22 : Option V} (h : QS (a0 :: a1 :: a2 :: a3 :: a4 :: a5 :: a6 :: a7 :: a8 :: a9 :: a10 :: a11 :: a12 :: a13 :: a14 :: a15 :: a16 :: a17 :: a18 :: a19 :: a20 :: a21 :: some v :: s) H) : gName 22 v (a0 :: a1 :: a2 :: a3 :: a4 :: a5 :: a6 :: a7 :: a8 :: a9 :: a10 :: a11 :: a12 :: a13 :: a14 :: a15 :: a16 :: a17 :: a18 :: a19 :: a20 :: a21 :: a22 :: s) H QS := h
theorem g_n23 {a0 a1 a2 a3 a4 a5 a6 a7 a8 a9 a10 a11 a12 a13 a14 a15 a16 a17 a18 a19 a20 a21 a22 a23 : Option V} (h : QS (a0 :: a1 :: a2 :: a3 :: a4 :: a5 :: a6 :: a7 :: a8 :: a9 :: a10 :: a11 :: a12 :: a13 :: a14 :: a15 :: a16 :: a17 :: a18 :: a19 :: a20 :: a21 :: a22 :: some v :: s) H) : gName 23 v (a0 :: a1 :: a2 :: a3 :: a4 :: a5 :: a6 :: a7 :: a8 :: a9 :: a10 :: a11 :: a12 :: a13 :: a14 :: a15 :: a16 :: a17 :: a18 :: a19 :: a20 :: a21 :: a22 :: a23 :: s) H QS := h
theorem g_n24 {a0 a1 a2 a3 a4 a5 a6 a7 a8 a9 a10 a11 a12 a13 a14 a15 a16 a17 a18 a19 a20 a21 a22 a23 a24 : Option V} (h : QS (a0 :: a1 :: a2 :: a3 :: a4 :: a5 :: a6 :: a7 :: a8 :: a9 :: a10 :: a11 :: a12 :: a13 :: a14 :: a15 :: a16 :: a17 :: a18 :: a19 :: a20 :: a21 :: a22 :: a23 :: some v :: s) H) : gName 24 v (a0 :: a1 :: a2 :: a3 :: a4 :: a5 :: a6 :: a7 :: a8 :: a9 :: a10 :: a11 :: a12 :: a13 :: a14 :: a15 :: a16 :: a17 :: a18 :: a19 :: a20 :: a21 :: a22 :: a23 :: a24 :: s) H QS := h
theorem g_n25 {a0 a1 a2 a3 a4 a5 a6 a7 a8 a9 a10 a11 a12 a13 a14 a15 a16 a17 a18 a19 a20 a21 a22 a23 a24 a25 : Option V} (h : QS (a0 :: a1 :: a2 :: a3 :: a4 :: a5 :: a6 :: a7 :: a8 :: a9 :: a10 :: a11 :: a12 :: a13 :: a14 :: a15 :: a16 :: a17 :: a18 :: a19 :: a20 :: a21 :: a22 :: a23 :: a24 :: some v :: s) H) : gName 25 v (a0 :: a1 :: a2 :: a3 :: a4 :: a5 :: a6 :: a7 :: a8 :: a9 :: a10 :: a11 :: a12 :: a13 :: a14 :: a15 :: a16 :: a17 :: a18 :: a19 :: a20 :: a21 :: a22 :: a23 :: a24 :: a25 :: s) H QS := h
end
end My

namespace My
open PySem PySem.Spec PyProof.Rows L2
/-! ### the text -/
def topS (i : Nat) : Stmt := PySem.Challenge.pw_hornbook_k06_sort.main.body.getD i (.Pass ⟨0, 0, 0, 0⟩)
abbrev s_is_variable : Stmt := topS 1
abbrev N_is_variable : List Str := ["node"]
theorem sc_is_variable : FnScope N_is_variable ["node"] (defScope s_is_variable) := ⟨rfl, rfl, rfl, by decide +kernel, rfl, by decide +kernel, by decide +kernel⟩
abbrev s_is_symbol : Stmt := topS 2
abbrev N_is_symbol : List Str := ["node"]
theorem sc_is_symbol : FnScope N_is_symbol ["node"] (defScope s_is_symbol) := ⟨rfl, rfl, rfl, by decide +kernel, rfl, by decide +kernel, by decide +kernel⟩
abbrev s_node_key : Stmt := topS 4
abbrev N_node_key : List Str := ["node"]
theorem sc_node_key : FnScope N_node_key ["node"] (defScope s_node_key) := ⟨rfl, rfl, rfl, by decide +kernel, rfl, by decide +kernel, by decide +kernel⟩
abbrev s_term_key : Stmt := topS 5
abbrev N_term_key : List Str := ["term", "node"]
theorem sc_term_key : FnScope N_term_key ["term"] (defScope s_term_key) := ⟨rfl, rfl, rfl, by decide +kernel, rfl, by decide +kernel, by decide +kernel⟩
abbrev s_compare : Stmt := topS 6
abbrev N_compare : List Str := ["left", "right", "one", "other"]
theorem sc_compare : FnScope N_compare ["left", "right"] (defScope s_compare) := ⟨rfl, rfl, rfl, by decide +kernel, rfl, by decide +kernel, by decide +kernel⟩
abbrev s_sort_terms : Stmt := topS 7
abbrev N_sort_terms : List Str := ["items", "unique", "ordered", "kept", "before", "term", "order"]
theorem sc_sort_terms : FnScope N_sort_terms ["items", "unique"] (defScope s_sort_terms) := ⟨rfl, rfl, rfl, by decide +kernel, rfl, by decide +kernel, by decide +kernel⟩
abbrev s__law_stream : Stmt := topS 9
abbrev N__law_stream : List Str := ["script", "mixed", "cell"]
theorem sc__law_stream : FnScope N__law_stream ["script"] (defScope s__law_stream) := ⟨rfl, rfl, rfl, by decide +kernel, rfl, by decide +kernel, by decide +kernel⟩
abbrev s__law_draw : Stmt := topS 10
abbrev N__law_draw : List Str := ["stream", "many", "value"]
theorem sc__law_draw : FnScope N__law_draw ["stream", "many"] (defScope s__law_draw) := ⟨rfl, rfl, rfl, by decide +kernel, rfl, by decide +kernel, by decide +kernel⟩
abbrev s__law_name : Stmt := topS 11
abbrev N__law_name : List Str := ["stream", "names", "signs", "k"]
theorem sc__law_name : FnScope N__law_name ["stream"] (defScope s__law_name) := ⟨rfl, rfl, rfl, by decide +kernel, rfl, by decide +kernel, by decide +kernel⟩
abbrev s__law_leaf : Stmt := topS 12
abbrev N__law_leaf : List Str := ["stream", "widest", "pick"]
theorem sc__law_leaf : FnScope N__law_leaf ["stream", "widest"] (defScope s__law_leaf) := ⟨rfl, rfl, rfl, by decide +kernel, rfl, by decide +kernel, by decide +kernel⟩
abbrev s__law_term : Stmt := topS 13
abbrev N__law_term : List Str := ["stream", "size", "widest", "nodes", "missing", "room", "arity"]
theorem sc__law_term : FnScope N__law_term ["stream", "size", "widest"] (defScope s__law_term) := ⟨rfl, rfl, rfl, by decide +kernel, rfl, by decide +kernel, by decide +kernel⟩
abbrev s__law_key : Stmt := topS 14
abbrev N__law_key : List Str := ["node"]
theorem sc__law_key : FnScope N__law_key ["node"] (defScope s__law_key) := ⟨rfl, rfl, rfl, by decide +kernel, rfl, by decide +kernel, by decide +kernel⟩
abbrev s__law_order : Stmt := topS 15
abbrev N__law_order : List Str := ["left", "right", "k"]
theorem sc__law_order : FnScope N__law_order ["left", "right"] (defScope s__law_order) := ⟨rfl, rfl, rfl, by decide +kernel, rfl, by decide +kernel, by decide +kernel⟩
abbrev s_law : Stmt := topS 16
abbrev N_law : List Str := ["script", "stream", "variables", "rows", "k", "decided", "left", "right", "given", "plain", "single", "row", "kept"]
theorem sc_law : FnScope N_law ["script"] (defScope s_law) := ⟨rfl, rfl, rfl, by decide +kernel, rfl, by decide +kernel, by decide +kernel⟩
/-- a def with a keyword-only parameter that has a default -/
def HasK (P : Program) (w : World) (K : PySem.W.Frag) (mg : Str → Option Value) (base : Heap) (k : Nat) (x : Str) (ps : List Str) (kws : List (Str × V)) (sp : Sp) : Prop :=
  ∃ (f : Addr) (fd : FuncData), FnOk P w K mg base CX0 k f fd ps sp ∧ mg x = some (.ref f) ∧ PySem.W.keepIn K (.ref f) = true ∧ (∃ ds, Vals (kws.map (·.2)) ds ∧ Binds K fd ps ds) ∧ KBn K fd ps (ps.length - kws.length) (kws.map (·.1)) (fun us ws => us ++ ws) (fun vs zs => vs ++ zs)
/-- names that the top leaves to the built-ins, and its constants -/
structure Bi (K : PySem.W.Frag) (mg : Str → Option Value) : Prop where
  b_abs : mg "abs" = Option.none
  b_all : mg "all" = Option.none
  b_int : mg "int" = Option.none
  b_isinstance : mg "isinstance" = Option.none
  b_len : mg "len" = Option.none
  b_list : mg "list" = Option.none
  b_min : mg "min" = Option.none
  b_range : mg "range" = Option.none
  b_sorted : mg "sorted" = Option.none
  b_tuple : mg "tuple" = Option.none
  b_zip : mg "zip" = Option.none

/-! ### names, nodes, terms -/
def okSign (c : Nat) : Bool := decide (32 ≤ c) && decide (c ≤ 126) && !decide (c = 37)
def okName (x : Str) : Bool := decide (1 ≤ x.length) && decide (x.length ≤ 40) && x.cps.toList.all okSign
def names20 : List Str := ["a", "b", "f", "g", "hello", "[]", "+", "-", ",", "it's", "X", "a b", "{}", ".", "=", "'", "aB_1", "!", "0", "lvjkuwnd"]
def signs : Str := (Str.ofString " !\"#$&'()*+,-./0123456789:;<=>?@ABCDEFGHIJKLMNOPQRSTUVWXYZ[\\]^_`") ++ (Str.ofString "abcdefghijklmnopqrstuvwxyz{|}~")
theorem names20_ok : names20.all okName = true := by decide +kernel
theorem signs_ok : signs.cps.toList.all okSign = true := by decide +kernel
theorem signs_len : signs.length = 94 := by decide +kernel
theorem join_ones (e : Str) (he : e.cps = #[]) : ∀ cs : List Nat, (Str.join e (cs.map fun c => ⟨#[c]⟩)).cps.toList = cs
  | [] => rfl
  | [c] => rfl
  | c :: d :: r => by
    have ih := join_ones e he (d :: r)
    show ((⟨#[c]⟩ : Str) ++ e ++ Str.join e ((d :: r).map fun c => (⟨#[c]⟩ : Str))).cps.toList = c :: d :: r
    show (#[c] ++ e.cps ++ (Str.join e ((d :: r).map fun c => (⟨#[c]⟩ : Str))).cps).toList = c :: d :: r
    rw [he, Array.toList_append, ih]
    rfl
inductive Nd (wd : Int) : PyData → Prop
  | v (n : Int) : 0 ≤ n → n < wd → Nd wd (.tuple [.str "v", .int n])
  | i (n : Int) : -(10 ^ 40) < n → n < 10 ^ 40 → Nd wd (.int n)
  | f (x : Str) (n : Int) : okName x = true → 0 ≤ n → n ≤ 8 → Nd wd (.tuple [.str "f", .str x, .int n])
def arN : PyData → Nat
  | .tuple [_, _, c] => (match c with | .int n => n.toNat | _ => 0) | _ => 0
/-- from m missing terms on, the nodes are just these terms -/
def Cls : Nat → List PyData → Prop
  | m, [] => m = 0
  | m, d :: r => 0 < m ∧ Cls (m - 1 + arN d) r
structure Term (wd : Int) (ds : List PyData) : Prop where
  cl : Cls 1 ds
  nd : ∀ d ∈ ds, Nd wd d
/-! ### the promises -/
def sp__law_stream (K : PySem.W.Frag) : Sp := fun vs H Q _ => ∃ (a : Addr) (ns : List Int), vs = [.ref a] ∧ SqL K H a (ns.map V.int) ∧ ns.length ≤ 63 ∧ ∀ s l H', H s = Option.none → H l = Option.none → Same H H' → Stm H' s l → Q (.ref s) H'
def sp__law_draw (K : PySem.W.Frag) : Sp := fun vs H Q _ => ∃ (s l : Addr) (n : Int), vs = [.ref s, .int n] ∧ Stm H s l ∧ 0 < n ∧ n.natAbs < 2 ^ 9000 ∧ ∀ r H', 0 ≤ r → r < n → But s H H' → Stm H' s l → Q (.int r) H'
def sp__law_name (K : PySem.W.Frag) : Sp := fun vs H Q _ => ∃ s l, vs = [.ref s] ∧ Stm H s l ∧ ∀ x H', okName x = true → But s H H' → Stm H' s l → Q (.str x) H'
def sp__law_leaf (K : PySem.W.Frag) : Sp := fun vs H Q _ => ∃ (s l : Addr) (wd : Int), vs = [.ref s, .int wd] ∧ Stm H s l ∧ 0 ≤ wd ∧ wd ≤ 1000 ∧ ∀ v d H', Nd wd d → arN d = 0 → But s H H' → Stm H' s l → Im K (fun b => H b = Option.none) H' v d → Q v H'
def sp__law_term (K : PySem.W.Frag) : Sp := fun vs H Q _ => ∃ (s l : Addr) (n wd : Int), vs = [.ref s, .int n, .int wd] ∧ Stm H s l ∧ 0 < n ∧ n ≤ 1000 ∧ 0 ≤ wd ∧ wd ≤ 1000 ∧
  ∀ v ds H', Term wd ds → (ds.length : Int) ≤ n → But s H H' → Stm H' s l → Im K (fun b => H b = Option.none) H' v (.tuple ds) → Q v H'
/-! ### nodes -/
def isSymN : PyData → Bool
  | .tuple [_, _, _] => true | _ => false
def NdA (d : PyData) : Prop := ∃ wd, Nd wd d
/-- how many nodes m terms take -/
def tk : Nat → List PyData → Nat
  | _, [] => 0
  | m, d :: r => if m = 0 then 0 else 1 + tk (m - 1 + arN d) r
theorem tk_zero (l : List PyData) : tk 0 l = 0 := by
  cases l with
  | nil => rfl
  | cons d r => exact if_pos rfl
theorem tk_cons {m : Nat} (h : 0 < m) (d : PyData) (r : List PyData) : tk m (d :: r) = 1 + tk (m - 1 + arN d) r := if_neg (by omega)
theorem arN_nsym {d : PyData} (h : isSymN d = false) : arN d = 0 := by
  cases d with
  | tuple ds =>
    rcases ds with _ | ⟨a, _ | ⟨b, _ | ⟨c, _ | ⟨e, r⟩⟩⟩⟩
    · rfl
    · rfl
    · rfl
    · cases h
    · rfl
  | _ => rfl
theorem tk_le : ∀ (l : List PyData) (m : Nat), tk m l ≤ l.length
  | [], _ => Nat.le_refl 0
  | d :: r, m => by
    by_cases h : m = 0
    · subst h; rw [tk_zero]; exact Nat.zero_le _
    · rw [tk_cons (by omega)]
      have := tk_le r (m - 1 + arN d)
      rw [List.length_cons]
      omega
theorem tk_add : ∀ (l : List PyData) (j m : Nat), tk (j + m) l = tk j l + tk m (l.drop (tk j l))
  | [], j, m => by simp [tk]
  | d :: r, j, m => by
    by_cases h : j = 0
    · subst h
      rw [tk_zero, Nat.zero_add, Nat.zero_add, List.drop_zero]
    · rw [tk_cons (by omega), tk_cons (m := j) (by omega), show j + m - 1 + arN d = (j - 1 + arN d) + m by omega, tk_add r (j - 1 + arN d) m]
      rw [show 1 + tk (j - 1 + arN d) r = tk (j - 1 + arN d) r + 1 by omega, List.drop_succ_cons]
      omega
/-- the rest of what is closed is closed -/
theorem cls_drop : ∀ (l : List PyData) (k j : Nat), Cls k l → j ≤ k → Cls (k - j) (l.drop (tk j l))
  | [], k, j, h, hj => by
    have hk : k = 0 := h
    rw [List.drop_nil]
    show k - j = 0
    omega
  | d :: r, k, j, h, hj => by
    by_cases z : j = 0
    · subst z
      rw [tk_zero]
      exact h
    · rw [tk_cons (by omega), show 1 + tk (j - 1 + arN d) r = tk (j - 1 + arN d) r + 1 by omega, List.drop_succ_cons]
      have := cls_drop r (k - 1 + arN d) (j - 1 + arN d) h.2 (by omega)
      rwa [show k - 1 + arN d - (j - 1 + arN d) = k - j by omega] at this
theorem cls_take : ∀ (l : List PyData) (k j : Nat), Cls k l → j ≤ k → Cls j (l.take (tk j l))
  | [], k, j, h, hj => by
    have hk : k = 0 := h
    rw [List.take_nil]
    show j = 0
    omega
  | d :: r, k, j, h, hj => by
    by_cases z : j = 0
    · subst z
      rw [tk_zero]
      rfl
    · rw [tk_cons (by omega), show 1 + tk (j - 1 + arN d) r = tk (j - 1 + arN d) r + 1 by omega, List.take_succ_cons]
      exact ⟨by omega, cls_take r (k - 1 + arN d) (j - 1 + arN d) h.2 (by omega)⟩
theorem tk_take : ∀ (l : List PyData) (i j : Nat), i ≤ j → tk i (l.take (tk j l)) = tk i l
  | [], i, j, _ => by rw [List.take_nil]
  | d :: r, i, j, h => by
    by_cases z : i = 0
    · subst z
      rw [tk_zero, tk_zero]
    · rw [tk_cons (m := j) (by omega), show 1 + tk (j - 1 + arN d) r = tk (j - 1 + arN d) r + 1 by omega, List.take_succ_cons, tk_cons (by omega), tk_cons (by omega), tk_take r _ _ (by omega)]
theorem take_full : ∀ (l : List PyData) (k : Nat), Cls k l → l.take (tk k l) = l
  | [], _, _ => List.take_nil
  | d :: r, k, h => by
    rw [tk_cons h.1, show 1 + tk (k - 1 + arN d) r = tk (k - 1 + arN d) r + 1 by omega, List.take_succ_cons, take_full r _ h.2]
theorem cls_map : ∀ (ds es : List PyData) (m : Nat), es.map arN = ds.map arN → Cls m ds → Cls m es
  | [], [], m, _, h => h
  | [], e :: es, m, h, _ => by cases h
  | d :: ds, [], m, h, _ => by cases h
  | d :: ds, e :: es, m, h, hc => by
    rw [List.map_cons, List.map_cons] at h
    obtain ⟨h1, h2⟩ := List.cons.inj h
    exact ⟨hc.1, by rw [h1]; exact cls_map ds es _ h2 hc.2⟩
/-! ### nodes can be compared -/
theorem okName_cps {x : Str} (h : okName x = true) : PyData.strOk x = true := by
  unfold okName at h
  rw [Bool.and_eq_true] at h
  unfold PyData.strOk
  rw [← Array.all_toList]
  refine List.all_eq_true.mpr fun c hc => ?_
  have := List.all_eq_true.mp h.2 c hc
  unfold okSign at this
  simp only [Bool.and_eq_true, decide_eq_true_eq] at this
  exact decide_eq_true (by omega)
theorem nd_lay {d : PyData} (h : NdA d) : d.canLay0 = true ∧ d.depth ≤ 1 ∧ d.eqv d = true := by
  obtain ⟨wd, h⟩ := h
  cases h with
  | v n _ _ => exact ⟨by simp only [PyData.canLay0, PyData.canLayAll0]; decide +kernel, by simp [PyData.depth, PyData.depthAll], by simp only [PyData.eqv, PyData.eqvAll, beq_self_eq_true, Bool.and_self]⟩
  | i n _ _ => exact ⟨by simp only [PyData.canLay0], by simp [PyData.depth], by simp only [PyData.eqv, beq_self_eq_true]⟩
  | f x n hx _ _ => exact ⟨by simp only [PyData.canLay0, PyData.canLayAll0]; rw [okName_cps hx]; decide +kernel, by simp [PyData.depth, PyData.depthAll], by simp only [PyData.eqv, PyData.eqvAll, beq_self_eq_true, Bool.and_self]⟩
theorem nds_lay : ∀ {ds : List PyData}, (∀ d ∈ ds, NdA d) → PyData.canLayAll0 ds = true ∧ PyData.depthAll ds ≤ 1 ∧ PyData.eqvAll ds ds = true
  | [], _ => ⟨by simp only [PyData.canLayAll0], by simp [PyData.depthAll], by simp only [PyData.eqvAll]⟩
  | d :: r, h => by
    obtain ⟨a1, a2, a3⟩ := nd_lay (h d List.mem_cons_self)
    obtain ⟨b1, b2, b3⟩ := nds_lay (ds := r) fun e he => h e (List.mem_cons_of_mem _ he)
    refine ⟨by simp only [PyData.canLayAll0, a1, b1, Bool.and_self], ?_, by simp only [PyData.eqvAll, a3, b3, Bool.and_self]⟩
    simp only [PyData.depthAll]
    omega
theorem nd_shaped {d : PyData} (h : NdA d) : SeqAt.shaped d = true := by
  obtain ⟨a1, a2, _⟩ := nd_lay h
  show (d.canLay0 && decide (d.depth ≤ 64)) = true
  rw [a1, decide_eq_true (by omega)]
  rfl
theorem tup_shaped {ds : List PyData} (h : ∀ d ∈ ds, NdA d) : SeqAt.shaped (.tuple ds) = true := by
  obtain ⟨a1, a2, _⟩ := nds_lay h
  have hd : (PyData.tuple ds).depth ≤ 64 := by
    simp only [PyData.depth]
    omega
  have hc : (PyData.tuple ds).canLay0 = true := by
    simp only [PyData.canLay0]
    exact a1
  show ((PyData.tuple ds).canLay0 && decide ((PyData.tuple ds).depth ≤ 64)) = true
  rw [hc, decide_eq_true hd]
  rfl
theorem tup_eqv {ds : List PyData} (h : ∀ d ∈ ds, NdA d) : PyData.eqv (.tuple ds) (.tuple ds) = true := by
  simp only [PyData.eqv]
  exact (nds_lay h).2.2
/-! ### the order -/
def isVarN : PyData → Bool
  | .tuple [_, _] => true | _ => false
def tagN (d : PyData) : Int := if isVarN d then 0 else if isSymN d then 2 else 1
def restN : PyData → List PyData
  | .tuple [_, n] => [n, .str ""]
  | .tuple [_, x, n] => [n, x]
  | d => [d, .str ""]
def restL (d : PyData) : List PyData := if isVarN d then [.int 0, .str ""] else restN d
def keyN (d : PyData) : List PyData := .int (tagN d) :: restN d
def keyL (d : PyData) : List PyData := .int (tagN d) :: restL d
def ltN (d e : PyData) : Bool := PySem.W.dataLt (.list (keyL d)) (.list (keyL e))
def cmpM : List PyData → List PyData → Option Int
  | d :: ds, e :: es => if PyData.eqv d e = true then cmpM ds es else if (isVarN d && isVarN e) = true then none else some (if ltN d e = true then -1 else 1)
  | _, _ => some 0
def resV : Option Int → V
  | none => .non | some i => .int i
theorem rest_form {d : PyData} (h : NdA d) : ∃ i y, restN d = [.int i, .str y] := by
  obtain ⟨wd, h⟩ := h
  cases h with
  | v n _ _ => exact ⟨n, "", rfl⟩
  | i n _ _ => exact ⟨n, "", rfl⟩
  | f x n _ _ _ => exact ⟨n, x, rfl⟩
theorem restL_form {d : PyData} (h : NdA d) : ∃ i y, restL d = [.int i, .str y] := by
  unfold restL
  by_cases hv : isVarN d = true
  · rw [if_pos hv]; exact ⟨0, "", rfl⟩
  · rw [if_neg hv]; exact rest_form h
theorem tag_var (d : PyData) : (tagN d = 0) ↔ isVarN d = true := by
  unfold tagN
  by_cases hv : isVarN d = true
  · rw [if_pos hv]; simp [hv]
  · rw [if_neg hv]
    by_cases hs : isSymN d = true
    · rw [if_pos hs]; simp [hv]
    · rw [if_neg hs]; simp [hv]
theorem alike3 (a b : Int) (i j : Int) (x y : Str) : PySem.W.alikeAll [.int a, .int i, .str x] [.int b, .int j, .str y] = true := by
  simp [PySem.W.alikeAll, PySem.W.alike]
theorem key_alike {d e : PyData} (h : NdA d) (h2 : NdA e) : PySem.W.alike (.tuple (keyN d)) (.tuple (keyN e)) = true := by
  obtain ⟨i, y, e1⟩ := rest_form h
  obtain ⟨j, z, e2⟩ := rest_form h2
  unfold keyN
  rw [e1, e2]
  simp [PySem.W.alike, PySem.W.alikeAll]
theorem keyL_alike {d e : PyData} (h : NdA d) (h2 : NdA e) : PySem.W.alike (.list (keyL d)) (.list (keyL e)) = true := by
  obtain ⟨i, y, e1⟩ := restL_form h
  obtain ⟨j, z, e2⟩ := restL_form h2
  unfold keyL
  rw [e1, e2]
  simp [PySem.W.alike, PySem.W.alikeAll]
theorem key_deep {d : PyData} (h : NdA d) : (PyData.tuple (keyN d)).depth ≤ 8 := by
  obtain ⟨i, y, e1⟩ := rest_form h
  unfold keyN
  rw [e1]
  simp [PyData.depth, PyData.depthAll]
theorem keyL_deep {d : PyData} (h : NdA d) : (PyData.list (keyL d)).depth ≤ 8 := by
  obtain ⟨i, y, e1⟩ := restL_form h
  unfold keyL
  rw [e1]
  simp [PyData.depth, PyData.depthAll]
theorem key_lt {d e : PyData} (h : ¬ (isVarN d && isVarN e) = true) : PySem.W.dataLt (.tuple (keyN d)) (.tuple (keyN e)) = ltN d e := by
  unfold ltN
  rw [PySem.W.dataLt_tuple, PySem.W.dataLt_list]
  have ha : PySem.W.alike (.int (tagN d)) (.int (tagN e)) = true := by simp [PySem.W.alike]
  by_cases ht : tagN d = tagN e
  · have e1 : isVarN d = false := by
      cases hv : isVarN d with
      | false => rfl
      | true =>
        have := (tag_var e).mp (ht ▸ (tag_var d).mpr hv)
        rw [hv, this] at h
        exact absurd rfl h
    have e2 : isVarN e = false := by
      cases hv : isVarN e with
      | false => rfl
      | true =>
        have := (tag_var d).mp (ht ▸ (tag_var e).mpr hv)
        rw [hv, this] at h
        exact absurd rfl h
    unfold keyN keyL restL
    rw [e1, e2]
    rfl
  · have hn : PyData.eqv (.int (tagN d)) (.int (tagN e)) = false := by
      simp only [PyData.eqv, beq_eq_false_iff_ne]
      exact ht
    unfold keyN keyL
    rw [PySem.W.dataLt_all_no ha hn, PySem.W.dataLt_all_no ha hn]
theorem cmp_nil1 (es : List PyData) : cmpM [] es = some 0 := by cases es <;> rfl
theorem cmp_nil2 (ds : List PyData) : cmpM ds [] = some 0 := by cases ds <;> rfl
theorem cmp_step {ds es : List PyData} {i : Nat} {d e : PyData} (h1 : ds[i]? = some d) (h2 : es[i]? = some e) :
    cmpM (ds.drop i) (es.drop i) = if PyData.eqv d e = true then cmpM (ds.drop (i + 1)) (es.drop (i + 1)) else if (isVarN d && isVarN e) = true then none else some (if ltN d e = true then -1 else 1) := by
  obtain ⟨k1, g1⟩ := List.getElem?_eq_some_iff.mp h1
  obtain ⟨k2, g2⟩ := List.getElem?_eq_some_iff.mp h2
  rw [List.drop_eq_getElem_cons k1, List.drop_eq_getElem_cons k2, g1, g2]
  rfl
theorem cmp_end (ds es : List PyData) : cmpM (ds.drop (min ds.length es.length)) (es.drop (min ds.length es.length)) = some 0 := by
  rcases Nat.le_total ds.length es.length with h | h
  · rw [Nat.min_eq_left h, List.drop_length, cmp_nil1]
  · rw [Nat.min_eq_right h, List.drop_length, cmp_nil2]
/-! ### the promises of the order -/
def sp_is_variable (K : PySem.W.Frag) : Sp := fun vs H Q _ => ∃ (x : V) (d : PyData), vs = [x] ∧ Dp K H x d ∧ NdA d ∧ Q (.bl (isVarN d)) H
def sp_is_symbol (K : PySem.W.Frag) : Sp := fun vs H Q _ => ∃ (x : V) (d : PyData), vs = [x] ∧ Dp K H x d ∧ NdA d ∧ Q (.bl (isSymN d)) H
def sp_node_key (K : PySem.W.Frag) : Sp := fun vs H Q _ => ∃ (x : V) (d : PyData), vs = [x] ∧ Dp K H x d ∧ NdA d ∧ ∀ v H', Same H H' → Dp K H' v (.tuple (keyN d)) → Q v H'
def sp_compare (K : PySem.W.Frag) : Sp := fun vs H Q _ => ∃ (x y : V) (ds es : List PyData), vs = [x, y] ∧ Dp K H x (.tuple ds) ∧ Dp K H y (.tuple es) ∧ (∀ d ∈ ds, NdA d) ∧ (∀ d ∈ es, NdA d) ∧ ∀ H', Same H H' → Q (resV (cmpM ds es)) H'
def sp__law_key (K : PySem.W.Frag) : Sp := fun vs H Q _ => ∃ (x : V) (d : PyData), vs = [x] ∧ Dp K H x d ∧ NdA d ∧ ∀ v H', Same H H' → Dp K H' v (.list (keyL d)) → Q v H'
/-! ### sorting by keys -/
theorem keys_all {f : PyData → PyData} : ∀ {a b : List PyData}, (∀ d ∈ a, ∀ e ∈ b, PySem.W.alike (f d) (f e) = true) → PySem.W.alikeAll (a.map f) (b.map f) = true
  | [], _, _ => by simp [PySem.W.alikeAll]
  | _ :: _, [], _ => by simp [PySem.W.alikeAll]
  | d :: a, e :: b, h => by
    rw [List.map_cons, List.map_cons]
    simp only [PySem.W.alikeAll]
    rw [h d (.head _) e (.head _), keys_all fun x hx y hy => h x (.tail _ hx) y (.tail _ hy)]
    rfl
theorem eqv_symm {d e : PyData} (h : PyData.eqv d e = true) : PyData.eqv e d = true := by
  rw [PySem.W.eqv_comm]
  exact h
def keysT (ds : List PyData) : PyData := .list (ds.map fun d => .tuple (keyN d))
def ltT (a b : List PyData) : Bool := PySem.W.dataLt (keysT a) (keysT b)
theorem keys_alike {ts : List (List PyData)} (h : ∀ t ∈ ts, ∀ d ∈ t, NdA d) : PySem.W.AllAlike (ts.map keysT) := by
  intro a ha b hb
  obtain ⟨t, ht, rfl⟩ := List.mem_map.mp ha
  obtain ⟨w, hw, rfl⟩ := List.mem_map.mp hb
  unfold keysT
  simp only [PySem.W.alike]
  exact keys_all fun d hd e he => key_alike (h t ht d hd) (h w hw e he)
theorem keys_sortable (ts : List (List PyData)) : PySem.W.Sortable (ts.map keysT) := .inr fun d hd => by
  obtain ⟨t, _, rfl⟩ := List.mem_map.mp hd
  exact ⟨fun z => (nomatch z), fun _ z => (nomatch z)⟩
theorem keys_depth {t : List PyData} (h : ∀ d ∈ t, NdA d) : (keysT t).depth ≤ 8 := by
  have k : PyData.depthAll (t.map fun d => .tuple (keyN d)) ≤ 1 := by
    induction t with
    | nil => simp [PyData.depthAll]
    | cons d t ih =>
      have i := ih fun e he => h e (.tail _ he)
      obtain ⟨n, y, e⟩ := rest_form (h d (.head _))
      rw [List.map_cons]
      simp only [PyData.depthAll]
      have : (PyData.tuple (keyN d)).depth ≤ 1 := by
        unfold keyN
        rw [e]
        simp [PyData.depth, PyData.depthAll]
      omega
  unfold keysT
  simp only [PyData.depth]
  omega
theorem ltT_nil (b : List PyData) : ltT b [] = false := by
  unfold ltT keysT
  rw [PySem.W.dataLt_list, List.map_nil]
  cases b with
  | nil => exact PyProof.Rows.lex_irrefl _
  | cons d r =>
    rw [List.map_cons]
    rfl
theorem keyN_inj {d e : PyData} (h : NdA d) (h2 : NdA e) : PyData.eqv (.tuple (keyN d)) (.tuple (keyN e)) = PyData.eqv d e := by
  obtain ⟨wd, h⟩ := h
  obtain ⟨we, h2⟩ := h2
  have t0 : ∀ n : Int, tagN (.tuple [.str "v", .int n]) = 0 := fun _ => rfl
  have t1 : ∀ n : Int, tagN (.int n) = 1 := fun _ => rfl
  have t2 : ∀ (x : Str) (n : Int), tagN (.tuple [.str "f", .str x, .int n]) = 2 := fun _ _ => rfl
  cases h <;> cases h2 <;> simp only [keyN, t0, t1, t2, restN, PyData.eqv, PyData.eqvAll, beq_self_eq_true, Bool.true_and, Bool.and_true, Bool.and_self]
  all_goals first
    | rfl
    | (rw [Bool.and_comm]; done)
    | (simp only [show ((0 : Int) == 2) = false from rfl, show ((0 : Int) == 1) = false from rfl, show ((1 : Int) == 0) = false from rfl, show ((1 : Int) == 2) = false from rfl, show ((2 : Int) == 0) = false from rfl, show ((2 : Int) == 1) = false from rfl, Bool.false_and, Bool.and_false]; done)
    | skip
theorem ltT_cons {d e : PyData} {a b : List PyData} (h : NdA d) (h2 : NdA e) : ltT (d :: a) (e :: b) = if PyData.eqv d e = true then ltT a b else PySem.W.dataLt (.tuple (keyN d)) (.tuple (keyN e)) := by
  unfold ltT keysT
  rw [PySem.W.dataLt_list, List.map_cons, List.map_cons, PySem.W.dataLt_cons (key_alike h h2), keyN_inj h h2, PySem.W.dataLt_list]
theorem ltT_asymm {a b : List PyData} (h : ltT a b = true) : ltT b a = false :=
  PyProof.Rows.KeyOrd.klt_asymm (O := PyProof.Rows.listOrd PyProof.Rows.itemOrd) h
theorem ltT_irr (a : List PyData) : ltT a a = false := PyProof.Rows.lex_irrefl _
theorem kle_eq (a b : List PyData) : PySem.W.dataLe false keysT a b = !ltT b a := rfl
theorem nd_eqv {d e : PyData} (h : NdA d) (h2 : NdA e) (q : PyData.eqv d e = true) : d = e := by
  obtain ⟨wd, h⟩ := h
  obtain ⟨we, h2⟩ := h2
  cases h <;> cases h2 <;> simp only [PyData.eqv, PyData.eqvAll, Bool.and_eq_true, beq_iff_eq, and_true] at q
  all_goals first
    | (obtain ⟨q1, q2, q3⟩ := q; rw [q2, q3]; done)
    | (obtain ⟨q1, q2⟩ := q; rw [q2]; done)
    | (rw [q]; done)
    | (exact Bool.noConfusion q)
    | (exact absurd q.1 (by decide))
    | skip
theorem nd_refl {d : PyData} (h : NdA d) : PyData.eqv d d = true := (nd_lay h).2.2
/-- terms: closed lists of nodes -/
def Tm (m : Nat) (a : List PyData) : Prop := Cls m a ∧ ∀ d ∈ a, NdA d
theorem Tm.tail {m : Nat} {d : PyData} {a : List PyData} (h : Tm m (d :: a)) : Tm (m - 1 + arN d) a ∧ NdA d ∧ 0 < m := ⟨⟨h.1.2, fun e he => h.2 e (.tail _ he)⟩, h.2 d (.head _), h.1.1⟩
theorem Tm.zero {a : List PyData} (h : Tm 0 a) : a = [] := by
  cases a with
  | nil => rfl
  | cons d a => exact absurd h.1.1 (Nat.lt_irrefl 0)
theorem Tm.nil_of {m : Nat} {b : List PyData} (h : Tm m ([] : List PyData)) (h2 : Tm m b) : b = [] := by
  have e : m = 0 := h.1
  subst e
  exact h2.zero
theorem var_lt {d e : PyData} (h : NdA d) (h2 : NdA e) (hd : isVarN d = true) (he : isVarN e = false) : PySem.W.dataLt (.tuple (keyN d)) (.tuple (keyN e)) = true := by
  rw [PySem.W.dataLt_tuple]
  have t : tagN d = 0 := (tag_var d).mpr hd
  have u : tagN e ≠ 0 := fun z => by rw [(tag_var e).mp z] at he; cases he
  have g : 0 < tagN e := by
    unfold tagN at u ⊢
    rw [he] at u ⊢
    simp only [Bool.false_eq_true, if_false] at u ⊢
    split <;> decide
  have ha : PySem.W.alike (.int (tagN d)) (.int (tagN e)) = true := by simp [PySem.W.alike]
  have hn : PyData.eqv (.int (tagN d)) (.int (tagN e)) = false := by
    simp only [PyData.eqv, beq_eq_false_iff_ne]
    omega
  unfold keyN
  rw [PySem.W.dataLt_all_no ha hn, PySem.W.dataLt_int, t]
  exact decide_eq_true g
theorem cmp_vals {a b : List PyData} : ∀ {x : Int}, cmpM a b = some x → x = 0 ∨ x = 1 ∨ x = -1 := by
  induction a generalizing b with
  | nil =>
    intro x h
    rw [cmp_nil1] at h
    exact .inl (Option.some.inj h).symm
  | cons d a ih =>
    intro x h
    cases b with
    | nil => exact .inl (Option.some.inj h).symm
    | cons e b =>
      simp only [cmpM] at h
      split at h
      · exact ih h
      · split at h
        · cases h
        · have e1 := Option.some.inj h
          split at e1
          · exact .inr (.inr e1.symm)
          · exact .inr (.inl e1.symm)
theorem cmp_zero {a b : List PyData} : ∀ {m : Nat}, Tm m a → Tm m b → cmpM a b = some 0 → a = b := by
  induction a generalizing b with
  | nil => intro m h h2 _; exact (h.nil_of h2).symm
  | cons d a ih =>
    intro m h h2 q
    cases b with
    | nil => exact h2.nil_of h
    | cons e b =>
      obtain ⟨h3, nd, hm⟩ := h.tail
      obtain ⟨h4, ne, _⟩ := h2.tail
      simp only [cmpM] at q
      split at q
      · rename_i z
        have de := nd_eqv nd ne z
        subst de
        rw [ih h3 h4 q]
      · split at q
        · cases q
        · have e1 := Option.some.inj q
          split at e1 <;> cases e1
theorem cmp_self {a : List PyData} (h : ∀ d ∈ a, NdA d) : cmpM a a = some 0 := by
  induction a with
  | nil => rfl
  | cons d a ih =>
    simp only [cmpM]
    rw [if_pos (nd_refl (h d (.head _)))]
    exact ih fun e he => h e (.tail _ he)
theorem ltN_key {d e : PyData} (h : ¬ (isVarN d && isVarN e) = true) : ltN d e = PySem.W.dataLt (.tuple (keyN d)) (.tuple (keyN e)) := (key_lt h).symm
theorem key_conn {d e : PyData} (h : NdA d) (h2 : NdA e) (a : PySem.W.dataLt (.tuple (keyN d)) (.tuple (keyN e)) = false) (b : PySem.W.dataLt (.tuple (keyN e)) (.tuple (keyN d)) = false) : PyData.eqv (.tuple (keyN d)) (.tuple (keyN e)) = true := by
  have t : PySem.W.keyToks (.tuple (keyN d)) = PySem.W.keyToks (.tuple (keyN e)) := (PyProof.Rows.listOrd PyProof.Rows.itemOrd).total _ _ a b
  cases q : PyData.eqv (.tuple (keyN d)) (.tuple (keyN e)) with
  | true => rfl
  | false =>
    have z := (PySem.W.toks_eqv _ _ (key_alike h h2)).2 q [] [.inl 0]
    rw [t, PySem.W.lex_pre] at z
    have y : PyProof.Rows.lexLt PyProof.Rows.itemOrd (PySem.W.keyToks (.tuple (keyN e))) (PySem.W.keyToks (.tuple (keyN e))) = false := PyProof.Rows.lex_irrefl _
    rw [y] at z
    exact absurd z (by show ¬ (true = false); decide)
/-- the keys tell what compare tells -/
theorem cmp_lt {a b : List PyData} : ∀ {m : Nat}, Tm m a → Tm m b → (cmpM a b = some (-1) → ltT a b = true) ∧ (cmpM a b = some 1 → ltT b a = true) := by
  induction a generalizing b with
  | nil =>
    intro m h h2
    rw [cmp_nil1]
    exact ⟨fun z => (nomatch (Option.some.inj z)), fun z => nomatch (Option.some.inj z)⟩
  | cons d a ih =>
    intro m h h2
    cases b with
    | nil =>
      rw [cmp_nil2]
      exact ⟨fun z => (nomatch (Option.some.inj z)), fun z => nomatch (Option.some.inj z)⟩
    | cons e b =>
      obtain ⟨h3, nd, hm⟩ := h.tail
      obtain ⟨h4, ne, _⟩ := h2.tail
      rw [ltT_cons nd ne, ltT_cons ne nd]
      simp only [cmpM]
      by_cases z : PyData.eqv d e = true
      · have de := nd_eqv nd ne z
        subst de
        rw [if_pos z, if_pos z, if_pos z]
        exact ih h3 h4
      · have z2 : ¬ PyData.eqv e d = true := fun y => z (by rw [nd_eqv ne nd y]; exact nd_refl nd)
        rw [if_neg z, if_neg z, if_neg z2]
        by_cases v : (isVarN d && isVarN e) = true
        · rw [if_pos v]
          exact ⟨fun z => (nomatch z), fun z => (nomatch z)⟩
        · rw [if_neg v, ← ltN_key v]
          by_cases l : ltN d e = true
          · rw [if_pos l]
            exact ⟨fun _ => l, fun z => nomatch (Option.some.inj z)⟩
          · rw [if_neg l]
            refine ⟨fun z => (nomatch (Option.some.inj z)), fun _ => ?_⟩
            have tt := PySem.W.toks_eqv (.tuple (keyN d)) (.tuple (keyN e)) (key_alike nd ne)
            have l' : PySem.W.dataLt (.tuple (keyN d)) (.tuple (keyN e)) = false := by
              rw [← ltN_key v]
              exact Bool.not_eq_true _ ▸ l
            cases q : PySem.W.dataLt (.tuple (keyN e)) (.tuple (keyN d)) with
            | true => rfl
            | false =>
              exfalso
              exact z (by rw [← keyN_inj nd ne]; exact key_conn nd ne l' q)
theorem cmp_none_symm {a b : List PyData} : cmpM a b = none → cmpM b a = none := by
  induction a generalizing b with
  | nil => intro h; rw [cmp_nil1] at h; cases h
  | cons d a ih =>
    intro h
    cases b with
    | nil => rw [cmp_nil2] at h; cases h
    | cons e b =>
      simp only [cmpM] at h ⊢
      by_cases z : PyData.eqv d e = true
      · rw [if_pos z] at h
        by_cases y : PyData.eqv e d = true
        · rw [if_pos y]; exact ih h
        · exact absurd (eqv_symm z) y
      · rw [if_neg z] at h
        have y : ¬ PyData.eqv e d = true := fun q => z (eqv_symm q)
        rw [if_neg y]
        by_cases v : (isVarN d && isVarN e) = true
        · rw [Bool.and_comm, if_pos v]
        · rw [if_neg v] at h; cases h
/-- what lies between two terms that differ in a variable -/
theorem between {a b c : List PyData} : ∀ {m : Nat}, Tm m a → Tm m b → Tm m c → cmpM a c = none → ∀ {x : Int}, cmpM a b = some x → x ≠ 1 → ltT c b = false → cmpM b c = none := by
  induction a generalizing b c with
  | nil => intro m _ _ _ h; rw [cmp_nil1] at h; cases h
  | cons d a ih =>
    intro m ha hb hc h x hx nx hl
    cases c with
    | nil => rw [cmp_nil2] at h; cases h
    | cons f c =>
      cases b with
      | nil => exact nomatch hb.nil_of ha
      | cons e b =>
        obtain ⟨ha2, nd, _⟩ := ha.tail
        obtain ⟨hb2, ne, _⟩ := hb.tail
        obtain ⟨hc2, nf, _⟩ := hc.tail
        rw [ltT_cons nf ne] at hl
        simp only [cmpM] at h hx ⊢
        by_cases z : PyData.eqv d f = true
        · rw [if_pos z] at h
          have df := nd_eqv nd nf z
          subst df
          by_cases y : PyData.eqv d e = true
          · have de := nd_eqv nd ne y
            subst de
            rw [if_pos y] at hx hl ⊢
            exact ih ha2 hb2 hc2 h hx nx hl
          · rw [if_neg y] at hx hl
            by_cases v : (isVarN d && isVarN e) = true
            · rw [if_pos v] at hx; cases hx
            · rw [if_neg v] at hx
              have e1 := Option.some.inj hx
              split at e1
              · rename_i l
                rw [ltN_key v] at l
                rw [l] at hl; cases hl
              · exact absurd e1.symm nx
        · rw [if_neg z] at h
          by_cases v : (isVarN d && isVarN f) = true
          · obtain ⟨vd, vf⟩ := Bool.and_eq_true .. ▸ v
            by_cases y : PyData.eqv d e = true
            · have de := nd_eqv nd ne y
              subst de
              rw [if_neg z, if_pos v]
            · rw [if_neg y] at hx
              by_cases ve : isVarN e = true
              · rw [if_pos (by rw [vd, ve]; rfl)] at hx; cases hx
              · have ve' : isVarN e = false := by cases q : isVarN e with
                  | true => exact absurd q ve
                  | false => rfl
                have y2 : ¬ PyData.eqv f e = true := fun q => by
                  rw [← nd_eqv nf ne q] at ve'
                  rw [vf] at ve'; cases ve'
                rw [if_neg y2, var_lt nf ne vf ve'] at hl
                cases hl
          · rw [if_neg v] at h; cases h
/-- what sort_terms keeps behind the term t -/
def keptM (u : Bool) : List PyData → List (List PyData) → Option (List (List PyData))
  | _, [] => some []
  | t, y :: r => match cmpM t y with
    | none => none
    | some o => (keptM u y r).map fun ks => if (!decide (o = 0) || !u) = true then y :: ks else ks
def restM (u : Bool) (l acc : List (List PyData)) : Option (List (List PyData)) := match l with
  | [] => some acc
  | t :: r => (keptM u t r).map fun ks => acc ++ ks
theorem rest_step {u : Bool} {t y : List PyData} {r acc : List (List PyData)} {o : Int} (h : cmpM t y = some o) : restM u (t :: y :: r) acc = restM u (y :: r) (if (!decide (o = 0) || !u) = true then acc ++ [y] else acc) := by
  show (keptM u t (y :: r)).map _ = (keptM u y r).map _
  simp only [keptM, h]
  cases keptM u y r with
  | none => rfl
  | some ks =>
    show some (acc ++ if (!decide (o = 0) || !u) = true then y :: ks else ks) = some ((if (!decide (o = 0) || !u) = true then acc ++ [y] else acc) ++ ks)
    split
    · rw [List.append_assoc]; rfl
    · rfl
theorem rest_none {u : Bool} {t y : List PyData} {r acc : List (List PyData)} (h : cmpM t y = none) : restM u (t :: y :: r) acc = none := by
  show (keptM u t (y :: r)).map _ = _
  simp only [keptM, h]
  rfl
theorem rest_end {u : Bool} {l acc : List (List PyData)} (h : l.length ≤ 1) : restM u l acc = some acc := by
  rcases l with _ | ⟨t, _ | ⟨y, r⟩⟩
  · rfl
  · show some (acc ++ []) = _
    rw [List.append_nil]
  · simp at h
def srt (ts : List (List PyData)) : List (List PyData) := ts.mergeSort (PySem.W.dataLe false keysT)
def keptL (u : Bool) : List (List PyData) → Option (List (List PyData))
  | [] => some []
  | t :: r => (keptM u t r).map fun ks => t :: ks
def sortM (u : Bool) (ts : List (List PyData)) : Option (List (List PyData)) := keptL u (srt ts)
theorem rest_zero (u : Bool) (ts : List (List PyData)) : restM u (srt ts) ((srt ts).take 1) = sortM u ts := by
  unfold sortM
  cases srt ts with
  | nil => rfl
  | cons t r => rfl
def Up (l : List (List PyData)) : Prop := l.Pairwise fun a b => ltT b a = false
theorem srt_up (ts : List (List PyData)) : Up (srt ts) :=
  (PySem.W.sort_pairwise (le := PySem.W.dataLe false keysT) (PySem.W.sortLe_total (PyProof.Rows.listOrd PyProof.Rows.itemOrd) false fun a => PySem.W.keyToks (keysT a)) ts).imp fun {a b} h => by
    have h' : (!ltT b a) = true := h
    rwa [Bool.not_eq_true'] at h'
theorem srt_mem {ts : List (List PyData)} {t : List PyData} : t ∈ srt ts ↔ t ∈ ts := (List.mergeSort_perm ts _).mem_iff
theorem srt_len (ts : List (List PyData)) : (srt ts).length = ts.length := (List.mergeSort_perm ts _).length_eq
/-- every two are decided -/
def Dec (ts : List (List PyData)) : Prop := ∀ a ∈ ts, ∀ b ∈ ts, cmpM a b ≠ none
theorem kept_dec {u : Bool} : ∀ {r : List (List PyData)} {t : List PyData}, (∀ a ∈ t :: r, Tm 1 a) → Up (t :: r) → (keptM u t r ≠ none ↔ Dec (t :: r))
  | [], t, ht, _ => by
    refine ⟨fun _ a ha b hb => ?_, fun _ z => nomatch z⟩
    rw [List.mem_singleton.mp ha, List.mem_singleton.mp hb, cmp_self (ht t (.head _)).2]
    exact fun z => nomatch z
  | y :: r, t, ht, hu => by
    have hu2 : Up (y :: r) := (List.pairwise_cons.mp hu).2
    have ht2 : ∀ a ∈ y :: r, Tm 1 a := fun a ha => ht a (.tail _ ha)
    have ih := kept_dec (u := u) ht2 hu2
    simp only [keptM]
    cases q : cmpM t y with
    | none =>
      refine ⟨fun z => absurd rfl z, fun z => absurd q (z t (.head _) y (.tail _ (.head _)))⟩
    | some o =>
      have e : ((keptM u y r).map fun ks => if (!decide (o = 0) || !u) = true then y :: ks else ks) ≠ none ↔ keptM u y r ≠ none := by
        cases keptM u y r with
        | none => exact ⟨fun z => absurd rfl z, fun z => absurd rfl z⟩
        | some ks => exact ⟨fun _ z => (nomatch z), fun _ z => (nomatch z)⟩
      show ((keptM u y r).map _) ≠ none ↔ _
      rw [e, ih]
      refine ⟨fun D => ?_, fun D a ha b hb => D a (.tail _ ha) b (.tail _ hb)⟩
      have o1 : o ≠ 1 := fun z => by
        rw [z] at q
        have l := (cmp_lt (ht t (.head _)) (ht y (.tail _ (.head _)))).2 q
        rw [(List.pairwise_cons.mp hu).1 y (.head _)] at l
        cases l
      have first : ∀ c ∈ y :: r, cmpM t c ≠ none := fun c hc z => by
        rcases List.mem_cons.mp hc with rfl | hc'
        · rw [q] at z; cases z
        · exact D y (.head _) c hc (between (ht t (.head _)) (ht y (.tail _ (.head _))) (ht c (.tail _ hc)) z q o1 ((List.pairwise_cons.mp hu2).1 c hc'))
      intro a ha b hb
      rcases List.mem_cons.mp ha with ea | ha2
      · rcases List.mem_cons.mp hb with eb | hb2
        · rw [ea, eb, cmp_self (ht _ (.head _)).2]; exact fun z => nomatch z
        · rw [ea]; exact first b hb2
      · rcases List.mem_cons.mp hb with eb | hb2
        · rw [eb]; exact fun z => first a ha2 (cmp_none_symm z)
        · exact D a ha2 b hb2
theorem kept_all : ∀ {r : List (List PyData)} {t : List PyData}, Dec (t :: r) → keptM false t r = some r
  | [], _, _ => rfl
  | y :: r, t, D => by
    simp only [keptM]
    cases q : cmpM t y with
    | none => exact absurd q (D t (.head _) y (.tail _ (.head _)))
    | some o =>
      show (keptM false y r).map _ = _
      rw [kept_all fun a ha b hb => D a (.tail _ ha) b (.tail _ hb)]
      show some (if (!decide (o = 0) || !false) = true then y :: r else r) = some (y :: r)
      rw [if_pos (by simp)]
theorem kept_true : ∀ {r : List (List PyData)} {t : List PyData} {ks : List (List PyData)}, (∀ a ∈ t :: r, Tm 1 a) → Up (t :: r) → keptM true t r = some ks → ks.Sublist r ∧ (∀ x, x ∈ t :: ks ↔ x ∈ t :: r) ∧ ks.Nodup ∧ ∀ x ∈ ks, x ≠ t
  | [], t, ks, _, _, h => by
    obtain rfl := Option.some.inj h
    exact ⟨List.Sublist.refl _, fun _ => Iff.rfl, List.nodup_nil, fun _ hx => (nomatch hx)⟩
  | y :: r, t, ks, ht, hu, h => by
    simp only [keptM] at h
    cases q : cmpM t y with
    | none => rw [q] at h; cases h
    | some o =>
      rw [q] at h
      have h1 : (keptM true y r).map (fun ks => if (!decide (o = 0) || !true) = true then y :: ks else ks) = some ks := h
      cases e : keptM true y r with
      | none => rw [e] at h1; cases h1
      | some k2 =>
        rw [e] at h1
        have h2 : (if (!decide (o = 0) || !true) = true then y :: k2 else k2) = ks := Option.some.inj h1
        have tt := ht t (.head _)
        have ty := ht y (.tail _ (.head _))
        obtain ⟨i1, i2, i3, i4⟩ := kept_true (fun a ha => ht a (.tail _ ha)) (List.pairwise_cons.mp hu).2 e
        by_cases z : o = 0
        · rw [if_neg (by simp [z])] at h2
          subst z h2
          obtain rfl := cmp_zero tt ty q
          refine ⟨i1.cons _, fun x => ?_, i3, i4⟩
          rw [i2 x]
          exact ⟨fun a => .tail _ a, fun a => by rcases List.mem_cons.mp a with rfl | a
                                                 · exact .head _
                                                 · exact a⟩
        · rw [if_pos (by simp [z])] at h2
          subst h2
          have ny : y ≠ t := fun w => by
            rw [w, cmp_self tt.2] at q
            exact z (Option.some.inj q).symm
          refine ⟨i1.cons_cons _, fun x => ?_, List.nodup_cons.mpr ⟨fun a => i4 y a rfl, i3⟩, fun x hx w => ?_⟩
          · rw [List.mem_cons, i2 x, ← List.mem_cons]
          · rcases List.mem_cons.mp hx with rfl | hx
            · exact ny w
            · subst w
              have hx2 : x ∈ y :: r := (i2 x).mp (.tail _ hx)
              have l1 := (List.pairwise_cons.mp hu).1 y (.head _)
              rcases List.mem_cons.mp hx2 with rfl | hx3
              · exact ny rfl
              · have l2 := (List.pairwise_cons.mp (List.pairwise_cons.mp hu).2).1 x hx3
                rcases cmp_vals q with rfl | rfl | rfl
                · exact z rfl
                · rw [(cmp_lt tt ty).2 q] at l1; cases l1
                · rw [(cmp_lt tt ty).1 q] at l2; cases l2
theorem srt_tm {ts : List (List PyData)} (h : ∀ t ∈ ts, Tm 1 t) : ∀ t ∈ srt ts, Tm 1 t := fun t ht => h t (srt_mem.mp ht)
theorem srt_dec {ts : List (List PyData)} : Dec (srt ts) ↔ Dec ts :=
  ⟨fun D a ha b hb => D a (srt_mem.mpr ha) b (srt_mem.mpr hb), fun D a ha b hb => D a (srt_mem.mp ha) b (srt_mem.mp hb)⟩
theorem dec_all {ts : List (List PyData)} (D : Dec ts) : sortM false ts = some (srt ts) := by
  have D2 := srt_dec.mpr D
  unfold sortM
  cases e : srt ts with
  | nil => rfl
  | cons t r =>
    rw [e] at D2
    show (keptM false t r).map _ = _
    rw [kept_all D2]
    rfl
theorem und_all {u : Bool} {ts : List (List PyData)} (h : ∀ t ∈ ts, Tm 1 t) (D : ¬ Dec ts) : sortM u ts = none := by
  have D2 : ¬ Dec (srt ts) := fun z => D (srt_dec.mp z)
  have up := srt_up ts
  have tm := srt_tm h
  unfold sortM
  cases e : srt ts with
  | nil => rw [e] at D2; exact absurd (fun a ha => (nomatch ha)) D2
  | cons t r =>
    rw [e] at D2 up tm
    show (keptM u t r).map _ = _
    cases q : keptM u t r with
    | none => rfl
    | some ks => exact absurd ((kept_dec tm up).mp (by rw [q]; exact fun z => nomatch z)) D2
theorem adj {l : List (List PyData)} : ∀ {k : Nat} {a b : List PyData}, Up l → l[k]? = some a → l[k + 1]? = some b → ltT b a = false := by
  intro k a b hu h1 h2
  obtain ⟨i1, e1⟩ := List.getElem?_eq_some_iff.mp h1
  obtain ⟨i2, e2⟩ := List.getElem?_eq_some_iff.mp h2
  have := List.pairwise_iff_getElem.mp hu k (k + 1) i1 i2 (Nat.lt_succ_self k)
  rwa [e1, e2] at this
theorem adj_up {ts : List (List PyData)} (h : ∀ t ∈ ts, Tm 1 t) {k : Nat} {a b : List PyData} (h1 : (srt ts)[k]? = some a) (h2 : (srt ts)[k + 1]? = some b) : cmpM a b ≠ some 1 := fun z => by
  have l := adj (srt_up ts) h1 h2
  rw [(cmp_lt (srt_tm h a (List.mem_of_getElem? h1)) (srt_tm h b (List.mem_of_getElem? h2))).2 z] at l
  cases l
theorem dec_one {ts : List (List PyData)} (h : ∀ t ∈ ts, Tm 1 t) (D : Dec ts) : ∃ ks, sortM true ts = some ks ∧ ks.Nodup ∧ (∀ x, x ∈ ks ↔ x ∈ ts) ∧ (∀ k a b, ks[k]? = some a → ks[k + 1]? = some b → cmpM a b = some (-1)) ∧ ks.length ≤ ts.length := by
  have D2 := srt_dec.mpr D
  have up := srt_up ts
  have tm := srt_tm h
  have len := srt_len ts
  have mem : ∀ x, x ∈ srt ts ↔ x ∈ ts := fun x => srt_mem
  unfold sortM
  cases e : srt ts with
  | nil =>
    rw [e] at mem
    exact ⟨[], rfl, List.nodup_nil, mem, fun k a b z => (by simp at z), Nat.zero_le _⟩
  | cons t r =>
    rw [e] at D2 up tm len mem
    cases q : keptM true t r with
    | none => exact absurd q ((kept_dec tm up).mpr D2)
    | some ks =>
      obtain ⟨i1, i2, i3, i4⟩ := kept_true tm up q
      have sub : (t :: ks).Sublist (t :: r) := i1.cons_cons _
      have nd : (t :: ks).Nodup := List.nodup_cons.mpr ⟨fun a => i4 t a rfl, i3⟩
      have up2 : Up (t :: ks) := up.sublist sub
      refine ⟨t :: ks, by show (keptM true t r).map _ = _; rw [q]; rfl, nd, fun x => (i2 x).trans (mem x), fun k a b h1 h2 => ?_, by rw [← len]; exact sub.length_le⟩
      have ma : a ∈ t :: r := (i2 a).mp (List.mem_of_getElem? h1)
      have mb : b ∈ t :: r := (i2 b).mp (List.mem_of_getElem? h2)
      have l := adj up2 h1 h2
      have ne : a ≠ b := fun z => by
        obtain ⟨j1, e1⟩ := List.getElem?_eq_some_iff.mp h1
        obtain ⟨j2, e2⟩ := List.getElem?_eq_some_iff.mp h2
        have := List.pairwise_iff_getElem.mp nd k (k + 1) j1 j2 (Nat.lt_succ_self k)
        rw [e1, e2] at this
        exact this z
      cases c : cmpM a b with
      | none => exact absurd c (D2 a ma b mb)
      | some o =>
        rcases cmp_vals c with rfl | rfl | rfl
        · exact absurd (cmp_zero (tm a ma) (tm b mb) c) ne
        · rw [(cmp_lt (tm a ma) (tm b mb)).2 c] at l; cases l
        · rfl
/-! ### rows of terms as data -/
def rowD (ts : List (List PyData)) : List PyData := ts.map PyData.tuple
open Classical in
theorem eqv_all {a b : List PyData} (ha : ∀ d ∈ a, NdA d) (hb : ∀ d ∈ b, NdA d) : PyData.eqvAll a b = decide (a = b) := by
  induction a generalizing b with
  | nil =>
    cases b with
    | nil => simp only [PyData.eqvAll, decide_true]
    | cons e b => simp [PyData.eqvAll]
  | cons d a ih =>
    cases b with
    | nil => simp [PyData.eqvAll]
    | cons e b =>
      simp only [PyData.eqvAll]
      rw [ih (fun x hx => ha x (.tail _ hx)) fun x hx => hb x (.tail _ hx)]
      by_cases z : PyData.eqv d e = true
      · have de := nd_eqv (ha d (.head _)) (hb e (.head _)) z
        subst de
        rw [z, Bool.true_and]
        by_cases y : a = b
        · rw [y]; simp
        · rw [decide_eq_false y, decide_eq_false fun w => y (List.cons.inj w).2]
      · have z' : PyData.eqv d e = false := by cases q : PyData.eqv d e with
          | true => exact absurd q z
          | false => rfl
        rw [z', Bool.false_and, decide_eq_false fun w => ?_]
        rw [(List.cons.inj w).1] at z
        exact z (nd_refl (hb e (.head _)))
open Classical in
theorem eqv_tup {a b : List PyData} (ha : ∀ d ∈ a, NdA d) (hb : ∀ d ∈ b, NdA d) : PyData.eqv (.tuple a) (.tuple b) = decide (a = b) := by
  simp only [PyData.eqv]
  exact eqv_all ha hb
open Classical in
theorem rows_eqv : ∀ {ts us : List (List PyData)}, (∀ t ∈ ts, ∀ d ∈ t, NdA d) → (∀ t ∈ us, ∀ d ∈ t, NdA d) → PyData.eqv (.list (rowD ts)) (.list (rowD us)) = decide (ts = us) := by
  intro ts us h h2
  simp only [PyData.eqv]
  induction ts generalizing us with
  | nil =>
    cases us with
    | nil => simp [rowD, PyData.eqvAll]
    | cons u us => simp [rowD, PyData.eqvAll]
  | cons t ts ih =>
    cases us with
    | nil => simp [rowD, PyData.eqvAll]
    | cons u us =>
      simp only [rowD, List.map_cons, PyData.eqvAll]
      have i := ih (fun x hx => h x (.tail _ hx)) (us := us) fun x hx => h2 x (.tail _ hx)
      simp only [rowD] at i
      rw [i, eqv_tup (h t (.head _)) (h2 u (.head _))]
      by_cases z : t = u
      · subst z
        by_cases y : ts = us
        · subst y; simp
        · simp [y]
      · simp [z]
theorem rows_shaped {ts : List (List PyData)} (h : ∀ t ∈ ts, ∀ d ∈ t, NdA d) : SeqAt.shaped (.list (rowD ts)) = true := by
  have k : PyData.canLayAll0 (rowD ts) = true ∧ PyData.depthAll (rowD ts) ≤ 2 := by
    induction ts with
    | nil => exact ⟨by simp [rowD, PyData.canLayAll0], by simp [rowD, PyData.depthAll]⟩
    | cons t ts ih =>
      obtain ⟨i1, i2⟩ := ih fun x hx => h x (.tail _ hx)
      obtain ⟨a1, a2, _⟩ := nds_lay (h t (.head _))
      simp only [rowD, List.map_cons, PyData.canLayAll0, PyData.canLay0, PyData.depthAll, PyData.depth] at i1 i2 ⊢
      refine ⟨by rw [a1, i1]; rfl, by omega⟩
  have hc : (PyData.list (rowD ts)).canLay0 = true := by simp only [PyData.canLay0]; exact k.1
  have hd : (PyData.list (rowD ts)).depth ≤ 64 := by simp only [PyData.depth]; omega
  show ((PyData.list (rowD ts)).canLay0 && decide ((PyData.list (rowD ts)).depth ≤ 64)) = true
  rw [hc, decide_eq_true hd]
  rfl
theorem rows_plain {ts : List (List PyData)} (h : ∀ t ∈ ts, ∀ d ∈ t, NdA d) : PyData.plainAll (rowD ts) = true := by
  have := rows_shaped h
  have hc : (PyData.list (rowD ts)).canLay0 = true := SeqAt.canLay_of_shaped this
  have hp := PyData.plain_of_canLay0 _ hc
  simpa only [PyData.plain] using hp
open Classical in
theorem row_count {ts : List (List PyData)} {t : List PyData} (h : ∀ t ∈ ts, ∀ d ∈ t, NdA d) (ht : ∀ d ∈ t, NdA d) : (rowD ts).countP (fun z => PyData.eqv z (.tuple t)) = ts.countP (fun z => decide (z = t)) := by
  unfold rowD
  rw [List.countP_map]
  refine List.countP_congr fun x hx => ?_
  show (PyData.eqv (.tuple x) (.tuple t) = true ↔ _)
  rw [eqv_tup (h x hx) ht]
open Classical in
theorem row_in {ts : List (List PyData)} {t : List PyData} (h : ∀ t ∈ ts, ∀ d ∈ t, NdA d) (ht : t ∈ ts) : (rowD ts).any (fun z => PyData.eqv z (.tuple t)) = true := by
  refine List.any_eq_true.mpr ⟨.tuple t, List.mem_map.mpr ⟨t, ht, rfl⟩, ?_⟩
  rw [eqv_tup (h t ht) (h t ht)]
  simp
open Classical in
theorem count_one {l : List (List PyData)} {t : List PyData} (hn : l.Nodup) (ht : t ∈ l) : l.countP (fun z => decide (z = t)) = 1 := by
  induction l with
  | nil => cases ht
  | cons x l ih =>
    obtain ⟨h1, h2⟩ := List.nodup_cons.mp hn
    rw [List.countP_cons]
    by_cases z : x = t
    · subst z
      have : l.countP (fun z => decide (z = x)) = 0 := List.countP_eq_zero.mpr fun y hy => by
        intro w
        exact h1 (of_decide_eq_true w ▸ hy)
      rw [this]
      simp
    · rcases List.mem_cons.mp ht with rfl | ht
      · exact absurd rfl z
      · rw [ih h2 ht, if_neg (by simp [z])]
/-! ### the promises -/
abbrev Rw (K : PySem.W.Frag) (H : Hp) (xs : List V) (ts : List (List PyData)) : Prop := PySem.W.EachIs (fun x t => Dp K H x (.tuple t)) xs ts
theorem Rw.same {K : PySem.W.Frag} {H H' : Hp} (e : Same H H') {xs : List V} {ts : List (List PyData)} (h : Rw K H xs ts) : Rw K H' xs ts := PySem.W.EachIs.mono (fun _ _ d => dp_same e _ _ d) h
theorem Rw.dp {K : PySem.W.Frag} {H : Hp} : ∀ {xs : List V} {ts : List (List PyData)}, Rw K H xs ts → DpAll K H xs (rowD ts)
  | _, _, .nil => .nil
  | _, _, .cons d t => .cons d (Rw.dp t)
theorem Rw.at {K : PySem.W.Frag} {H : Hp} {xs : List V} {ts : List (List PyData)} (h : Rw K H xs ts) {i : Nat} {x : V} (e : xs[i]? = some x) : ∃ t, ts[i]? = some t ∧ Dp K H x (.tuple t) := each_at h e
theorem Rw.take {K : PySem.W.Frag} {H : Hp} : ∀ {xs : List V} {ts : List (List PyData)} (n : Nat), Rw K H xs ts → Rw K H (xs.take n) (ts.take n)
  | _, _, 0, _ => .nil
  | _, _, _ + 1, .nil => .nil
  | _, _, n + 1, .cons d t => .cons d (Rw.take n t)
theorem Rw.snoc {K : PySem.W.Frag} {H : Hp} {x : V} {t : List PyData} : ∀ {xs : List V} {ts : List (List PyData)}, Rw K H xs ts → Dp K H x (.tuple t) → Rw K H (xs ++ [x]) (ts ++ [t])
  | _, _, .nil, d => .cons d .nil
  | _, _, .cons d r, e => .cons d (Rw.snoc r e)
theorem Rw.of {K : PySem.W.Frag} {H : Hp} : ∀ {ts : List (List PyData)} {xs : List V}, DpAll K H xs (rowD ts) → Rw K H xs ts
  | [], _, d => by cases d; exact .nil
  | t :: ts, _, d => by
    have d' : DpAll K H _ (.tuple t :: rowD ts) := d
    cases d' with
    | cons d1 d2 => exact .cons d1 (Rw.of d2)
theorem nd_noL {d : PyData} (h : NdA d) : noL d = true := by
  obtain ⟨wd, h⟩ := h
  cases h <;> simp [noL, noLs]
theorem tup_noL {t : List PyData} (h : ∀ d ∈ t, NdA d) : noL (.tuple t) = true := by
  simp only [noL]
  exact noLs_of fun d hd => nd_noL (h d hd)
theorem Rw.noL {K : PySem.W.Frag} {H H' : Hp} {D : Addr} (e : ButL D H H') : ∀ {xs : List V} {ts : List (List PyData)}, (∀ t ∈ ts, ∀ d ∈ t, NdA d) → Rw K H xs ts → Rw K H' xs ts
  | _, _, _, .nil => .nil
  | _, _, h, .cons d r => .cons (dp_noL e _ _ (tup_noL (h _ (.head _))) d) (Rw.noL e (fun t ht => h t (.tail _ ht)) r)
def OkT (t : List PyData) : Prop := Tm 1 t ∧ t.length ≤ 100
def sp_term_key (K : PySem.W.Frag) : Sp := fun vs H Q _ => ∃ (x : V) (ds : List PyData), vs = [x] ∧ Dp K H x (.tuple ds) ∧ (∀ d ∈ ds, NdA d) ∧ ds.length ≤ 1000 ∧ ∀ v H', Same H H' → Dp K H' v (keysT ds) → Q v H'
def sp_sort_terms (K : PySem.W.Frag) : Sp := fun vs H Q _ => ∃ (a : Addr) (xs : List V) (ts : List (List PyData)) (u : Bool), vs = [.ref a, .bl u] ∧ SqL K H a xs ∧ Rw K H xs ts ∧ (∀ t ∈ ts, OkT t) ∧ ts.length ≤ 100 ∧
  (sortM u ts = none → ∀ H', Same H H' → Q .non H') ∧ ∀ ks, sortM u ts = some ks → ∀ H' p ys, Same H H' → H p = Option.none → H' p = some (.lst ys) → Rw K H' ys ks → Q (.ref p) H'
def sp__law_order (K : PySem.W.Frag) : Sp := fun vs H Q _ => ∃ (x y : V) (ds es : List PyData), vs = [x, y] ∧ Dp K H x (.tuple ds) ∧ Dp K H y (.tuple es) ∧ (∀ d ∈ ds, NdA d) ∧ (∀ d ∈ es, NdA d) ∧ ds.length ≤ 1000 ∧ es.length ≤ 1000 ∧ ∀ H', Same H H' → Q (resV (cmpM ds es)) H'
theorem drw {K : PySem.W.Frag} {H : Hp} {Q : VK} {E : XK} {s l : Addr} {n : Int} (S : Stm H s l) (h0 : 0 < n) (h1 : n ≤ 10 ^ 41) (q : ∀ r H', 0 ≤ r → r < n → But s H H' → Stm H' s l → Q (.int r) H') : sp__law_draw K ([V.ref s, .int n] ++ []) H Q E := ⟨s, l, n, rfl, S, h0, nine (by omega) h1, q⟩
theorem count_same {ts : List (List PyData)} (t : List PyData) (h : ∀ t ∈ ts, ∀ d ∈ t, NdA d) (ht : ∀ d ∈ t, NdA d) : (rowD (srt ts)).countP (fun z => PyData.eqv z (.tuple t)) = (rowD ts).countP (fun z => PyData.eqv z (.tuple t)) := by
  unfold rowD
  exact (((List.mergeSort_perm ts _).map PyData.tuple).countP_eq _)
def sp_law (K : PySem.W.Frag) : Sp := fun vs H Q _ => ∃ (a : Addr) (ns : List Int), vs = [.ref a] ∧ SqL K H a (ns.map V.int) ∧ ns.length ≤ 63 ∧ ∀ H', Q (.bl true) H'

local macro_rules | `(tactic| walk_at "lits") => `(tactic| repeat' (first | exact lit_int | exact lit_str | exact lit_bl | exact lit_non | exact litA_nil | refine litA_cons ?_ ?_ | refine lit_tup ?_ (by decide) | refine lit_lst ?_ (by decide) | refine lit_neg ?_ | refine lit_sub ?_ ?_ | refine lit_pow ?_ ?_ ⟨by decide, by decide, by decide⟩ | refine lit_mulS ?_ ?_ ⟨by decide, by decide, by decide⟩))
local macro_rules | `(tactic| walk_at "gn") => `(tactic| with_reducible first | refine g_n0 ?_ | refine g_n1 ?_ | refine g_n2 ?_ | refine g_n3 ?_ | refine g_n4 ?_ | refine g_n5 ?_ | refine g_n6 ?_ | refine g_n7 ?_ | refine g_n8 ?_ | refine g_n9 ?_ | refine g_n10 ?_ | refine g_n11 ?_ | refine g_n12 ?_ | refine g_n13 ?_ | refine g_n14 ?_ | refine g_n15 ?_ | refine g_n16 ?_ | refine g_n17 ?_ | refine g_n18 ?_ | refine g_n19 ?_ | refine g_n20 ?_ | refine g_n21 ?_ | refine g_n22 ?_ | refine g_n23 ?_ | refine g_n24 ?_ | refine g_n25 ?_)
local macro_rules | `(tactic| walk_at "go") => `(tactic| repeat with_reducible first | refine g_var (by with_unfolding_all exact rfl) ?_ | refine g_c ?_ | refine g_cons ?_ | refine g_nil ?_ | refine g_seq ?_ | refine g_asg ?_ | refine g_op ?_ | refine g_i0 ?_ | refine g_call ?_ | refine g_cb ?_ | refine g_test ?_ | refine g_b ?_ | refine g_bl ?_ | refine g_in ?_ | refine g_ifS ?_ | refine g_next ?_ | refine nxp ?_ | refine g_ret ?_ | refine g_rt ?_ | refine g_bk ?_ | refine g_ct ?_ | refine g_drop ?_ | refine g_eqi ?_ | refine g_nei ?_ | refine g_eqs ?_ | refine g_nes ?_ | refine g_not ?_ | refine g_and ?_ | refine g_or ?_ | refine g_andV ?_ | refine g_orV ?_ | refine g_notV ?_ | refine g_if ?_ | refine g_brk ?_ | refine g_cont ?_ | refine g_retN ?_ | refine g_par ?_ | refine g_two ?_ | refine g_aug (by with_unfolding_all exact rfl) ?_ | refine g_callN ?_ | refine g_kw ?_ | refine g_tup ?_ | refine g_lst ?_ | refine g_sl ?_ | refine g_np ?_ | refine g_part ?_ | refine g_bm ?_ | refine g_bm0 ?_ | refine g_un ?_ | refine g_iu ?_ | refine g_sub ?_ | refine g_yes ?_ | refine iteT ?_ | refine iteF ?_ | refine iteNf ?_ | refine iteNt ?_ | refine g_for ?_ | refine g_iL ?_ | refine g_iT ?_ | refine g_iR1 ?_ | refine g_iR2 ?_ | refine g_iZ ?_ | refine g_gcons ?_ | refine g_gnil ?_ | refine g_lc ?_ | walk_at "gn")
local macro_rules | `(tactic| walk_at "gs") => `(tactic| repeat with_reducible first | refine g_var (by with_unfolding_all exact rfl) ?_ | refine g_c ?_ | refine g_cons ?_ | refine g_nil ?_ | refine g_seq ?_ | refine g_asg ?_ | refine g_op ?_ | refine g_i0 ?_ | refine g_call ?_ | refine g_cb ?_ | refine g_test ?_ | refine g_b ?_ | refine g_bl ?_ | refine g_in ?_ | refine g_next ?_ | refine nxp ?_ | refine g_ret ?_ | refine g_rt ?_ | refine g_bk ?_ | refine g_ct ?_ | refine g_drop ?_ | refine g_eqi ?_ | refine g_nei ?_ | refine g_eqs ?_ | refine g_nes ?_ | refine g_not ?_ | refine g_and ?_ | refine g_or ?_ | refine g_andV ?_ | refine g_orV ?_ | refine g_notV ?_ | refine g_if ?_ | refine g_brk ?_ | refine g_cont ?_ | refine g_retN ?_ | refine g_par ?_ | refine g_two ?_ | refine g_aug (by with_unfolding_all exact rfl) ?_ | refine g_callN ?_ | refine g_kw ?_ | refine g_tup ?_ | refine g_lst ?_ | refine g_sl ?_ | refine g_np ?_ | refine g_part ?_ | refine g_bm ?_ | refine g_bm0 ?_ | refine g_un ?_ | refine g_iu ?_ | refine g_sub ?_ | refine g_yes ?_ | refine iteT ?_ | refine iteF ?_ | refine iteNf ?_ | refine iteNt ?_ | refine g_for ?_ | refine g_iL ?_ | refine g_iT ?_ | refine g_iR1 ?_ | refine g_iR2 ?_ | refine g_iZ ?_ | refine g_gcons ?_ | refine g_gnil ?_ | refine g_lc ?_ | walk_at "gn")
section
variable {P : Program} {w : World} {K : PySem.W.Frag} {mg : Str → Option Value} {base : Heap}
theorem ok_is_variable {f : Addr} {fd : FuncData} (F : Fun K "is_variable" "is_variable" s_is_variable f fd) (E : Bi K mg)  : FnOk P w K mg base CX0 1 f fd ["node"] (sp_is_variable K) := by
  refine F.ok sc_is_variable (fun vs H Q E h => ?_) (fun cdv A outer s H vs Q E' hr h => ?_)
  · obtain ⟨x, d, rfl, _⟩ := h
    rfl
  · obtain ⟨x, d, rfl, hd, ⟨wd, nd⟩, q⟩ := h
    refine ⟨_, (pss_one (ps_ret (pe_and (pe_callB call_isi (by rfl) E.b_isinstance (by decide +kernel) (pa_cons (pv 0) (pa_cons (pe_ty "tuple" (by rfl) E.b_tuple (by decide +kernel)) pa_nil))) (pe_one (pe_cmpR op_eq (pe_ix ix_tup (pv 0) pe_int (fun _ _ => rfl)) pe_str (nomark _)))))), ?_⟩
    refine ⟨x, rfl, _, _, _, _, _, rfl, .ty _, tyx_of hd, kit_ty (kitT _), _, rfl, ?_⟩
    cases nd with
    | v n h1 h2 =>
      cases hd with
      | tup hs ha =>
        obtain ⟨v, hv, hdv⟩ := DpAll.get (i := 0) ha rfl
        cases hdv
        refine iteT ⟨_, rfl, _, _, _, _, rfl, rfl, hs, atI_nat (j := 0) hv, rfl, ?_⟩
        rw [decide_eq_true rfl]
        exact q
    | i n h1 h2 => exact iteF q
    | f y n h1 h2 h3 =>
      cases hd with
      | tup hs ha =>
        obtain ⟨v, hv, hdv⟩ := DpAll.get (i := 0) ha rfl
        cases hdv
        refine iteT ⟨_, rfl, _, _, _, _, rfl, rfl, hs, atI_nat (j := 0) hv, rfl, ?_⟩
        rw [show decide (V.str (Str.ofString "f") = V.str (Str.ofString "v")) = false by decide +kernel]
        exact q

theorem ok_is_symbol {f : Addr} {fd : FuncData} (F : Fun K "is_symbol" "is_symbol" s_is_symbol f fd) (E : Bi K mg)  : FnOk P w K mg base CX0 1 f fd ["node"] (sp_is_symbol K) := by
  refine F.ok sc_is_symbol (fun vs H Q E h => ?_) (fun cdv A outer s H vs Q E' hr h => ?_)
  · obtain ⟨x, d, rfl, _⟩ := h
    rfl
  · obtain ⟨x, d, rfl, hd, ⟨wd, nd⟩, q⟩ := h
    refine ⟨_, (pss_one (ps_ret (pe_and (pe_callB call_isi (by rfl) E.b_isinstance (by decide +kernel) (pa_cons (pv 0) (pa_cons (pe_ty "tuple" (by rfl) E.b_tuple (by decide +kernel)) pa_nil))) (pe_one (pe_cmpR op_eq (pe_ix ix_tup (pv 0) pe_int (fun _ _ => rfl)) pe_str (nomark _)))))), ?_⟩
    refine ⟨x, rfl, _, _, _, _, _, rfl, .ty _, tyx_of hd, kit_ty (kitT _), _, rfl, ?_⟩
    cases nd with
    | v n h1 h2 =>
      cases hd with
      | tup hs ha =>
        obtain ⟨v, hv, hdv⟩ := DpAll.get (i := 0) ha rfl
        cases hdv
        refine iteT ⟨_, rfl, _, _, _, _, rfl, rfl, hs, atI_nat (j := 0) hv, rfl, ?_⟩
        rw [show decide (V.str (Str.ofString "v") = V.str (Str.ofString "f")) = false by decide +kernel]
        exact q
    | i n h1 h2 => exact iteF q
    | f y n h1 h2 h3 =>
      cases hd with
      | tup hs ha =>
        obtain ⟨v, hv, hdv⟩ := DpAll.get (i := 0) ha rfl
        cases hdv
        refine iteT ⟨_, rfl, _, _, _, _, rfl, rfl, hs, atI_nat (j := 0) hv, rfl, ?_⟩
        rw [decide_eq_true rfl]
        exact q

theorem ok__law_stream {f : Addr} {fd : FuncData} (F : Fun K "_law_stream" "_law_stream" s__law_stream f fd) (E : Bi K mg)  : FnOk P w K mg base CX0 1 f fd ["script"] (sp__law_stream K) := by
  refine F.ok sc__law_stream (fun vs H Q E h => ?_) (fun cdv A outer s H vs Q E' hr h => ?_)
  · obtain ⟨a, ns, rfl, _⟩ := h
    rfl
  · obtain ⟨a, ns, rfl, hS, hl, q⟩ := h
    refine ⟨_, (pss_cons (ps_set (i := 1) sc__law_stream.nd rfl (Or.inl rfl) pe_int)
      (pss_cons (ps_for PassesOwn.never rfl (pi_list (pv 0)) (pg_name (i := 2) sc__law_stream.nd rfl (Or.inl rfl)) (pss_one (ps_set (i := 1) sc__law_stream.nd rfl (Or.inl rfl) (pe_op op_mod (pe_callTy call_int1 (by rfl) E.b_int (by decide +kernel) (pa_cons (pe_op op_add (pe_op op_add (pe_op op_mul (pv 1) pe_int) (pe_op op_mod (pe_callTy call_int1 (by rfl) E.b_int (by decide +kernel) (pa_cons (pv 2) pa_nil)) pe_int)) pe_int) pa_nil)) pe_int))))
      (pss_one (ps_ret (pe_lst (pa_cons (pe_callTy call_list_of (by rfl) E.b_list (by decide +kernel) (pa_cons (pv 0) pa_nil)) (pa_cons pe_int (pa_cons pe_int (pa_cons (pv 1) pa_nil))))))))), ?_⟩
    refine ⟨_, rfl, a, rfl, ⟨_, hS⟩, for_list (K := K) (a := a) (xs := ns.map V.int) (fun i σ H1 => ∃ (m : Int) (v : Option V), σ = [some (.ref a), some (.int m), v] ∧ H1 = H ∧ 0 ≤ m ∧ m < 2147483647)
      ⟨17, none, rfl, rfl, by decide, by decide⟩ (fun i σ H1 _ ⟨_, _, _, e, _⟩ => by rw [e]; exact hS) ?_ ?_⟩
    · rintro i y σ H1 hi ⟨m, v, rfl, rfl, h0, h1⟩
      obtain ⟨z, rfl⟩ : ∃ z, y = V.int z := by
        rw [List.getElem?_map] at hi
        cases e : ns[i]? with
        | none =>
          rw [e] at hi
          cases hi
        | some z =>
          rw [e] at hi
          exact ⟨z, (Option.some.inj hi).symm⟩
      refine ⟨_, rfl, _, _, rfl, rfl, .inr ⟨by decide, by decide⟩, _, rfl, .inl ⟨_, rfl, _, _, rfl, rfl, (by decide : (0 : Int) < 65521), _, _, rfl, rfl, _, _, rfl, rfl, .inl ⟨_, rfl, _, _, rfl, rfl, (by decide : (0 : Int) < 2147483647), ?_⟩⟩⟩
      exact ⟨_, _, rfl, rfl, Int.emod_nonneg _ (by decide), Int.emod_lt_of_pos _ (by decide)⟩
    · rintro σ H1 ⟨m, v, rfl, rfl, h0, h1⟩
      refine ⟨_, rfl, a, _, rfl, .inl hS, fun l hl2 => ⟨_, rfl, (by show 4 ≤ sizeLine; decide), fun p hp => ?_⟩⟩
      have npl : l ≠ p := fun z => by
        rw [← z, upd_same] at hp
        cases hp
      refine q p l _ ((same_upd hl2).free hp) hl2 ((same_upd hl2).trans (same_upd hp)) ⟨0, 0, m, ns, upd_same, ?_, hl, Int.le_refl 0, Int.le_refl 0, h0, h1⟩
      rw [upd_ne npl, upd_same]

theorem ok__law_draw {f : Addr} {fd : FuncData} (F : Fun K "_law_draw" "_law_draw" s__law_draw f fd) (E : Bi K mg)  : FnOk P w K mg base CX0 1 f fd ["stream", "many"] (sp__law_draw K) := by
  refine F.ok sc__law_draw (fun vs H Q E h => ?_) (fun cdv A outer s H vs Q E' hr h => ?_)
  · obtain ⟨s, l, n, rfl, _⟩ := h
    rfl
  · obtain ⟨p, l, n, rfl, hS, hn, hn2, q⟩ := h
    obtain ⟨a, b, m, ns, h1, h2, hlen, ha, hb, hm, hm2⟩ := hS.ex
    have nlp : l ≠ p := fun z => by
      rw [z, h1] at h2
      have h3 := HO.lst.inj (Option.some.inj h2)
      cases ns with
      | nil => cases h3
      | cons x r => cases (List.cons.inj h3).1
    refine ⟨_, (pss_cons (ps_if (pw_and (pt_cmpR op_eq (pe_ix ix_list (pv 0) pe_int (fun _ _ => rfl)) pe_int (nomark _)) (pw_and1 (pt_cmpR op_lt (pe_ix ix_list (pv 0) pe_int (fun _ _ => rfl)) (pe_callB call_len_seq (by rfl) E.b_len PySem.boot_len (pa_cons (pe_ix ix_list (pv 0) pe_int (fun _ _ => rfl)) pa_nil)) (nomark _)))).pt (pss_cons (ps_asg (pe_callB call_abs (by rfl) E.b_abs (by decide +kernel) (pa_cons (pe_callTy call_int1 (by rfl) E.b_int (by decide +kernel) (pa_cons (pe_ix ix_list (pe_ix ix_list (pv 0) pe_int (fun _ _ => rfl)) (pe_ix ix_list (pv 0) pe_int (fun _ _ => rfl)) (fun _ _ => rfl)) pa_nil)) pa_nil)) (pg_sub (pv 0) pe_int set_list))
      (pss_one (ps_asg (pe_op op_add (pe_ix ix_list (pv 0) pe_int (fun _ _ => rfl)) pe_int) (pg_sub (pv 0) pe_int set_list)))) pss_nil)
      (pss_cons (ps_if (pt_cmpR op_eq (pe_ix ix_list (pv 0) pe_int (fun _ _ => rfl)) pe_int (nomark _)) (pss_cons (ps_asg (pe_op op_mod (pe_callTy call_int1 (by rfl) E.b_int (by decide +kernel) (pa_cons (pe_op op_add (pe_op op_mul (pe_ix ix_list (pv 0) pe_int (fun _ _ => rfl)) pe_int) pe_int) pa_nil)) pe_int) (pg_sub (pv 0) pe_int set_list))
      (pss_one (ps_ret (pe_op op_mod (pe_callTy call_int1 (by rfl) E.b_int (by decide +kernel) (pa_cons (pe_op op_fdivW (pe_ix ix_list (pv 0) pe_int (fun _ _ => rfl)) pe_int) pa_nil)) (pv 1))))) pss_nil)
      (pss_cons (ps_set (i := 2) sc__law_draw.nd rfl (Or.inl rfl) (pe_op op_mod (pe_callTy call_int1 (by rfl) E.b_int (by decide +kernel) (pa_cons (pe_ix ix_list (pv 0) pe_int (fun _ _ => rfl)) pa_nil)) (pv 1)))
      (pss_cons (ps_asg (pe_op op_fdivW (pe_ix ix_list (pv 0) pe_int (fun _ _ => rfl)) (pv 1)) (pg_sub (pv 0) pe_int set_list))
      (pss_one (ps_ret (pv 2))))))), ?_⟩
    refine ⟨_, rfl, _, _, _, _, rfl, rfl, SqL.of h1, atI_nat (j := 1) rfl, rfl, _, rfl, ite2 (fun e => ?_) (fun e => ?_)⟩
    · refine ⟨_, rfl, _, _, _, _, rfl, rfl, SqL.of h1, atI_nat (j := 2) rfl, _, rfl, _, _, _, _, rfl, rfl, SqL.of h1, atI_nat (j := 0) rfl, _, _, rfl, .inl (SqL.of h2), _, _, rfl, rfl, _, rfl, ite2 (fun e1 => ?_) (fun e1 => ?_)⟩
      · have e2 : b < (ns.map V.int).length := of_decide_eq_true e1
        rw [List.length_map] at e2
        have hz : (ns.map V.int)[b.toNat]? = some (V.int (ns[b.toNat]'(by omega))) := by
          rw [List.getElem?_map, List.getElem?_eq_getElem (by omega)]
          rfl
        refine ⟨_, rfl, _, _, _, _, rfl, rfl, SqL.of h1, atI_nat (j := 0) rfl, _, rfl, _, _, _, _, rfl, rfl, SqL.of h1, atI_nat (j := 2) rfl, _, _, _, _, rfl, rfl, SqL.of h2, at_of (j := b.toNat) (by omega) hz, .inl ⟨_, rfl, _, rfl, _, rfl, _, _, _, _, rfl, rfl, h1, rfl, ?_⟩⟩
        refine ⟨_, rfl, _, _, _, _, rfl, rfl, SqL.of upd_same, atI_nat (j := 2) rfl, _, _, rfl, rfl, _, rfl, _, _, _, _, rfl, rfl, upd_same, rfl, ?_⟩
        generalize hH : upd _ p _ = H1
        have hX : ∃ a' b' : Int, H1 p = some (.lst [.ref l, .int a', .int b', .int m]) ∧ 0 ≤ a' ∧ 0 ≤ b' := ⟨_, _, by rw [← hH]; exact upd_same, by split <;> omega, by omega⟩
        have hB : But p H H1 := by rw [← hH]; exact But.put.trans But.put
        have hL : H1 l = some (.lst (ns.map V.int)) := hB l _ nlp h2
        clear hH
        obtain ⟨a', b', hX, ha', hb'⟩ := hX
        refine ⟨_, rfl, _, _, _, _, rfl, rfl, SqL.of hX, atI_nat (j := 1) rfl, rfl, _, rfl, ite2 (fun e3 => ?_) (fun e3 => ?_)⟩
        · refine ⟨_, rfl, _, _, _, _, rfl, rfl, SqL.of hX, atI_nat (j := 3) rfl, _, _, rfl, rfl, .inr ⟨by decide, by decide⟩, _, _, rfl, rfl, .inl ⟨_, rfl, _, _, rfl, rfl, (by decide : (0 : Int) < 2147483647), _, rfl, _, _, _, _, rfl, rfl, hX, rfl, ?_⟩⟩
          refine ⟨_, rfl, _, _, _, _, rfl, rfl, SqL.of upd_same, atI_nat (j := 3) rfl, _, _, rfl, rfl, wide_div (b := 64) (by decide) (by decide) (by decide) (by decide), .inl ⟨_, rfl, _, rfl, _, _, rfl, rfl, hn, ?_⟩⟩
          exact q _ _ (Int.emod_nonneg _ (by omega)) (Int.emod_lt_of_pos _ hn) (hB.trans But.put) ⟨a', b', _, ns, upd_same, by rw [upd_ne nlp]; exact hL, hlen, ha', hb', Int.emod_nonneg _ (by decide), Int.emod_lt_of_pos _ (by decide)⟩
        · refine ⟨_, rfl, _, _, _, _, rfl, rfl, SqL.of hX, atI_nat (j := 1) rfl, .inl ⟨_, rfl, _, rfl, _, _, rfl, rfl, hn, ?_⟩⟩
          refine ⟨_, rfl, _, _, _, _, rfl, rfl, SqL.of hX, atI_nat (j := 1) rfl, _, rfl, _, _, rfl, rfl, wide_div hn hn2 (by decide) (by decide), _, rfl, _, _, _, _, rfl, rfl, hX, rfl, ?_⟩
          refine ⟨_, rfl, ?_⟩
          exact q _ _ (Int.emod_nonneg _ (by omega)) (Int.emod_lt_of_pos _ hn) (hB.trans But.put) ⟨_, b', m, ns, upd_same, by rw [upd_ne nlp]; exact hL, hlen, Int.ediv_nonneg ha' (by omega), hb', hm, hm2⟩
      · have hX : ∃ a' b' : Int, H p = some (.lst [.ref l, .int a', .int b', .int m]) ∧ 0 ≤ a' ∧ 0 ≤ b' := ⟨_, _, h1, ha, hb⟩
        have hB : But p H H := But.refl p H
        have hL := h2
        obtain ⟨a', b', hX, ha', hb'⟩ := hX
        refine ⟨_, rfl, _, _, _, _, rfl, rfl, SqL.of hX, atI_nat (j := 1) rfl, rfl, _, rfl, ite2 (fun e3 => ?_) (fun e3 => ?_)⟩
        · refine ⟨_, rfl, _, _, _, _, rfl, rfl, SqL.of hX, atI_nat (j := 3) rfl, _, _, rfl, rfl, .inr ⟨by decide, by decide⟩, _, _, rfl, rfl, .inl ⟨_, rfl, _, _, rfl, rfl, (by decide : (0 : Int) < 2147483647), _, rfl, _, _, _, _, rfl, rfl, hX, rfl, ?_⟩⟩
          refine ⟨_, rfl, _, _, _, _, rfl, rfl, SqL.of upd_same, atI_nat (j := 3) rfl, _, _, rfl, rfl, wide_div (b := 64) (by decide) (by decide) (by decide) (by decide), .inl ⟨_, rfl, _, rfl, _, _, rfl, rfl, hn, ?_⟩⟩
          exact q _ _ (Int.emod_nonneg _ (by omega)) (Int.emod_lt_of_pos _ hn) (hB.trans But.put) ⟨a', b', _, ns, upd_same, by rw [upd_ne nlp]; exact hL, hlen, ha', hb', Int.emod_nonneg _ (by decide), Int.emod_lt_of_pos _ (by decide)⟩
        · refine ⟨_, rfl, _, _, _, _, rfl, rfl, SqL.of hX, atI_nat (j := 1) rfl, .inl ⟨_, rfl, _, rfl, _, _, rfl, rfl, hn, ?_⟩⟩
          refine ⟨_, rfl, _, _, _, _, rfl, rfl, SqL.of hX, atI_nat (j := 1) rfl, _, rfl, _, _, rfl, rfl, wide_div hn hn2 (by decide) (by decide), _, rfl, _, _, _, _, rfl, rfl, hX, rfl, ?_⟩
          refine ⟨_, rfl, ?_⟩
          exact q _ _ (Int.emod_nonneg _ (by omega)) (Int.emod_lt_of_pos _ hn) (hB.trans But.put) ⟨_, b', m, ns, upd_same, by rw [upd_ne nlp]; exact hL, hlen, Int.ediv_nonneg ha' (by omega), hb', hm, hm2⟩
    · have hX : ∃ a' b' : Int, H p = some (.lst [.ref l, .int a', .int b', .int m]) ∧ 0 ≤ a' ∧ 0 ≤ b' := ⟨_, _, h1, ha, hb⟩
      have hB : But p H H := But.refl p H
      have hL := h2
      obtain ⟨a', b', hX, ha', hb'⟩ := hX
      refine ⟨_, rfl, _, _, _, _, rfl, rfl, SqL.of hX, atI_nat (j := 1) rfl, rfl, _, rfl, ite2 (fun e3 => ?_) (fun e3 => ?_)⟩
      · refine ⟨_, rfl, _, _, _, _, rfl, rfl, SqL.of hX, atI_nat (j := 3) rfl, _, _, rfl, rfl, .inr ⟨by decide, by decide⟩, _, _, rfl, rfl, .inl ⟨_, rfl, _, _, rfl, rfl, (by decide : (0 : Int) < 2147483647), _, rfl, _, _, _, _, rfl, rfl, hX, rfl, ?_⟩⟩
        refine ⟨_, rfl, _, _, _, _, rfl, rfl, SqL.of upd_same, atI_nat (j := 3) rfl, _, _, rfl, rfl, wide_div (b := 64) (by decide) (by decide) (by decide) (by decide), .inl ⟨_, rfl, _, rfl, _, _, rfl, rfl, hn, ?_⟩⟩
        exact q _ _ (Int.emod_nonneg _ (by omega)) (Int.emod_lt_of_pos _ hn) (hB.trans But.put) ⟨a', b', _, ns, upd_same, by rw [upd_ne nlp]; exact hL, hlen, ha', hb', Int.emod_nonneg _ (by decide), Int.emod_lt_of_pos _ (by decide)⟩
      · refine ⟨_, rfl, _, _, _, _, rfl, rfl, SqL.of hX, atI_nat (j := 1) rfl, .inl ⟨_, rfl, _, rfl, _, _, rfl, rfl, hn, ?_⟩⟩
        refine ⟨_, rfl, _, _, _, _, rfl, rfl, SqL.of hX, atI_nat (j := 1) rfl, _, rfl, _, _, rfl, rfl, wide_div hn hn2 (by decide) (by decide), _, rfl, _, _, _, _, rfl, rfl, hX, rfl, ?_⟩
        refine ⟨_, rfl, ?_⟩
        exact q _ _ (Int.emod_nonneg _ (by omega)) (Int.emod_lt_of_pos _ hn) (hB.trans But.put) ⟨_, b', m, ns, upd_same, by rw [upd_ne nlp]; exact hL, hlen, Int.ediv_nonneg ha' (by omega), hb', hm, hm2⟩

theorem ok__law_key {f : Addr} {fd : FuncData} (F : Fun K "_law_key" "_law_key" s__law_key f fd) (E : Bi K mg)  : FnOk P w K mg base CX0 1 f fd ["node"] (sp__law_key K) := by
  refine F.ok sc__law_key (fun vs H Q E h => ?_) (fun cdv A outer s H vs Q E' hr h => ?_)
  · obtain ⟨x, d, rfl, _⟩ := h
    rfl
  · obtain ⟨x, d, rfl, hd, hn, q⟩ := h
    refine ⟨_, (pss_cons (ps_if (pt_val (pe_callB call_isi (by rfl) E.b_isinstance (by decide +kernel) (pa_cons (pv 0) (pa_cons (pe_ty "int" (by rfl) E.b_int (by decide +kernel)) pa_nil)))) (pss_one (ps_ret (pe_lst (pa_cons pe_int (pa_cons (pv 0) (pa_cons pe_str pa_nil)))))) pss_nil)
      (pss_cons (ps_if (pt_cmpR op_eq (pe_ix ix_tup (pv 0) pe_int (fun _ _ => rfl)) pe_str (nomark _)) (pss_one (ps_ret (pe_lst (pa_cons pe_int (pa_cons pe_int (pa_cons pe_str pa_nil)))))) pss_nil)
      (pss_one (ps_ret (pe_lst (pa_cons pe_int (pa_cons (pe_ix ix_tup (pv 0) pe_int (fun _ _ => rfl)) (pa_cons (pe_ix ix_tup (pv 0) pe_int (fun _ _ => rfl)) pa_nil)))))))), ?_⟩
    refine seq_ifN ?_
    refine ⟨_, rfl, _, _, _, _, _, rfl, .ty _, tyx_of hd, kit_ty (kitI _), _, rfl, ?_⟩
    obtain ⟨wd, nd⟩ := id hn
    cases nd with
    | v n h1 h2 =>
      cases id hd with
      | tup hs ha =>
      obtain ⟨v, hv, hdv⟩ := DpAll.get (i := 0) ha rfl
      cases hdv
      refine iteF (seq_ifN ?_)
      refine ⟨_, rfl, _, _, _, _, rfl, rfl, hs, atI_nat (j := 0) hv, rfl, _, rfl, ?_⟩
      rw [decide_eq_true rfl]
      refine iteT ⟨(by show 3 ≤ sizeLine; decide), fun p np => ?_⟩
      exact q _ _ (same_upd np) (.lst (SqL.of upd_same) (.cons (.int _) (.cons (.int _) (.cons (.str _) .nil))))
    | i n h1 h2 =>
      refine iteT ?_
      refine ⟨_, rfl, (by show 3 ≤ sizeLine; decide), fun p np => ?_⟩
      exact q _ _ (same_upd np) (.lst (SqL.of upd_same) (.cons (.int _) (.cons (dp_same (same_upd np) _ _ hd) (.cons (.str _) .nil))))
    | f y n h1 h2 h3 =>
      cases id hd with
      | tup hs ha =>
      obtain ⟨v0, hv0, hdv0⟩ := DpAll.get (i := 0) ha rfl
      obtain ⟨v, hv, hdv⟩ := DpAll.get (i := 1) ha rfl
      obtain ⟨v2, hv2, hdv2⟩ := DpAll.get (i := 2) ha rfl
      cases hdv0
      refine iteF (seq_ifN ?_)
      refine ⟨_, rfl, _, _, _, _, rfl, rfl, hs, atI_nat (j := 0) hv0, rfl, _, rfl, ?_⟩
      rw [show decide (V.str (Str.ofString "f") = V.str (Str.ofString "v")) = false by decide +kernel]
      refine iteF ?_
      refine ⟨_, rfl, _, _, _, _, rfl, rfl, hs, atI_nat (j := 2) hv2, _, rfl, _, _, _, _, rfl, rfl, hs, atI_nat (j := 1) hv, (by show 3 ≤ sizeLine; decide), fun p np => ?_⟩
      exact q _ _ (same_upd np) (.lst (SqL.of upd_same) (.cons (.int _) (.cons (dp_same (same_upd np) _ _ hdv2) (.cons (dp_same (same_upd np) _ _ hdv) .nil))))

theorem ok_node_key {f : Addr} {fd : FuncData} (F : Fun K "node_key" "node_key" s_node_key f fd) (E : Bi K mg) (D_is_variable : Has P w K mg base 1 "is_variable" ["node"] (sp_is_variable K)) (D_is_symbol : Has P w K mg base 1 "is_symbol" ["node"] (sp_is_symbol K)) : FnOk P w K mg base CX0 2 f fd ["node"] (sp_node_key K) := by
  obtain ⟨f_is_variable, fd_is_variable, G_is_variable, g_is_variable, kp_is_variable, b_is_variable⟩ := D_is_variable
  obtain ⟨f_is_symbol, fd_is_symbol, G_is_symbol, g_is_symbol, kp_is_symbol, b_is_symbol⟩ := D_is_symbol
  refine F.ok sc_node_key (fun vs H Q E h => ?_) (fun cdv A outer s H vs Q E' hr h => ?_)
  · obtain ⟨x, d, rfl, _⟩ := h
    rfl
  · obtain ⟨x, d, rfl, hd, hn, q⟩ := h
    refine ⟨_, (pss_cons (ps_if (pt_val (pe_call G_is_variable (hr.mono (by decide)) (by rfl) g_is_variable kp_is_variable b_is_variable .nil pass0 (pa_cons (pv 0) pa_nil))) (pss_one (ps_ret (pe_tup (pa_cons pe_int (pa_cons (pe_ix ix_tup (pv 0) pe_int (fun _ _ => rfl)) (pa_cons pe_str pa_nil)))))) pss_nil)
      (pss_cons (ps_if (pt_val (pe_call G_is_symbol (hr.mono (by decide)) (by rfl) g_is_symbol kp_is_symbol b_is_symbol .nil pass0 (pa_cons (pv 0) pa_nil))) (pss_one (ps_ret (pe_tup (pa_cons pe_int (pa_cons (pe_ix ix_tup (pv 0) pe_int (fun _ _ => rfl)) (pa_cons (pe_ix ix_tup (pv 0) pe_int (fun _ _ => rfl)) pa_nil)))))) pss_nil)
      (pss_one (ps_ret (pe_tup (pa_cons pe_int (pa_cons (pv 0) (pa_cons pe_str pa_nil)))))))), ?_⟩
    refine seq_ifN ?_
    refine ⟨x, rfl, x, d, rfl, hd, hn, _, rfl, ?_⟩
    obtain ⟨wd, nd⟩ := id hn
    cases nd with
    | v n h1 h2 =>
      cases id hd with
      | tup hs ha =>
      obtain ⟨v, hv, hdv⟩ := DpAll.get (i := 1) ha rfl
      refine iteT ?_
      refine ⟨_, rfl, _, _, _, _, rfl, rfl, hs, atI_nat (j := 1) hv, (by show 3 ≤ sizeLine; decide), fun p np => ?_⟩
      exact q _ _ (same_upd np) (.tup (SqT.of upd_same) (.cons (.int _) (.cons (dp_same (same_upd np) _ _ hdv) (.cons (.str _) .nil))))
    | i n h1 h2 =>
      refine iteF (seq_ifN ?_)
      refine ⟨x, rfl, x, _, rfl, hd, hn, _, rfl, iteF ?_⟩
      refine ⟨_, rfl, (by show 3 ≤ sizeLine; decide), fun p np => ?_⟩
      exact q _ _ (same_upd np) (.tup (SqT.of upd_same) (.cons (.int _) (.cons (dp_same (same_upd np) _ _ hd) (.cons (.str _) .nil))))
    | f y n h1 h2 h3 =>
      refine iteF (seq_ifN ?_)
      refine ⟨x, rfl, x, _, rfl, hd, hn, _, rfl, iteT ?_⟩
      cases id hd with
      | tup hs ha =>
      obtain ⟨v, hv, hdv⟩ := DpAll.get (i := 1) ha rfl
      obtain ⟨v2, hv2, hdv2⟩ := DpAll.get (i := 2) ha rfl
      refine ⟨_, rfl, _, _, _, _, rfl, rfl, hs, atI_nat (j := 2) hv2, _, rfl, _, _, _, _, rfl, rfl, hs, atI_nat (j := 1) hv, (by show 3 ≤ sizeLine; decide), fun p np => ?_⟩
      exact q _ _ (same_upd np) (.tup (SqT.of upd_same) (.cons (.int _) (.cons (dp_same (same_upd np) _ _ hdv2) (.cons (dp_same (same_upd np) _ _ hdv) .nil))))

theorem ok__law_name {f : Addr} {fd : FuncData} (F : Fun K "_law_name" "_law_name" s__law_name f fd) (E : Bi K mg) (D__law_draw : Has P w K mg base 1 "_law_draw" ["stream", "many"] (sp__law_draw K)) : FnOk P w K mg base CX0 2 f fd ["stream"] (sp__law_name K) := by
  obtain ⟨f__law_draw, fd__law_draw, G__law_draw, g__law_draw, kp__law_draw, b__law_draw⟩ := D__law_draw
  refine F.ok sc__law_name (fun vs H Q E h => ?_) (fun cdv A outer s H vs Q E' hr h => ?_)
  · obtain ⟨s, l, rfl, _⟩ := h
    rfl
  · obtain ⟨s, l, rfl, hS, q⟩ := h
    have n9 : (2 : Nat) ^ 8 ≤ 2 ^ 9000 := Nat.pow_le_pow_right (by decide) (by decide)
    refine ⟨_, (pss_cons (ps_set (i := 1) sc__law_name.nd rfl (Or.inl rfl) (pe_lst (pa_cons pe_str (pa_cons pe_str (pa_cons pe_str (pa_cons pe_str (pa_cons pe_str (pa_cons pe_str (pa_cons pe_str (pa_cons pe_str (pa_cons pe_str (pa_cons pe_str (pa_cons pe_str (pa_cons pe_str (pa_cons pe_str (pa_cons pe_str (pa_cons pe_str (pa_cons pe_str (pa_cons pe_str (pa_cons pe_str (pa_cons pe_str (pa_cons pe_str pa_nil))))))))))))))))))))))
      (pss_cons (ps_if (pt_cmpR op_gt (pe_call G__law_draw (hr.mono (by decide)) (by rfl) g__law_draw kp__law_draw b__law_draw .nil pass0 (pa_cons (pv 0) (pa_cons pe_int pa_nil))) pe_int (nomark _)) (pss_one (ps_ret (pe_ix ix_list (pv 1) (pe_call G__law_draw (hr.mono (by decide)) (by rfl) g__law_draw kp__law_draw b__law_draw .nil pass0 (pa_cons (pv 0) (pa_cons pe_int pa_nil))) (fun _ _ => rfl)))) pss_nil)
      (pss_cons (ps_if (pt_cmpR op_gt (pe_call G__law_draw (hr.mono (by decide)) (by rfl) g__law_draw kp__law_draw b__law_draw .nil pass0 (pa_cons (pv 0) (pa_cons pe_int pa_nil))) pe_int (nomark _)) (pss_one (ps_ret (pe_ix ix_list (pv 1) (pe_call G__law_draw (hr.mono (by decide)) (by rfl) g__law_draw kp__law_draw b__law_draw .nil pass0 (pa_cons (pv 0) (pa_cons (pe_callB call_len_seq (by rfl) E.b_len PySem.boot_len (pa_cons (pv 1) pa_nil)) pa_nil))) (fun _ _ => rfl)))) pss_nil)
      (pss_cons (ps_set (i := 2) sc__law_name.nd rfl (Or.inr rfl) pe_str)
      (pss_cons (ps_set (i := 2) sc__law_name.nd rfl (Or.inr rfl) (pe_op op_add_str (pv 2) pe_str))
      (pss_one (ps_ret (pe_m1 PySem.F.slot_str_join PySem.F.type_str_join mt_join pe_str (pe_lc (own := [("k", 3)]) (g := gName 3) (tt := tYes) rfl sc__law_name.nd (pi_range1 (by rfl) E.b_range (pa_cons (pe_op op_add pe_int (pe_call G__law_draw (hr.mono (by decide)) (by rfl) g__law_draw kp__law_draw b__law_draw .nil pass0 (pa_cons (pv 0) (pa_cons pe_int pa_nil)))) pa_nil)) (blkOk_by (N := N__law_name) (sc := defScope s__law_name) (by decide +kernel)) (fun _ _ _ _ _ => pg_name (i := 3) sc__law_name.nd rfl (Or.inl rfl)) (fun _ _ _ _ _ => pts_nil) (fun _ _ _ _ _ => (pe_ix ix_str (pv 2) (pe_call G__law_draw (hr.mono (by decide)) (by rfl) g__law_draw kp__law_draw b__law_draw .nil pass0 (pa_cons (pv 0) (pa_cons (pe_callB call_len_str (by rfl) E.b_len PySem.boot_len (pa_cons (pv 2) pa_nil)) pa_nil))) (fun _ _ => rfl)))))))))))), ?_⟩
    refine seq_asg ?_
    refine lit_lst (K := K) (ds := names20.map PyData.str) ?_ (by decide) H _ fun v0 H0 t0 i0 => ?_
    · unfold names20
      simp only [List.map_cons, List.map_nil]
      walk_at "lits"
    cases i0 with
    | @lst p0 xs0 _ g0 e0 a0 =>
    obtain ⟨os, hos⟩ := hS.at_s
    have np : p0 ≠ s := fun z => by
      rw [z, hos] at g0
      cases g0
    have hl0 : xs0.length = 20 := by rw [a0.len, List.length_map]; decide
    have pick : ∀ (r : Int) (H' : Hp), 0 ≤ r → r < 20 → But s H H' → H' p0 = some (.lst xs0) → Stm H' s l → ∃ x, atI xs0 r = some (.str x) ∧ Q (.str x) H' := by
      intro r H' r0 r1 hB e1 St
      have hr : r.toNat < names20.length := by
        have : names20.length = 20 := by decide
        omega
      have hd : (names20.map PyData.str)[r.toNat]? = some (.str names20[r.toNat]) := by
        rw [List.getElem?_map, List.getElem?_eq_getElem hr]
        rfl
      obtain ⟨v, hv, iv⟩ := ImAll.get a0 hd
      cases iv
      exact ⟨_, at_of (j := r.toNat) (by omega) hv, q _ _ (List.all_eq_true.mp names20_ok _ (List.getElem_mem hr)) hB St⟩
    refine gname (seq_ifN ?_)
    refine ⟨_, rfl, s, l, 3, rfl, hS.keep t0, by decide, Nat.lt_of_lt_of_le (by decide) n9, fun r1 H1 _ _ hB1 S1 => ⟨_, _, rfl, rfl, _, rfl, ite2 (fun e => ?_) (fun e => ?_)⟩⟩
    · refine ⟨_, rfl, _, rfl, s, l, 4, rfl, S1, by decide, Nat.lt_of_lt_of_le (by decide) n9, fun r2 H2 r20 r21 hB2 S2 => ?_⟩
      obtain ⟨x, hx, hq⟩ := pick r2 H2 r20 (by omega) (((But.of t0).trans hB1).trans hB2) (hB2 _ _ np (hB1 _ _ np e0)) S2
      exact ⟨_, _, _, _, rfl, rfl, SqL.of (hB2 _ _ np (hB1 _ _ np e0)), hx, hq⟩
    · refine seq_ifN ?_
      refine ⟨_, rfl, s, l, 4, rfl, S1, by decide, Nat.lt_of_lt_of_le (by decide) n9, fun r2 H2 _ _ hB2 S2 => ⟨_, _, rfl, rfl, _, rfl, ite2 (fun e => ?_) (fun e => ?_)⟩⟩
      · refine ⟨_, rfl, _, rfl, _, rfl, _, _, rfl, .inl (SqL.of (hB2 _ _ np (hB1 _ _ np e0))), s, l, _, rfl, S2, by rw [hl0]; decide, by rw [hl0]; exact Nat.lt_of_lt_of_le (by decide) n9, fun r3 H3 r30 r31 hB3 S3 => ?_⟩
        obtain ⟨x, hx, hq⟩ := pick r3 H3 r30 (by rw [hl0] at r31; exact r31) ((((But.of t0).trans hB1).trans hB2).trans hB3) (hB3 _ _ np (hB2 _ _ np (hB1 _ _ np e0))) S3
        exact ⟨_, _, _, _, rfl, rfl, SqL.of (hB3 _ _ np (hB2 _ _ np (hB1 _ _ np e0))), hx, hq⟩
      · refine seq_asg (gname (seq_asg ?_))
        refine ⟨_, rfl, _, _, rfl, rfl, by decide +kernel, ?_⟩
        refine gname ?_
        have hB : But s H H2 := ((But.of t0).trans hB1).trans hB2
        refine ⟨⟨_, rfl⟩, ?_⟩
        refine ⟨_, rfl, s, l, 40, rfl, S2, by decide, Nat.lt_of_lt_of_le (by decide) n9, fun n H3 n0 n1 hB3 S3 => ⟨_, _, rfl, rfl, _, rfl, by omega, by omega, fun D hD => ?_⟩⟩
        obtain ⟨os3, hos3⟩ := S3.at_s
        obtain ⟨ol3, hol3⟩ := S3.at_l
        have sD : s ≠ D := ne_of_none hos3 hD
        have lD : l ≠ D := ne_of_none hol3 hD
        refine lc_range (fun i H' => ∃ cs : List Nat, H' D = some (.lst ((cs.map fun c => (⟨#[c]⟩ : Str)).map V.str)) ∧ cs.length = i ∧ cs.all okSign = true ∧ Stm H' s l ∧ (∀ b o, b ≠ s → b ≠ D → H3 b = some o → H' b = some o))
          ⟨[], upd_same, rfl, rfl, S3.put sD lD, fun b o _ h2 e => by rw [upd_ne h2]; exact e⟩ ?_ ?_
        · rintro i H4 hi ⟨cs, h1, h2, h3, h4, h5⟩
          refine ⟨rfl, _, rfl, _, rfl, _, rfl, _, rfl, (show signs.length ≤ sizeLine from by rw [signs_len]; decide), s, l, _, rfl, h4, (show (0 : Int) < (signs.length : Int) from by rw [signs_len]; decide),
            (show ((signs.length : Nat) : Int).natAbs < 2 ^ 9000 from by rw [signs_len]; exact Nat.lt_of_lt_of_le (by decide) n9), fun r H5 r0 r1 hB5 S5 => ?_⟩
          have r2 : r < (signs.length : Int) := r1
          have hr : r.toNat < signs.cps.toList.length := by
            have : signs.cps.toList.length = signs.length := by simp [Str.length]
            omega
          have hc : signs.cps.toList[r.toNat]? = some signs.cps.toList[r.toNat] := List.getElem?_eq_getElem hr
          have ok : okSign signs.cps.toList[r.toNat] = true := List.all_eq_true.mp signs_ok _ (List.getElem_mem hr)
          generalize signs.cps.toList[r.toNat] = c at hc ok
          refine ⟨_, _, c, rfl, rfl, (show signs.length ≤ sizeLine from by rw [signs_len]; decide), ?_, _, hB5 _ _ sD.symm h1, ?_, cs ++ [c], ?_, ?_, ?_, S5.put sD lD, fun b o hb1 hb2 e => ?_⟩
          · rw [show r = ((r.toNat : Nat) : Int) by omega]
            exact atI_nat hc
          · rw [List.length_map, List.length_map, h2]
            exact small1000 (by omega)
          · rw [upd_same, List.map_append, List.map_append]
            rfl
          · rw [List.length_append, h2]; rfl
          · rw [List.all_append, h3]
            show (true && (okSign c && true)) = true
            rw [ok]; rfl
          · rw [upd_ne hb2]
            exact hB5 b o hb1 (h5 b o hb1 hb2 e)
        · rintro H4 ⟨cs, h1, h2, h3, h4, h5⟩
          refine ⟨_, _, cs.map fun c => ⟨#[c]⟩, rfl, rfl, .inl (SqL.of h1), ?_, ?_⟩
          · rw [List.length_map, List.map_map, show (cs.map ((fun x : Str => x.length) ∘ fun c => (⟨#[c]⟩ : Str))).sum = cs.length from ?_]
            · show cs.length + cs.length * 0 ≤ 16777216
              omega
            · clear h1 h2 h3
              induction cs with
              | nil => rfl
              | cons c r ih =>
                rw [List.map_cons, List.sum_cons, ih, List.length_cons]
                show 1 + r.length = r.length + 1
                omega
          · rw [TL.join_eq]
            have ec := join_ones (Str.ofString "") (by decide +kernel) cs
            refine q _ H4 ?_ (fun b o hb e => h5 b o hb (fun z => ?_) (hB3 b o hb (hB b o hb e))) h4
            · unfold okName
              have el : (Str.join (Str.ofString "") (cs.map fun c => (⟨#[c]⟩ : Str))).length = cs.length := by
                show (Str.join (Str.ofString "") (cs.map fun c => (⟨#[c]⟩ : Str))).cps.size = _
                rw [← Array.length_toList, ec]
              rw [el, ec, h3, decide_eq_true (show 1 ≤ cs.length by omega), decide_eq_true (show cs.length ≤ 40 by omega)]
              rfl
            · rw [z] at e
              rw [hB3 _ _ (fun z => by subst z; exact sD rfl) (hB _ _ (fun z => by subst z; exact sD rfl) e)] at hD
              cases hD

theorem ok__law_order {f : Addr} {fd : FuncData} (F : Fun K "_law_order" "_law_order" s__law_order f fd) (E : Bi K mg) (D__law_key : Has P w K mg base 1 "_law_key" ["node"] (sp__law_key K)) : FnOk P w K mg base CX0 2 f fd ["left", "right"] (sp__law_order K) := by
  obtain ⟨f__law_key, fd__law_key, G__law_key, g__law_key, kp__law_key, b__law_key⟩ := D__law_key
  refine F.ok sc__law_order (fun vs H Q E h => ?_) (fun cdv A outer s H vs Q E' hr h => ?_)
  · obtain ⟨x, y, ds, es, rfl, _⟩ := h
    rfl
  · obtain ⟨x, y, ds, es, rfl, hx, hy, nx, ny, l1, l2, q⟩ := h
    refine ⟨_, (pss_cons (ps_for PassesOwn.never rfl (pi_range1 (by rfl) E.b_range (pa_cons (pe_callB (call_min2 rfl) (by rfl) E.b_min (by decide +kernel) (pa_cons (pe_callB call_len_seq (by rfl) E.b_len PySem.boot_len (pa_cons (pv 0) pa_nil)) (pa_cons (pe_callB call_len_seq (by rfl) E.b_len PySem.boot_len (pa_cons (pv 1) pa_nil)) pa_nil))) pa_nil)) (pg_name (i := 2) sc__law_order.nd rfl (Or.inl rfl)) (pss_one (ps_if (pt_cmpR (op_neD hr.units) (pe_ix ix_tup (pv 0) (pv 2) (fun _ _ => rfl)) (pe_ix ix_tup (pv 1) (pv 2) (fun _ _ => rfl)) (nomark _)) (pss_cons (ps_if (pw_and (pt_cmpR op_eq (pe_ix ix_list (pe_call G__law_key (hr.mono (by decide)) (by rfl) g__law_key kp__law_key b__law_key .nil pass0 (pa_cons (pe_ix ix_tup (pv 0) (pv 2) (fun _ _ => rfl)) pa_nil)) pe_int (fun _ _ => rfl)) pe_int (nomark _)) (pw_and1 (pt_cmpR op_eq (pe_ix ix_list (pe_call G__law_key (hr.mono (by decide)) (by rfl) g__law_key kp__law_key b__law_key .nil pass0 (pa_cons (pe_ix ix_tup (pv 1) (pv 2) (fun _ _ => rfl)) pa_nil)) pe_int (fun _ _ => rfl)) pe_int (nomark _)))).pt (pss_one (ps_ret pe_non)) pss_nil)
      (pss_cons (ps_if (pt_cmpR (op_ltD hr.units) (pe_call G__law_key (hr.mono (by decide)) (by rfl) g__law_key kp__law_key b__law_key .nil pass0 (pa_cons (pe_ix ix_tup (pv 0) (pv 2) (fun _ _ => rfl)) pa_nil)) (pe_call G__law_key (hr.mono (by decide)) (by rfl) g__law_key kp__law_key b__law_key .nil pass0 (pa_cons (pe_ix ix_tup (pv 1) (pv 2) (fun _ _ => rfl)) pa_nil)) (nomark _)) (pss_one (ps_ret (pe_un un_neg pe_int))) pss_nil)
      (pss_one (ps_ret pe_int)))) pss_nil)))
      (pss_one (ps_ret pe_int))), ?_⟩
    have fin : ∀ (o : Option Int) (H' : Hp), Same H H' → cmpM ds es = o → Q (resV o) H' := fun o H' s e => e ▸ q H' s
    cases hx with
    | @tup a xs _ sx ax =>
    cases hy with
    | @tup b ys _ sy ay =>
    have lx := DpAll.len ax
    have ly := DpAll.len ay
    refine seq_any ?_
    have hm : (if (ys.length : Int) < xs.length then (ys.length : Int) else xs.length) = ((min ds.length es.length : Nat) : Int) := by
      rw [lx, ly]
      split <;> omega
    refine ⟨_, rfl, _, _, rfl, .inr sx, _, rfl, _, _, rfl, .inr sy, _, _, rfl, _, congrArg (fun z => [V.int z]) hm, by omega, by omega, ?_⟩
    refine for_range (lo := 0) (n := min ds.length es.length) (fun i σ H2 => ∃ vk, σ = [some (.ref a), some (.ref b), vk] ∧ Same H H2 ∧ cmpM (ds.drop i) (es.drop i) = cmpM ds es)
      ⟨none, rfl, Same.refl H, rfl⟩ ?_ ?_
    · rintro i σ H3 hi ⟨vk, rfl, s3, hc⟩
      have hd : ds[i]? = some ds[i] := List.getElem?_eq_getElem (by omega)
      have he : es[i]? = some es[i] := List.getElem?_eq_getElem (by omega)
      generalize ds[i] = d at hd
      generalize es[i] = e at he
      obtain ⟨x, hx, dx0⟩ := DpAll.get ax hd
      obtain ⟨y, hy, dy0⟩ := DpAll.get ay he
      have ndd := nx d (List.mem_of_getElem? hd)
      have nde := ny e (List.mem_of_getElem? he)
      have dx := dp_same s3 _ _ dx0
      have dy := dp_same s3 _ _ dy0
      have sx3 := same_sqT s3 sx
      have sy3 := same_sqT s3 sy
      rw [cmp_step hd he] at hc
      have hi0 : (0 : Int) + (i : Int) = ((i : Nat) : Int) := Int.zero_add _
      rw [hi0]
      refine gname ?_
      refine ⟨_, rfl, _, rfl, _, _, _, _, rfl, rfl, sx3, atI_nat (j := i) hx, _, rfl, _, rfl, _, _, _, _, rfl, rfl, sy3, atI_nat (j := i) hy, d, e, dx, dy, nd_shaped ndd, nd_shaped nde, _, rfl, ite2 (fun z => ?_) (fun z => ?_)⟩
      · have hq : PyData.eqv d e = false := by
          cases hq : PyData.eqv d e with
          | false => rfl
          | true => rw [hq] at z; cases z
        have hc2 := hc.symm
        rw [if_neg (by rw [hq]; exact Bool.false_ne_true)] at hc2
        refine seq_ifN ?_
        refine ⟨_, rfl, _, rfl, _, _, _, _, rfl, rfl, sx3, atI_nat (j := i) hx, x, d, rfl, dx, ndd, fun u1 H4 s4 d4 => ?_⟩
        cases d4 with
        | @lst a4 xs4 _ hs4 ha4 =>
        obtain ⟨w4, hw4, dw4⟩ := DpAll.get (i := 0) ha4 rfl
        cases dw4
        refine ⟨_, _, _, _, rfl, rfl, hs4, atI_nat (j := 0) hw4, rfl, _, rfl, ite2 (fun v1 => ?_) (fun v1 => ?_)⟩
        · have v1 : isVarN d = true := (tag_var d).mp (V.int.inj (of_decide_eq_true v1))
          have sa := s3.trans s4
          refine ⟨_, rfl, _, rfl, _, _, _, _, rfl, rfl, same_sqT sa sy, atI_nat (j := i) hy, y, e, rfl, dp_same sa _ _ dy0, nde, fun u2 H5 s5 d5 => ?_⟩
          cases d5 with
          | @lst a5 xs5 _ hs5 ha5 =>
          obtain ⟨w5, hw5, dw5⟩ := DpAll.get (i := 0) ha5 rfl
          cases dw5
          refine ⟨_, _, _, _, rfl, rfl, hs5, atI_nat (j := 0) hw5, rfl, _, rfl, ite2 (fun v2 => ?_) (fun v2 => ?_)⟩
          · have v2 : isVarN e = true := (tag_var e).mp (V.int.inj (of_decide_eq_true v2))
            rw [if_pos (by rw [v1, v2]; rfl)] at hc2
            exact fin _ _ (sa.trans s5) hc2
          · have hv : ¬ (isVarN d && isVarN e) = true := fun z => v2 (decide_eq_true (congrArg V.int ((tag_var e).mpr (Bool.and_eq_true .. ▸ z).2)))
            rw [if_neg hv] at hc2
            refine seq_ifN ?_
            have ST := sa.trans s5
            refine ⟨_, rfl, _, rfl, _, _, _, _, rfl, rfl, same_sqT ST sx, atI_nat (j := i) hx, x, d, rfl, dp_same ST _ _ dx0, ndd, fun u3 H6 s6 d6 => ?_⟩
            refine ⟨_, rfl, _, rfl, _, _, _, _, rfl, rfl, same_sqT (ST.trans s6) sy, atI_nat (j := i) hy, y, e, rfl, dp_same (ST.trans s6) _ _ dy0, nde, fun u4 H7 s7 d7 => ?_⟩
            refine ⟨_, _, dp_same s7 _ _ d6, d7, keyL_alike ndd nde, (fun z => nomatch z), keyL_deep ndd, _, rfl, ite2 (fun hlt => ?_) (fun hlt => ?_)⟩
            · rw [if_pos (show ltN d e = true from hlt)] at hc2
              refine ⟨_, rfl, ?_⟩
              exact fin _ _ ((ST.trans s6).trans s7) hc2
            · rw [if_neg (show ¬ ltN d e = true from hlt)] at hc2
              exact fin _ _ ((ST.trans s6).trans s7) hc2
        · have hv : ¬ (isVarN d && isVarN e) = true := fun z => v1 (decide_eq_true (congrArg V.int ((tag_var d).mpr (Bool.and_eq_true .. ▸ z).1)))
          rw [if_neg hv] at hc2
          refine iteF (seq_ifN ?_)
          have ST := s3.trans s4
          refine ⟨_, rfl, _, rfl, _, _, _, _, rfl, rfl, same_sqT ST sx, atI_nat (j := i) hx, x, d, rfl, dp_same ST _ _ dx0, ndd, fun u3 H6 s6 d6 => ?_⟩
          refine ⟨_, rfl, _, rfl, _, _, _, _, rfl, rfl, same_sqT (ST.trans s6) sy, atI_nat (j := i) hy, y, e, rfl, dp_same (ST.trans s6) _ _ dy0, nde, fun u4 H7 s7 d7 => ?_⟩
          refine ⟨_, _, dp_same s7 _ _ d6, d7, keyL_alike ndd nde, (fun z => nomatch z), keyL_deep ndd, _, rfl, ite2 (fun hlt => ?_) (fun hlt => ?_)⟩
          · rw [if_pos (show ltN d e = true from hlt)] at hc2
            refine ⟨_, rfl, ?_⟩
            exact fin _ _ ((ST.trans s6).trans s7) hc2
          · rw [if_neg (show ¬ ltN d e = true from hlt)] at hc2
            exact fin _ _ ((ST.trans s6).trans s7) hc2
      · have hq : PyData.eqv d e = true := by
          cases hq : PyData.eqv d e with
          | true => rfl
          | false => rw [hq] at z; exact absurd rfl z
        rw [if_pos hq] at hc
        exact ⟨_, rfl, s3, hc⟩
    · rintro σ H2 ⟨vk, rfl, e2, hc⟩
      rw [cmp_end] at hc
      refine nxp ?_
      exact fin _ _ e2 hc.symm

theorem ok_term_key {f : Addr} {fd : FuncData} (F : Fun K "term_key" "term_key" s_term_key f fd) (E : Bi K mg) (D_node_key : Has P w K mg base 2 "node_key" ["node"] (sp_node_key K)) : FnOk P w K mg base CX0 3 f fd ["term"] (sp_term_key K) := by
  obtain ⟨f_node_key, fd_node_key, G_node_key, g_node_key, kp_node_key, b_node_key⟩ := D_node_key
  refine F.ok sc_term_key (fun vs H Q E h => ?_) (fun cdv A outer s H vs Q E' hr h => ?_)
  · obtain ⟨x, ds, rfl, _⟩ := h
    rfl
  · obtain ⟨x, ds, rfl, hx, hn, hl, q⟩ := h
    refine ⟨_, (pss_one (ps_ret (pe_lc (own := [("node", 1)]) (g := gName 1) (tt := tYes) rfl sc_term_key.nd (pi_tup (pv 0)) (blkOk_by (N := N_term_key) (sc := defScope s_term_key) (by decide +kernel)) (fun _ _ _ _ _ => pg_name (i := 1) sc_term_key.nd rfl (Or.inl rfl)) (fun _ _ _ _ _ => pts_nil) (fun _ _ _ _ _ => (pe_call G_node_key (hr.mono (by decide)) (by rfl) g_node_key kp_node_key b_node_key .nil pass0 (pa_cons (pv 1) pa_nil)))))), ?_⟩
    refine st_of (σ := [some _, none]) rfl ?_
    walk_at "go"
    cases hx with
    | @tup a xs _ sx ax =>
    have lx := DpAll.len ax
    refine ⟨a, rfl, ⟨_, sx⟩, fun D nD => ?_⟩
    refine lc_tup (K := K) (a := a) (xs := xs) (fun i H' => ∃ ys, Same H H' ∧ H' D = some (.lst ys) ∧ DpAll K H' ys ((ds.take i).map fun d => .tuple (keyN d)) ∧ ys.length = i) ⟨[], same_upd nD, upd_same, .nil, rfl⟩ (fun i H' _ ⟨_, s1, _⟩ => same_sqT s1 sx) ?_ ?_
    · rintro i z H1 hz ⟨ys, s1, e1, d1, l1⟩
      obtain ⟨d, hd, dz⟩ := DpAll.getV ax hz
      have nd := hn d (List.mem_of_getElem? hd)
      have hi := (List.getElem?_eq_some_iff.mp hz).1
      refine gname ⟨rfl, ?_⟩
      walk_at "go"
      refine ⟨z, d, rfl, dp_same s1 _ _ dz, nd, fun v H2 s2 d2 => ⟨ys, s2 _ _ e1, Nat.lt_of_le_of_lt (show ys.length ≤ 100000 by omega) (by decide), ys ++ [v], ?_, upd_same, ?_, by rw [List.length_append, l1]; rfl⟩⟩
      · intro b o e
        rw [upd_ne (ne_of_none e nD)]
        exact s2 _ _ (s1 _ _ e)
      · have ne : ∀ b o, H1 b = some o → H2 b = some o := fun b o e => s2 b o e
        have bl : ButL D H2 (upd H2 D (.lst (ys ++ [v]))) := ButL.put (s2 _ _ e1)
        have nl : ∀ e ∈ ds, noL (.tuple (keyN e)) = true := fun e he => by
          obtain ⟨i', y', e'⟩ := rest_form (hn e he)
          unfold keyN
          rw [e']
          simp [noL, noLs]
        rw [List.take_add_one, hd, List.map_append]
        refine dp_noLs bl _ _ ?_ (dpAll_end (dp_sameAll s2 _ _ d1) d2)
        refine noLs_of fun e he => ?_
        rcases List.mem_append.mp he with he | he
        · obtain ⟨f, hf, rfl⟩ := List.mem_map.mp he
          exact nl f (List.mem_of_mem_take hf)
        · have he' : e ∈ [PyData.tuple (keyN d)] := he
          rw [List.mem_singleton.mp he']
          exact nl d (List.mem_of_getElem? hd)
    · rintro H1 ⟨ys, s1, e1, d1, l1⟩
      refine q _ _ s1 (.lst (SqL.of e1) ?_)
      rw [List.take_of_length_le (by omega)] at d1
      exact d1

theorem ok_compare {f : Addr} {fd : FuncData} (F : Fun K "compare" "compare" s_compare f fd) (E : Bi K mg) (D_is_variable : Has P w K mg base 1 "is_variable" ["node"] (sp_is_variable K)) (D_node_key : Has P w K mg base 2 "node_key" ["node"] (sp_node_key K)) : FnOk P w K mg base CX0 3 f fd ["left", "right"] (sp_compare K) := by
  obtain ⟨f_is_variable, fd_is_variable, G_is_variable, g_is_variable, kp_is_variable, b_is_variable⟩ := D_is_variable
  obtain ⟨f_node_key, fd_node_key, G_node_key, g_node_key, kp_node_key, b_node_key⟩ := D_node_key
  refine F.ok sc_compare (fun vs H Q E h => ?_) (fun cdv A outer s H vs Q E' hr h => ?_)
  · obtain ⟨x, y, ds, es, rfl, _⟩ := h
    rfl
  · obtain ⟨x, y, ds, es, rfl, hx, hy, nx, ny, q⟩ := h
    refine ⟨_, (pss_cons (ps_for PassesOwn.never rfl (RZ.pi_zipA (by rfl) E.b_zip (pa_cons (pv 0) (pa_cons (pv 1) pa_nil))) (pg_tup rfl (pgs_cons (pg_name (i := 2) sc_compare.nd rfl (Or.inl rfl)) (pgs_cons (pg_name (i := 3) sc_compare.nd rfl (Or.inl rfl)) pgs_nil))) (pss_one (ps_if (pt_cmpR (op_neD hr.units) (pv 2) (pv 3) (nomark _)) (pss_cons (ps_if (pw_and (pt_val (pe_call G_is_variable (hr.mono (by decide)) (by rfl) g_is_variable kp_is_variable b_is_variable .nil pass0 (pa_cons (pv 2) pa_nil))) (pw_and1 (pt_val (pe_call G_is_variable (hr.mono (by decide)) (by rfl) g_is_variable kp_is_variable b_is_variable .nil pass0 (pa_cons (pv 3) pa_nil))))).pt (pss_one (ps_ret pe_non)) pss_nil)
      (pss_one (ps_ret (pe_ifExp (pt_cmpR (op_ltD hr.units) (pe_call G_node_key (hr.mono (by decide)) (by rfl) g_node_key kp_node_key b_node_key .nil pass0 (pa_cons (pv 2) pa_nil)) (pe_call G_node_key (hr.mono (by decide)) (by rfl) g_node_key kp_node_key b_node_key .nil pass0 (pa_cons (pv 3) pa_nil)) (nomark _)) (pe_un un_neg pe_int) pe_int)))) pss_nil)))
      (pss_one (ps_ret pe_int))), ?_⟩
    have fin : ∀ (o : Option Int) (H' : Hp), Same H H' → cmpM ds es = o → Q (resV o) H' := fun o H' s e => e ▸ q H' s
    cases hx with
    | @tup a xs _ sx ax =>
    cases hy with
    | @tup b ys _ sy ay =>
    refine seq_any ?_
    refine ⟨_, rfl, _, rfl, a, b, xs, ys, rfl, .inr ⟨sx, sy, ?_⟩⟩
    refine for_it (walk_zipT (n := min ds.length es.length) (by rw [DpAll.len ax, DpAll.len ay])) (fun i σ H2 => ∃ v3 v4, σ = [some (.ref a), some (.ref b), v3, v4] ∧ Same H H2 ∧ cmpM (ds.drop i) (es.drop i) = cmpM ds es)
      ⟨none, none, rfl, Same.refl H, rfl⟩ (fun i σ H2 _ ⟨_, _, _, e, _⟩ => ⟨same_sqT e sx, same_sqT e sy⟩) ?_ ?_
    · rintro i T0 σ H2 H3 hi ⟨v3, v4, rfl, e2, hc⟩ ⟨T, x, y, rfl, hT, rfl, h1, h2⟩
      obtain ⟨d, hd, dx0⟩ := DpAll.getV ax h1
      obtain ⟨e, he, dy0⟩ := DpAll.getV ay h2
      have ndd := nx d (List.mem_of_getElem? hd)
      have nde := ny e (List.mem_of_getElem? he)
      have s3 : Same H (upd H2 T (.tup [x, y])) := e2.trans (same_upd hT)
      have dx := dp_same s3 _ _ dx0
      have dy := dp_same s3 _ _ dy0
      rw [cmp_step hd he] at hc
      refine ⟨T, [x, y], rfl, SqT.of upd_same, rfl, x, [y], rfl, gname ⟨y, [], rfl, gname ?_⟩⟩
      refine ⟨rfl, ?_⟩
      refine ⟨_, rfl, _, rfl, d, e, dx, dy, nd_shaped ndd, nd_shaped nde, _, rfl, ite2 (fun z => ?_) (fun z => ?_)⟩
      · have hq : PyData.eqv d e = false := by
          cases hq : PyData.eqv d e with
          | false => rfl
          | true => rw [hq] at z; cases z
        have hc2 := hc.symm
        rw [if_neg (by rw [hq]; exact Bool.false_ne_true)] at hc2
        refine seq_ifN ?_
        refine ⟨_, rfl, x, d, rfl, dx, ndd, _, rfl, ite2 (fun v1 => ?_) (fun v1 => ?_)⟩
        · refine ⟨_, rfl, y, e, rfl, dy, nde, _, rfl, ite2 (fun v2 => ?_) (fun v2 => ?_)⟩
          · rw [if_pos (by rw [v1, v2]; rfl)] at hc2
            exact fin _ _ s3 hc2
          · have hv : ¬ (isVarN d && isVarN e) = true := fun z => v2 (Bool.and_eq_true .. ▸ z).2
            rw [if_neg hv] at hc2
            refine ⟨_, rfl, x, d, rfl, dx, ndd, fun u1 H4 s4 d4 => ⟨_, rfl, y, e, rfl, dp_same s4 _ _ dy, nde, fun u2 H5 s5 d5 => ⟨_, _, dp_same s5 _ _ d4, d5, key_alike ndd nde, (fun z => nomatch z), key_deep ndd, _, rfl, ?_⟩⟩⟩
            have s6 := s3.trans (s4.trans s5)
            rw [key_lt hv]
            refine ite2 (fun hlt => ?_) (fun hlt => ?_)
            · refine ⟨_, rfl, ?_⟩
              rw [if_pos hlt] at hc2
              exact fin _ _ s6 hc2
            · rw [if_neg hlt] at hc2
              exact fin _ _ s6 hc2
        · refine iteF ?_
          have hv : ¬ (isVarN d && isVarN e) = true := fun z => v1 (Bool.and_eq_true .. ▸ z).1
          rw [if_neg hv] at hc2
          refine ⟨_, rfl, x, d, rfl, dx, ndd, fun u1 H4 s4 d4 => ⟨_, rfl, y, e, rfl, dp_same s4 _ _ dy, nde, fun u2 H5 s5 d5 => ⟨_, _, dp_same s5 _ _ d4, d5, key_alike ndd nde, (fun z => nomatch z), key_deep ndd, _, rfl, ?_⟩⟩⟩
          have s6 := s3.trans (s4.trans s5)
          rw [key_lt hv]
          refine ite2 (fun hlt => ?_) (fun hlt => ?_)
          · refine ⟨_, rfl, ?_⟩
            rw [if_pos hlt] at hc2
            exact fin _ _ s6 hc2
          · rw [if_neg hlt] at hc2
            exact fin _ _ s6 hc2
      · have hq : PyData.eqv d e = true := by
          cases hq : PyData.eqv d e with
          | true => rfl
          | false => rw [hq] at z; exact absurd rfl z
        rw [if_pos hq] at hc
        exact ⟨some x, some y, rfl, s3, hc⟩
    · rintro σ H2 ⟨v3, v4, rfl, e2, hc⟩
      rw [cmp_end] at hc
      refine nxp ?_
      exact fin _ _ e2 hc.symm

theorem ok__law_leaf {f : Addr} {fd : FuncData} (F : Fun K "_law_leaf" "_law_leaf" s__law_leaf f fd) (E : Bi K mg) (D__law_draw : Has P w K mg base 1 "_law_draw" ["stream", "many"] (sp__law_draw K)) (D__law_name : Has P w K mg base 2 "_law_name" ["stream"] (sp__law_name K)) : FnOk P w K mg base CX0 3 f fd ["stream", "widest"] (sp__law_leaf K) := by
  obtain ⟨f__law_draw, fd__law_draw, G__law_draw, g__law_draw, kp__law_draw, b__law_draw⟩ := D__law_draw
  obtain ⟨f__law_name, fd__law_name, G__law_name, g__law_name, kp__law_name, b__law_name⟩ := D__law_name
  refine F.ok sc__law_leaf (fun vs H Q E h => ?_) (fun cdv A outer s H vs Q E' hr h => ?_)
  · obtain ⟨s, l, wd, rfl, _⟩ := h
    rfl
  · obtain ⟨s, l, wd, rfl, hS, hw, hw2, q⟩ := h
    have n9 : (2 : Nat) ^ 140 ≤ 2 ^ 9000 := Nat.pow_le_pow_right (by decide) (by decide)
    refine ⟨_, (pss_cons (ps_set (i := 2) sc__law_leaf.nd rfl (Or.inl rfl) (pe_call G__law_draw (hr.mono (by decide)) (by rfl) g__law_draw kp__law_draw b__law_draw .nil pass0 (pa_cons (pv 0) (pa_cons pe_int pa_nil))))
      (pss_cons (ps_if (pw_and (pt_cmpR op_lt (pv 2) pe_int (nomark _)) (pw_and1 (pt_cmpR op_gt (pv 1) pe_int (nomark _)))).pt (pss_one (ps_ret (pe_tup (pa_cons pe_str (pa_cons (pe_call G__law_draw (hr.mono (by decide)) (by rfl) g__law_draw kp__law_draw b__law_draw .nil pass0 (pa_cons (pv 0) (pa_cons (pv 1) pa_nil))) pa_nil))))) pss_nil)
      (pss_cons (ps_if (pt_cmpR op_eq (pv 2) pe_int (nomark _)) (pss_one (ps_ret (pe_op op_sub (pe_call G__law_draw (hr.mono (by decide)) (by rfl) g__law_draw kp__law_draw b__law_draw .nil pass0 (pa_cons (pv 0) (pa_cons pe_int pa_nil))) pe_int))) pss_nil)
      (pss_cons (ps_if (pw_and (pt_cmpR op_eq (pv 2) pe_int (nomark _)) (pw_and1 (pt_cmpR op_eq (pe_call G__law_draw (hr.mono (by decide)) (by rfl) g__law_draw kp__law_draw b__law_draw .nil pass0 (pa_cons (pv 0) (pa_cons pe_int pa_nil))) pe_int (nomark _)))).pt (pss_one (ps_ret (pe_op op_sub (pe_call G__law_draw (hr.mono (by decide)) (by rfl) g__law_draw kp__law_draw b__law_draw .nil pass0 (pa_cons (pv 0) (pa_cons (pe_op op_pow pe_int pe_int) pa_nil))) (pe_call G__law_draw (hr.mono (by decide)) (by rfl) g__law_draw kp__law_draw b__law_draw .nil pass0 (pa_cons (pv 0) (pa_cons (pe_op op_pow pe_int pe_int) pa_nil)))))) pss_nil)
      (pss_one (ps_ret (pe_tup (pa_cons pe_str (pa_cons (pe_call G__law_name (hr.mono (by decide)) (by rfl) g__law_name kp__law_name b__law_name .nil pass0 (pa_cons (pv 0) pa_nil)) (pa_cons pe_int pa_nil)))))))))), ?_⟩
    have fin : ∀ H1 : Hp, But s H H1 → Stm H1 s l → ∀ x H2, okName x = true → But s H1 H2 → Stm H2 s l → ∀ p, H2 p = Option.none → Q (.ref p) (upd H2 p (.tup [.str "f", .str x, .int 0])) := by
      intro H1 b1 S1 x H2 hx b2 S2 p np
      obtain ⟨os, hos⟩ := S2.at_s
      obtain ⟨ol, hol⟩ := S2.at_l
      have hp : H p = Option.none := by
        cases e : H p with
        | none => rfl
        | some o =>
          by_cases z : p = s
          · rw [z, hos] at np; cases np
          · rw [b2 _ _ z (b1 _ _ z e)] at np; cases np
      exact q _ (.tuple [.str "f", .str x, .int 0]) _ (.f x 0 hx (by decide) (by decide)) rfl ((b1.trans b2).trans (But.of (same_upd np))) (S2.put (ne_of_none hos np) (ne_of_none hol np)) (.tup hp upd_same (.cons (.str _) (.cons (.str _) (.cons (.int _) .nil))))
    refine seq_asg ?_
    refine ⟨_, rfl, s, l, 5, rfl, hS, by decide, Nat.lt_of_lt_of_le (by decide) n9, fun pick H1 _ _ b1 S1 => ?_⟩
    refine gname (seq_ifN ?_)
    have fresh : ∀ (H2 : Hp), But s H H2 → Stm H2 s l → ∀ p, H2 p = Option.none → H p = Option.none := by
      intro H2 b2 S2 p np
      obtain ⟨os, hos⟩ := S2.at_s
      cases e : H p with
      | none => rfl
      | some o =>
        by_cases z : p = s
        · rw [z, hos] at np; cases np
        · rw [b2 _ _ z e] at np; cases np
    refine ⟨_, rfl, _, _, rfl, rfl, _, rfl, ite2 (fun e => ?_) (fun e => ?_)⟩
    · refine ⟨_, rfl, _, _, rfl, rfl, _, rfl, ite2 (fun e2 => ?_) (fun e2 => ?_)⟩
      · have hw1 : 0 < wd := of_decide_eq_true e2
        refine ⟨_, rfl, _, rfl, s, l, wd, rfl, S1, hw1, Nat.lt_of_lt_of_le (show wd.natAbs < 2 ^ 140 from Nat.lt_of_le_of_lt (show wd.natAbs ≤ 1000 by omega) (by decide)) n9, fun r H2 r0 r1 b2 S2 => ⟨(by show 2 ≤ sizeLine; decide), fun p np => ?_⟩⟩
        obtain ⟨os, hos⟩ := S2.at_s
        obtain ⟨ol, hol⟩ := S2.at_l
        exact q _ (.tuple [.str "v", .int r]) _ (.v r r0 r1) rfl ((b1.trans b2).trans (But.of (same_upd np))) (S2.put (ne_of_none hos np) (ne_of_none hol np)) (.tup (fresh H2 (b1.trans b2) S2 p np) upd_same (.cons (.str _) (.cons (.int _) .nil)))
      · refine seq_ifN ?_
        refine ⟨_, rfl, rfl, _, rfl, ite2 (fun e2 => ?_) (fun e2 => ?_)⟩
        · refine ⟨_, rfl, s, l, 10, rfl, S1, by decide, Nat.lt_of_lt_of_le (by decide) n9, fun r H2 r0 r1 b2 S2 => ⟨_, _, rfl, rfl, ?_⟩⟩
          exact q _ (.int (r - 4)) _ (.i _ (by omega) (by omega)) rfl (b1.trans b2) S2 (.int _)
        · refine seq_ifN ?_
          refine ⟨_, rfl, rfl, _, rfl, ite2 (fun e3 => ?_) (fun e3 => ?_)⟩
          · refine ⟨_, rfl, s, l, 4, rfl, S1, by decide, Nat.lt_of_lt_of_le (by decide) n9, fun r H2 r0 r1 b2 S2 => ⟨rfl, _, rfl, ite2 (fun e4 => ?_) (fun e4 => ?_)⟩⟩
            · have h40 : (10 : Int) ^ (40 : Int).toNat = 10 ^ 40 := rfl
              refine ⟨_, rfl, _, _, rfl, rfl, ⟨by decide, by decide, by decide⟩, s, l, _, rfl, S2, by decide, Nat.lt_of_lt_of_le (by decide) n9, fun r3 H3 r30 r31 b3 S3 => ?_⟩
              refine ⟨_, rfl, _, _, rfl, rfl, ⟨by decide, by decide, by decide⟩, s, l, _, rfl, S3, by decide, Nat.lt_of_lt_of_le (by decide) n9, fun r4 H4 r40 r41 b4 S4 => ⟨_, _, rfl, rfl, ?_⟩⟩
              rw [h40] at r31 r41
              exact q _ (.int (r3 - r4)) _ (.i _ (by omega) (by omega)) rfl (((b1.trans b2).trans b3).trans b4) S4 (.int _)
            · refine ⟨_, rfl, s, l, rfl, S2, fun x H3 hx b3 S3 => ⟨(by show 3 ≤ sizeLine; decide), fun p np => fin H2 (b1.trans b2) S2 x H3 hx b3 S3 p np⟩⟩
          · refine iteF ?_
            refine ⟨_, rfl, s, l, rfl, S1, fun x H3 hx b3 S3 => ⟨(by show 3 ≤ sizeLine; decide), fun p np => fin H1 b1 S1 x H3 hx b3 S3 p np⟩⟩
    · refine iteF (seq_ifN ?_)
      refine ⟨_, rfl, rfl, _, rfl, ite2 (fun e2 => ?_) (fun e2 => ?_)⟩
      · refine ⟨_, rfl, s, l, 10, rfl, S1, by decide, Nat.lt_of_lt_of_le (by decide) n9, fun r H2 r0 r1 b2 S2 => ⟨_, _, rfl, rfl, ?_⟩⟩
        exact q _ (.int (r - 4)) _ (.i _ (by omega) (by omega)) rfl (b1.trans b2) S2 (.int _)
      · refine seq_ifN ?_
        refine ⟨_, rfl, rfl, _, rfl, ite2 (fun e3 => ?_) (fun e3 => ?_)⟩
        · refine ⟨_, rfl, s, l, 4, rfl, S1, by decide, Nat.lt_of_lt_of_le (by decide) n9, fun r H2 r0 r1 b2 S2 => ⟨rfl, _, rfl, ite2 (fun e4 => ?_) (fun e4 => ?_)⟩⟩
          · have h40 : (10 : Int) ^ (40 : Int).toNat = 10 ^ 40 := rfl
            refine ⟨_, rfl, _, _, rfl, rfl, ⟨by decide, by decide, by decide⟩, s, l, _, rfl, S2, by decide, Nat.lt_of_lt_of_le (by decide) n9, fun r3 H3 r30 r31 b3 S3 => ?_⟩
            refine ⟨_, rfl, _, _, rfl, rfl, ⟨by decide, by decide, by decide⟩, s, l, _, rfl, S3, by decide, Nat.lt_of_lt_of_le (by decide) n9, fun r4 H4 r40 r41 b4 S4 => ⟨_, _, rfl, rfl, ?_⟩⟩
            rw [h40] at r31 r41
            exact q _ (.int (r3 - r4)) _ (.i _ (by omega) (by omega)) rfl (((b1.trans b2).trans b3).trans b4) S4 (.int _)
          · refine ⟨_, rfl, s, l, rfl, S2, fun x H3 hx b3 S3 => ⟨(by show 3 ≤ sizeLine; decide), fun p np => fin H2 (b1.trans b2) S2 x H3 hx b3 S3 p np⟩⟩
        · refine iteF ?_
          refine ⟨_, rfl, s, l, rfl, S1, fun x H3 hx b3 S3 => ⟨(by show 3 ≤ sizeLine; decide), fun p np => fin H1 b1 S1 x H3 hx b3 S3 p np⟩⟩

theorem ok__law_term {f : Addr} {fd : FuncData} (F : Fun K "_law_term" "_law_term" s__law_term f fd) (E : Bi K mg) (D__law_draw : Has P w K mg base 1 "_law_draw" ["stream", "many"] (sp__law_draw K)) (D__law_name : Has P w K mg base 2 "_law_name" ["stream"] (sp__law_name K)) (D__law_leaf : Has P w K mg base 3 "_law_leaf" ["stream", "widest"] (sp__law_leaf K)) : FnOk P w K mg base CX0 4 f fd ["stream", "size", "widest"] (sp__law_term K) := by
  obtain ⟨f__law_draw, fd__law_draw, G__law_draw, g__law_draw, kp__law_draw, b__law_draw⟩ := D__law_draw
  obtain ⟨f__law_name, fd__law_name, G__law_name, g__law_name, kp__law_name, b__law_name⟩ := D__law_name
  obtain ⟨f__law_leaf, fd__law_leaf, G__law_leaf, g__law_leaf, kp__law_leaf, b__law_leaf⟩ := D__law_leaf
  refine F.ok sc__law_term (fun vs H Q E h => ?_) (fun cdv A outer s H vs Q E' hr h => ?_)
  · obtain ⟨s, l, n, wd, rfl, _⟩ := h
    rfl
  · obtain ⟨s, l, n, wd, rfl, hS, hn, hn2, hw, hw2, q⟩ := h
    have n9 : (2 : Nat) ^ 140 ≤ 2 ^ 9000 := Nat.pow_le_pow_right (by decide) (by decide)
    refine ⟨_, (pss_cons (ps_set (i := 3) sc__law_term.nd rfl (Or.inl rfl) (pe_lst pa_nil))
      (pss_cons (ps_set (i := 4) sc__law_term.nd rfl (Or.inl rfl) pe_int)
      (pss_cons (ps_while PassesOwn.never (pt_cmpR op_gt (pv 4) pe_int (nomark _)) (pss_cons (ps_set (i := 4) sc__law_term.nd rfl (Or.inl rfl) (pe_op op_sub (pv 4) pe_int))
      (pss_cons (ps_set (i := 5) sc__law_term.nd rfl (Or.inl rfl) (pe_op op_sub (pe_op op_sub (pe_op op_sub (pv 1) (pe_callB call_len_seq (by rfl) E.b_len PySem.boot_len (pa_cons (pv 3) pa_nil))) (pv 4)) pe_int))
      (pss_one (ps_if (pw_and (pt_cmpR op_gt (pv 5) pe_int (nomark _)) (pw_and1 (pt_cmpR op_gt (pe_call G__law_draw (hr.mono (by decide)) (by rfl) g__law_draw kp__law_draw b__law_draw .nil pass0 (pa_cons (pv 0) (pa_cons pe_int pa_nil))) pe_int (nomark _)))).pt (pss_cons (ps_set (i := 6) sc__law_term.nd rfl (Or.inl rfl) (pe_op op_add pe_int (pe_call G__law_draw (hr.mono (by decide)) (by rfl) g__law_draw kp__law_draw b__law_draw .nil pass0 (pa_cons (pv 0) (pa_cons (pe_callB (call_min2 rfl) (by rfl) E.b_min (by decide +kernel) (pa_cons (pv 5) (pa_cons (pe_op op_add pe_int (pe_op op_mul pe_int (pe_callTy call_int1 (by rfl) E.b_int (by decide +kernel) (pa_cons (pe_cmpR op_eq (pe_call G__law_draw (hr.mono (by decide)) (by rfl) g__law_draw kp__law_draw b__law_draw .nil pass0 (pa_cons (pv 0) (pa_cons pe_int pa_nil))) pe_int (nomark _)) pa_nil)))) pa_nil))) pa_nil)))))
      (pss_cons (ps_set (i := 6) sc__law_term.nd rfl (Or.inl rfl) (pe_callB (call_min2 rfl) (by rfl) E.b_min (by decide +kernel) (pa_cons (pv 6) (pa_cons pe_int pa_nil))))
      (pss_cons (ps_expr (pe_bm PySem.F.plainAttrs_list PySem.F.slot_list_append PySem.F.type_list_append mt_append (pv 3) (pa_cons (pe_tup (pa_cons pe_str (pa_cons (pe_call G__law_name (hr.mono (by decide)) (by rfl) g__law_name kp__law_name b__law_name .nil pass0 (pa_cons (pv 0) pa_nil)) (pa_cons (pv 6) pa_nil)))) pa_nil)))
      (pss_one (ps_set (i := 4) sc__law_term.nd rfl (Or.inl rfl) (pe_op op_add (pv 4) (pv 6))))))) (pss_one (ps_expr (pe_bm PySem.F.plainAttrs_list PySem.F.slot_list_append PySem.F.type_list_append mt_append (pv 3) (pa_cons (pe_call G__law_leaf (hr.mono (by decide)) (by rfl) g__law_leaf kp__law_leaf b__law_leaf .nil pass0 (pa_cons (pv 0) (pa_cons (pv 2) pa_nil))) pa_nil)))))))))
      (pss_one (ps_ret (pe_callTy call_tuple_of (by rfl) E.b_tuple (by decide +kernel) (pa_cons (pv 3) pa_nil))))))), ?_⟩
    refine seq_asg ?_
    refine ⟨Nat.zero_le _, fun r nr => ?_⟩
    refine gname (seq_asg (gname (seq_any ?_)))
    obtain ⟨os, hos⟩ := hS.at_s
    obtain ⟨ol, hol⟩ := hS.at_l
    have sr : s ≠ r := ne_of_none hos nr
    have lr : l ≠ r := ne_of_none hol nr
    refine ⟨fun k σ H' => ∃ (m : Nat) (va vb : Option V) (xs : List V) (ds : List PyData), σ = [some (.ref s), some (.int n), some (.int wd), some (.ref r), some (.int (m : Int)), va, vb] ∧ H' r = some (.lst xs) ∧ ImAll K (fun b => H b = Option.none ∧ b ≠ r) H' xs ds ∧
        (∀ t, Cls m t → Cls 1 (ds ++ t)) ∧ (∀ d ∈ ds, Nd wd d) ∧ (ds.length : Int) + m ≤ n ∧ Stm H' s l ∧ But s H H' ∧ k = n.toNat - ds.length,
      ⟨_, 1, _, _, [], [], rfl, upd_same, .nil, fun t h => h, (fun d hd => nomatch hd), by show (0 : Int) + 1 ≤ n; omega, hS.put sr lr, But.of (same_upd nr), rfl⟩, ?_⟩
    rintro k σ H1 ⟨m, va, vb, xs, ds, rfl, h1, h2, h3, h4, h5, h6, h7, rfl⟩
    have hxl : xs.length = ds.length := h2.len
    refine ⟨_, rfl, _, _, rfl, rfl, _, rfl, ite2 (fun e => ?_) (fun e => ?_)⟩
    · have hm : 0 < m := by
        have := of_decide_eq_true e
        omega
      refine ⟨fun σ' H' => ∃ (m' : Nat) (va vb : Option V) (xs' : List V) (ds' : List PyData), σ' = [some (.ref s), some (.int n), some (.int wd), some (.ref r), some (.int (m' : Int)), va, vb] ∧ H' r = some (.lst xs') ∧ ImAll K (fun b => H b = Option.none ∧ b ≠ r) H' xs' ds' ∧
        (∀ t, Cls m' t → Cls 1 (ds' ++ t)) ∧ (∀ d ∈ ds', Nd wd d) ∧ (ds'.length : Int) + m' ≤ n ∧ Stm H' s l ∧ But s H H' ∧ ds'.length = ds.length + 1,
        fun σ' H' ⟨m', va', vb', xs', ds', g1, g2, g3, g4, g5, g6, g7, g8, g9⟩ => ⟨n.toNat - ds'.length, by omega, m', va', vb', xs', ds', g1, g2, g3, g4, g5, g6, g7, g8, rfl⟩, ?_⟩
      -- missing = missing - 1; room = ..
      refine seq_asg ?_
      refine ⟨_, rfl, _, _, rfl, rfl, ?_⟩
      refine gname (seq_asg ?_)
      refine ⟨_, rfl, _, rfl, _, _, rfl, .inl (SqL.of h1), _, _, rfl, rfl, _, rfl, _, _, rfl, rfl, _, _, rfl, rfl, ?_⟩
      refine gname ?_
      -- a new node is put behind
      have put : ∀ (H2 : Hp) (v : V) (d : PyData), But s H1 H2 → Stm H2 s l → Im K (fun b => H1 b = Option.none) H2 v d → Nd wd d → ∀ (m' : Nat) (z : Int), z = (m' : Int) → m' = m - 1 + arN d → (ds.length : Int) + 1 + m' ≤ n → ∀ va vb,
          ∃ (m'' : Nat) (va' vb' : Option V) (xs' : List V) (ds' : List PyData), [some (.ref s), some (.int n), some (.int wd), some (.ref r), some (.int z), va, vb] = [some (.ref s), some (.int n), some (.int wd), some (.ref r), some (.int (m'' : Int)), va', vb'] ∧ (upd H2 r (.lst (xs ++ [v]))) r = some (.lst xs') ∧ ImAll K (fun b => H b = Option.none ∧ b ≠ r) (upd H2 r (.lst (xs ++ [v]))) xs' ds' ∧
            (∀ t, Cls m'' t → Cls 1 (ds' ++ t)) ∧ (∀ d ∈ ds', Nd wd d) ∧ (ds'.length : Int) + m'' ≤ n ∧ Stm (upd H2 r (.lst (xs ++ [v]))) s l ∧ But s H (upd H2 r (.lst (xs ++ [v]))) ∧ ds'.length = ds.length + 1 := by
        intro H2 v d b2 S2 iv nd m' z hz em hle va vb
        have k1 : ∀ b o, (H b = Option.none ∧ b ≠ r) → H1 b = some o → (upd H2 r (.lst (xs ++ [v]))) b = some o := fun b o g e => by
          rw [upd_ne g.2]
          exact b2 b o (fun z => by rw [z, hos] at g; cases g.1) e
        have k2 : ∀ b o, H1 b = Option.none → H2 b = some o → (upd H2 r (.lst (xs ++ [v]))) b = some o := fun b o g e => by
          rw [upd_ne (fun z => by rw [z, h1] at g; cases g)]
          exact e
        have k3 : ∀ b, H1 b = Option.none → H b = Option.none ∧ b ≠ r := fun b g => by
          refine ⟨?_, fun z => by rw [z, h1] at g; cases g⟩
          cases eh : H b with
          | none => rfl
          | some o =>
            by_cases z : b = s
            · obtain ⟨o1, ho1⟩ := h6.at_s
              rw [z, ho1] at g; cases g
            · rw [h7 _ _ z eh] at g; cases g
        have k4 : ∀ t, Cls m' t → Cls 1 ((ds ++ [d]) ++ t) := fun t ht => by
          rw [List.append_assoc]
          exact h3 _ ⟨hm, by rw [em] at ht; exact ht⟩
        have k5 : ∀ d' ∈ ds ++ [d], Nd wd d' := fun d' hd' => by
          rcases List.mem_append.mp hd' with z | z
          · exact h4 _ z
          · rw [List.mem_singleton.mp z]; exact nd
        have k6 : ((ds ++ [d]).length : Int) + (m' : Int) ≤ n := by
          rw [List.length_append]
          show ((ds.length + 1 : Nat) : Int) + (m' : Int) ≤ n
          omega
        have k7 : But s H (upd H2 r (.lst (xs ++ [v]))) := fun b o hb e => by
          rw [upd_ne (ne_of_none e nr)]
          exact b2 b o hb (h7 b o hb e)
        exact ⟨m', va, vb, xs ++ [v], ds ++ [d], by rw [hz], upd_same, ImAll.snoc (Im.monoAll k1 (fun _ g => g) _ _ h2) (Im.mono k2 k3 _ _ iv), k4, k5, k6, S2.put sr lr, k7, by rw [List.length_append]; rfl⟩
      have hm1 : (m : Int) - 1 = ((m - 1 : Nat) : Int) := by omega
      -- if room > 0 and draw > 0
      refine ⟨_, rfl, _, _, rfl, rfl, _, rfl, ite2 (fun e1 => ?_) (fun e1 => ?_)⟩
      · have hroom : 0 < n - (xs.length : Int) - ((m : Int) - 1) - 1 := of_decide_eq_true e1
        refine ⟨_, rfl, s, l, 3, rfl, h6, by decide, Nat.lt_of_lt_of_le (by decide) n9, fun r1 H2 _ _ b2 S2 => ⟨_, _, rfl, rfl, _, rfl, ite2 (fun e2 => ?_) (fun e2 => ?_)⟩⟩
        · refine seq_asg ?_
          refine ⟨_, rfl, _, rfl, _, rfl, s, l, 8, rfl, S2, by decide, Nat.lt_of_lt_of_le (by decide) n9, fun r2 H3 _ _ b3 S3 => ⟨rfl, .inr ⟨_, rfl, _, _, rfl, rfl, .inl ⟨by decide, by decide⟩, _, _, rfl, rfl, _, _, rfl, ?_⟩⟩⟩
          have hk : (0 : Int) ≤ (if decide (V.int r2 = V.int 0) = true then 1 else 0) ∧ (if decide (V.int r2 = V.int 0) = true then (1 : Int) else 0) ≤ 1 := by split <;> decide
          generalize (if decide (V.int r2 = V.int 0) = true then (1 : Int) else 0) = k at hk
          refine ⟨s, l, _, rfl, S3, by split <;> omega, Nat.lt_of_lt_of_le (show _ < 2 ^ 140 from Nat.lt_of_le_of_lt (show _ ≤ 1000 by split <;> omega) (by decide)) n9, fun r3 H4 r30 r31 b4 S4 => ⟨_, _, rfl, rfl, ?_⟩⟩
          have h3r : 1 + r3 ≤ n - (xs.length : Int) - ((m : Int) - 1) - 1 := by
            split at r31 <;> omega
          refine gname (seq_asg ?_)
          refine ⟨_, rfl, _, _, rfl, ?_⟩
          refine gname (seq_any ?_)
          have har : 1 ≤ (if (8 : Int) < 1 + r3 then 8 else 1 + r3) ∧ (if (8 : Int) < 1 + r3 then 8 else 1 + r3) ≤ 8 ∧ (if (8 : Int) < 1 + r3 then 8 else 1 + r3) ≤ 1 + r3 := by split <;> omega
          have e4 : H4 r = some (.lst xs) := b4 _ _ sr.symm (b3 _ _ sr.symm (b2 _ _ sr.symm h1))
          generalize hga : (if (8 : Int) < 1 + r3 then (8 : Int) else 1 + r3) = ar at har
          obtain ⟨ha1, ha8, har3⟩ := har
          refine ⟨_, rfl, .inl ⟨rfl, _, SqL.of e4⟩, _, rfl, s, l, rfl, S4, fun x H5 hx b5 S5 => ⟨_, rfl, (by show 3 ≤ sizeLine; decide), fun p np => ?_⟩⟩
          have e5 : H5 r = some (.lst xs) := b5 _ _ sr.symm e4
          obtain ⟨os5, hos5⟩ := S5.at_s
          obtain ⟨ol5, hol5⟩ := S5.at_l
          have bb : But s H1 H5 := ((b2.trans b3).trans b4).trans b5
          have fp : H1 p = Option.none := by
            cases eh : H1 p with
            | none => rfl
            | some o =>
              by_cases z : p = s
              · rw [z, hos5] at np; cases np
              · rw [bb _ _ z eh] at np; cases np
          have rp : r ≠ p := ne_of_none e5 np
          refine ⟨_, _, _, rfl, rfl, by rw [upd_ne rp]; exact e5, small1000 (by omega), ?_⟩
          refine nxp (asg1 ?_)
          refine ⟨_, rfl, _, rfl, _, _, rfl, rfl, ?_⟩
          refine gname ?_
          have ea : arN (.tuple [.str "f", .str x, .int ar]) = ar.toNat := rfl
          exact put _ (.ref p) (.tuple [.str "f", .str x, .int ar]) (bb.trans (But.of (same_upd np))) (S5.put (ne_of_none hos5 np) (ne_of_none hol5 np)) (.tup fp upd_same (.cons (.str _) (.cons (.str _) (.cons (.int _) .nil)))) (.f x ar hx (by omega) ha8) (m - 1 + ar.toNat) _ (by omega) rfl (by omega) _ _
        · have e2r : H2 r = some (.lst xs) := b2 _ _ sr.symm h1
          refine ⟨_, rfl, .inl ⟨rfl, _, SqL.of e2r⟩, _, rfl, _, rfl, s, l, wd, rfl, S2, hw, hw2, fun v d H3 nd na b3 S3 iv => ?_⟩
          have fr : ∀ b, H2 b = Option.none → H1 b = Option.none := fun b g => by
            cases eh : H1 b with
            | none => rfl
            | some o =>
              by_cases z : b = s
              · obtain ⟨o1, ho1⟩ := S2.at_s
                rw [z, ho1] at g; cases g
              · rw [b2 _ _ z eh] at g; cases g
          refine ⟨_, _, _, rfl, rfl, b3 _ _ sr.symm e2r, small1000 (by omega), ?_⟩
          exact put H3 v d (b2.trans b3) S3 (Im.mono (fun _ _ _ e => e) fr _ _ iv) nd (m - 1) _ hm1 (by rw [na]; rfl) (by omega) _ _
      · refine iteF ?_
        refine ⟨_, rfl, .inl ⟨rfl, _, SqL.of h1⟩, _, rfl, _, rfl, s, l, wd, rfl, h6, hw, hw2, fun v d H3 nd na b3 S3 iv => ?_⟩
        refine ⟨_, _, _, rfl, rfl, b3 _ _ sr.symm h1, small1000 (by omega), ?_⟩
        exact put H3 v d b3 S3 iv nd (m - 1) _ hm1 (by rw [na]; rfl) (by omega) _ _
    · refine nxp ?_
      have hm : m = 0 := by
        cases m with
        | zero => rfl
        | succ m => exact absurd (decide_eq_true (by omega)) e
      subst hm
      have ht : Term wd ds := ⟨by have := h3 [] rfl; rwa [List.append_nil] at this, h4⟩
      refine ⟨_, rfl, _, _, rfl, .inl ⟨SqL.of h1, fun t nt => ?_⟩⟩
      obtain ⟨os1, hos1⟩ := h6.at_s
      obtain ⟨ol1, hol1⟩ := h6.at_l
      have ft : H t = Option.none := by
        cases eh : H t with
        | none => rfl
        | some o =>
          by_cases z : t = s
          · rw [z, hos1] at nt; cases nt
          · rw [h7 _ _ z eh] at nt; cases nt
      exact q _ ds _ ht (by omega) (h7.trans (But.of (same_upd nt))) (h6.put (ne_of_none hos1 nt) (ne_of_none hol1 nt)) (.tup ft upd_same (Im.monoAll (fun b o _ e => same_upd nt b o e) (fun _ g => g.1) _ _ h2))

theorem ok_sort_terms {f : Addr} {fd : FuncData} (F : FunD K "sort_terms" "sort_terms" (defArgs s_sort_terms) (defBody s_sort_terms) (defScope s_sort_terms) [] [("unique", V.bl false)] f fd) (E : Bi K mg) (D_term_key : Has P w K mg base 3 "term_key" ["term"] (sp_term_key K)) (D_compare : Has P w K mg base 3 "compare" ["left", "right"] (sp_compare K)) : FnOk P w K mg base CX0 5 f fd ["items", "unique"] (sp_sort_terms K) := by
  obtain ⟨f_term_key, fd_term_key, G_term_key, g_term_key, kp_term_key, b_term_key⟩ := D_term_key
  obtain ⟨f_compare, fd_compare, G_compare, g_compare, kp_compare, b_compare⟩ := D_compare
  refine F.ok sc_sort_terms (fun vs H Q E h => ?_) (fun cdv A outer s H vs Q E' hr h => ?_)
  · obtain ⟨a, xs, ts, u, rfl, _⟩ := h
    rfl
  · obtain ⟨a, xs, ts, u, rfl, hs, hr0, hok, hlen, q0, q1⟩ := h
    refine ⟨_, (PSs.nox (pss_cons (ps_set (i := 2) sc_sort_terms.nd rfl (Or.inl rfl) (pe_callBK (cr_sortF G_term_key (hr.mono (by decide)) b_term_key) (by rfl) E.b_sorted (by decide +kernel) (pa_cons (pv 0) pa_nil) (pk_cons (pe_glob (by rfl) g_term_key (relRef _)) pk_nil)))
      (pss_cons (ps_set (i := 3) sc_sort_terms.nd rfl (Or.inl rfl) (pe_slice sl_list (pv 2) po_none (po_some pe_int)))
      (pss_cons (ps_for PassesOwn.never rfl (RZ.pi_zipA (by rfl) E.b_zip (pa_cons (pv 2) (pa_cons (pe_slice sl_list (pv 2) (po_some pe_int) po_none) pa_nil))) (pg_tup rfl (pgs_cons (pg_name (i := 4) sc_sort_terms.nd rfl (Or.inl rfl)) (pgs_cons (pg_name (i := 5) sc_sort_terms.nd rfl (Or.inl rfl)) pgs_nil))) (pss_cons (ps_set (i := 6) sc_sort_terms.nd rfl (Or.inl rfl) (pe_call G_compare (hr.mono (by decide)) (by rfl) g_compare kp_compare b_compare .nil pass0 (pa_cons (pv 4) (pa_cons (pv 5) pa_nil))))
      (pss_cons (ps_if (pt_cmpR op_isN (pv 6) pe_non (nomark _)) (pss_one (ps_ret pe_non)) pss_nil)
      (pss_one (ps_if (pw_or (pt_cmpR op_ne (pv 6) pe_int (nomark _)) (pw_or1 (pt_not (pt_val (pv 1))))).pt (pss_one (ps_expr (pe_bm PySem.F.plainAttrs_list PySem.F.slot_list_append PySem.F.type_list_append mt_append (pv 3) (pa_cons (pv 5) pa_nil)))) pss_nil)))))
      (pss_one (ps_ret (pv 3))))))), ?_⟩
    refine st_of (σ := [some _, some _, none, none, none, none, none]) rfl ?_
    walk_at "go"
    have nds : ∀ t ∈ ts, ∀ d ∈ t, NdA d := fun t ht => (hok t ht).1.2
    refine ⟨List PyData, a, xs, ts, keysT, fun x t => Dp K H x (.tuple t), rfl, rfl, hs, hr0, fun x t hd m H1 s1 Q' q' => ⟨x, t, rfl, dp_same s1 _ _ hd, nds t m, by have := (hok t m).2; omega, q'⟩, ?_, ?_, ?_, fun H1 p ys s1 np e1 he => ?_⟩
    · exact keys_alike nds
    · exact keys_sortable ts
    · exact fun t ht => keys_depth (nds t ht)
    have he1 : Rw K H1 ys (srt ts) := Rw.same s1 he
    have ly : ys.length = ts.length := by rw [he.length]; exact srt_len ts
    walk_at "go"
    refine slL (SqL.of e1) fun k nk => ?_
    walk_at "go"
    have pk : p ≠ k := ne_of_none e1 nk
    refine slL (SqL.of (xs := ys) (by rw [upd_ne pk]; exact e1)) fun r nr => ?_
    walk_at "go"
    generalize hL : srt ts = L at he1
    have lL : L.length = ts.length := by rw [← hL]; exact srt_len ts
    have mL : ∀ t ∈ L, OkT t := fun t ht => hok t (srt_mem.mp (by rw [hL]; exact ht))
    rw [show (some (1 : Int)) = some ((1 : Nat) : Int) from rfl, cutV_to] at *
    rw [cutV_from] at *
    have kr : k ≠ r := fun z => by rw [← z, upd_same] at nr; cases nr
    have pr : p ≠ r := fun z => by rw [← z, upd_ne pk, e1] at nr; cases nr
    refine ⟨p, r, ys, ys.drop 1, rfl, .inl ⟨SqL.of (by rw [upd_ne pr, upd_ne pk]; exact e1), SqL.of upd_same, ?_⟩⟩
    refine for_it (walk_zip (n := ys.length - 1) (by rw [List.length_drop]; omega)) (fun i σ H2 => ∃ (acc : List V) (accT : List (List PyData)) (v4 v5 v6 : Option V), σ = [some (.ref a), some (.bl u), some (.ref p), some (.ref k), v4, v5, v6] ∧ Same H1 H2 ∧ H2 k = some (.lst acc) ∧ H2 r = some (.lst (ys.drop 1)) ∧ Rw K H1 acc accT ∧ acc.length ≤ i + 1 ∧ restM u (L.drop i) accT = sortM u ts)
      ⟨ys.take 1, L.take 1, none, none, none, rfl, (same_upd nk).trans (same_upd nr), by rw [upd_ne kr]; exact upd_same, upd_same, ?_, by rw [List.length_take]; omega, by rw [List.drop_zero, ← hL]; exact rest_zero u ts⟩ (fun i σ H2 _ ⟨_, _, _, _, _, _, s2, _, er, _⟩ => ⟨SqL.of (s2 _ _ e1), SqL.of er⟩) ?_ ?_
    · exact Rw.take 1 he1
    · rintro i T0 σ H2 H3 hi ⟨acc, accT, v4, v5, v6, rfl, s2, ek, er, ra, la, hm⟩ ⟨T, x, y, rfl, hT, rfl, h1, h2⟩
      have h1 : ys[i]? = some x := h1
      have h2 : (ys.drop 1)[i]? = some y := h2
      rw [List.getElem?_drop, Nat.add_comm 1 i] at h2
      obtain ⟨t, ht, dx⟩ := Rw.at he1 h1
      obtain ⟨w, hw, dy⟩ := Rw.at he1 h2
      have dr : L.drop i = t :: w :: L.drop (i + 1 + 1) := by
        obtain ⟨g1, g2⟩ := List.getElem?_eq_some_iff.mp ht
        obtain ⟨g3, g4⟩ := List.getElem?_eq_some_iff.mp hw
        rw [List.drop_eq_getElem_cons g1, List.drop_eq_getElem_cons g3, g2, g4]
      have dr2 : L.drop (i + 1) = w :: L.drop (i + 1 + 1) := by
        obtain ⟨g3, g4⟩ := List.getElem?_eq_some_iff.mp hw
        rw [List.drop_eq_getElem_cons g3, g4]
      rw [dr] at hm
      have okt := mL t (List.mem_of_getElem? ht)
      have okw := mL w (List.mem_of_getElem? hw)
      have s3 : Same H1 (upd H2 T (.tup [x, y])) := s2.trans (same_upd hT)
      have kT : k ≠ T := ne_of_none ek hT
      have rT : r ≠ T := ne_of_none er hT
      refine g_gtup (SqT.of upd_same) rfl ?_
      walk_at "go"
      refine ⟨x, y, t, w, rfl, dp_same s3 _ _ dx, dp_same s3 _ _ dy, okt.1.2, okw.1.2, fun H4 s4 => ?_⟩
      have s14 := s3.trans s4
      have ek4 : H4 k = some (.lst acc) := s4 _ _ (by rw [upd_ne kT]; exact ek)
      have er4 : H4 r = some (.lst (ys.drop 1)) := s4 _ _ (by rw [upd_ne rT]; exact er)
      walk_at "go"
      cases hc : cmpM t w with
      | none =>
        rw [rest_none hc] at hm
        refine ⟨rfl, ?_⟩
        rw [decide_eq_true (show resV Option.none = V.non from rfl)]
        walk_at "go"
        exact q0 hm.symm _ (s1.trans s14)
      | some o =>
        rw [rest_step hc, ← dr2] at hm
        refine ⟨rfl, ?_⟩
        rw [decide_eq_false (show ¬ resV (some o) = V.non from fun z => nomatch z)]
        have put : (!decide (o = 0) || !u) = true → ∃ (acc' : List V) (accT' : List (List PyData)) (v4 v5 v6 : Option V), [some (V.ref a), some (.bl u), some (.ref p), some (.ref k), some x, some y, some (resV (some o))] = [some (.ref a), some (.bl u), some (.ref p), some (.ref k), v4, v5, v6] ∧ Same H1 (upd H4 k (.lst (acc ++ [y]))) ∧ (upd H4 k (.lst (acc ++ [y]))) k = some (.lst acc') ∧ (upd H4 k (.lst (acc ++ [y]))) r = some (.lst (ys.drop 1)) ∧ Rw K H1 acc' accT' ∧ acc'.length ≤ i + 1 + 1 ∧ restM u (L.drop (i + 1)) accT' = sortM u ts := fun z => by
          rw [if_pos z] at hm
          refine ⟨acc ++ [y], accT ++ [w], _, _, _, rfl, fun b q e => ?_, upd_same, by rw [upd_ne kr.symm]; exact er4, Rw.snoc ra dy, by rw [List.length_append]; exact Nat.succ_le_succ la, hm⟩
          rw [upd_ne (ne_of_none e nk)]
          exact s14 _ _ e
        walk_at "go"
        rw [show resV (some o) = V.int o from rfl]
        walk_at "go"
        refine ite2 (fun z => ?_) (fun z => ?_)
        · walk_at "go"
          refine tyl (SqL.of ek4) ?_
          walk_at "go"
          refine rap ek4 (by omega) ?_
          walk_at "go"
          exact put (by rw [z]; rfl)
        · have z' : (!decide (o = 0)) = false := by cases q : (!decide (o = 0)) with
            | true => exact absurd q z
            | false => rfl
          walk_at "go"
          cases u with
          | false =>
            walk_at "go"
            refine tyl (SqL.of ek4) ?_
            walk_at "go"
            refine rap ek4 (by omega) ?_
            walk_at "go"
            exact put (by rw [z']; rfl)
          | true =>
            walk_at "go"
            rw [if_neg (by rw [z']; exact Bool.false_ne_true)] at hm
            exact ⟨acc, accT, _, _, _, rfl, s14, ek4, er4, ra, Nat.le_succ_of_le la, hm⟩
    · rintro σ H2 ⟨acc, accT, v4, v5, v6, rfl, s2, ek, er, ra, la, hm⟩
      rw [rest_end (by rw [List.length_drop]; omega)] at hm
      walk_at "go"
      exact q1 _ hm.symm H2 k acc (s1.trans s2) (s1.free nk) ek (Rw.same s2 ra)

theorem ok_law {f : Addr} {fd : FuncData} (F : Fun K "law" "law" s_law f fd) (E : Bi K mg) (D__law_stream : Has P w K mg base 1 "_law_stream" ["script"] (sp__law_stream K)) (D__law_draw : Has P w K mg base 1 "_law_draw" ["stream", "many"] (sp__law_draw K)) (D__law_term : Has P w K mg base 4 "_law_term" ["stream", "size", "widest"] (sp__law_term K)) (D__law_order : Has P w K mg base 2 "_law_order" ["left", "right"] (sp__law_order K)) (D_sort_terms : HasK P w K mg base 5 "sort_terms" ["items", "unique"] [("unique", V.bl false)] (sp_sort_terms K)) : FnOk P w K mg base CX0 6 f fd ["script"] (sp_law K) := by
  obtain ⟨f__law_stream, fd__law_stream, G__law_stream, g__law_stream, kp__law_stream, b__law_stream⟩ := D__law_stream
  obtain ⟨f__law_draw, fd__law_draw, G__law_draw, g__law_draw, kp__law_draw, b__law_draw⟩ := D__law_draw
  obtain ⟨f__law_term, fd__law_term, G__law_term, g__law_term, kp__law_term, b__law_term⟩ := D__law_term
  obtain ⟨f__law_order, fd__law_order, G__law_order, g__law_order, kp__law_order, b__law_order⟩ := D__law_order
  obtain ⟨f_sort_terms, fd_sort_terms, G_sort_terms, g_sort_terms, kp_sort_terms, ⟨ds_sort_terms, v_sort_terms, b_sort_terms⟩, kb_sort_terms⟩ := D_sort_terms
  refine F.ok sc_law (fun vs H Q E h => ?_) (fun cdv A outer s H vs Q E' hr h => ?_)
  · obtain ⟨a, ns, rfl, _⟩ := h
    rfl
  · obtain ⟨a, ns, rfl, hS, hl, q⟩ := h
    refine ⟨_, (pss_cons (ps_set (i := 1) sc_law.nd rfl (Or.inl rfl) (pe_call G__law_stream (hr.mono (by decide)) (by rfl) g__law_stream kp__law_stream b__law_stream .nil pass0 (pa_cons (pv 0) pa_nil)))
      (pss_cons (ps_set (i := 2) sc_law.nd rfl (Or.inl rfl) pe_int)
      (pss_cons (ps_if (pt_cmpR op_eq (pe_call G__law_draw (hr.mono (by decide)) (by rfl) g__law_draw kp__law_draw b__law_draw .nil pass0 (pa_cons (pv 1) (pa_cons pe_int pa_nil))) pe_int (nomark _)) (pss_one (ps_set (i := 2) sc_law.nd rfl (Or.inl rfl) pe_int)) pss_nil)
      (pss_cons (ps_set (i := 3) sc_law.nd rfl (Or.inr rfl) (pe_lst pa_nil))
      (pss_cons (ps_for PassesOwn.never rfl (pi_range1 (by rfl) E.b_range (pa_cons (pe_call G__law_draw (hr.mono (by decide)) (by rfl) g__law_draw kp__law_draw b__law_draw .nil pass0 (pa_cons (pv 1) (pa_cons pe_int pa_nil))) pa_nil)) (pg_name (i := 4) sc_law.nd rfl (Or.inl rfl)) (pss_one (ps_if (pw_and (pt_truth (pv 3) (fun _ => rfl)) (pw_and1 (pt_cmpR op_eq (pe_call G__law_draw (hr.mono (by decide)) (by rfl) g__law_draw kp__law_draw b__law_draw .nil pass0 (pa_cons (pv 1) (pa_cons pe_int pa_nil))) pe_int (nomark _)))).pt (pss_one (ps_expr (pe_bm PySem.F.plainAttrs_list PySem.F.slot_list_append PySem.F.type_list_append mt_append (pv 3) (pa_cons (pe_ix ix_list (pv 3) (pe_call G__law_draw (hr.mono (by decide)) (by rfl) g__law_draw kp__law_draw b__law_draw .nil pass0 (pa_cons (pv 1) (pa_cons (pe_callB call_len_seq (by rfl) E.b_len PySem.boot_len (pa_cons (pv 3) pa_nil)) pa_nil))) (fun _ _ => rfl)) pa_nil)))) (pss_one (ps_expr (pe_bm PySem.F.plainAttrs_list PySem.F.slot_list_append PySem.F.type_list_append mt_append (pv 3) (pa_cons (pe_call G__law_term (hr.mono (by decide)) (by rfl) g__law_term kp__law_term b__law_term .nil pass0 (pa_cons (pv 1) (pa_cons (pe_op op_add pe_int (pe_call G__law_draw (hr.mono (by decide)) (by rfl) g__law_draw kp__law_draw b__law_draw .nil pass0 (pa_cons (pv 1) (pa_cons pe_int pa_nil)))) (pa_cons (pv 2) pa_nil)))) pa_nil)))))))
      (pss_cons (ps_set (i := 5) sc_law.nd rfl (Or.inl rfl) pe_bl)
      (pss_cons (ps_for PassesOwn.never rfl (pi_list (pv 3)) (pg_name (i := 6) sc_law.nd rfl (Or.inl rfl)) (pss_one (ps_for PassesOwn.never rfl (pi_list (pv 3)) (pg_name (i := 7) sc_law.nd rfl (Or.inl rfl)) (pss_one (ps_if (pt_cmpR op_isN (pe_call G__law_order (hr.mono (by decide)) (by rfl) g__law_order kp__law_order b__law_order .nil pass0 (pa_cons (pv 6) (pa_cons (pv 7) pa_nil))) pe_non (nomark _)) (pss_one (ps_set (i := 5) sc_law.nd rfl (Or.inl rfl) pe_bl)) pss_nil)))))
      (pss_cons (ps_set (i := 8) sc_law.nd rfl (Or.inl rfl) (pe_callTy call_list_of (by rfl) E.b_list (by decide +kernel) (pa_cons (pv 3) pa_nil)))
      (pss_cons (ps_set (i := 9) sc_law.nd rfl (Or.inl rfl) (pe_call G_sort_terms (hr.mono (by decide)) (by rfl) g_sort_terms kp_sort_terms b_sort_terms v_sort_terms pass0 (pa_cons (pv 8) pa_nil)))
      (pss_cons (ps_set (i := 10) sc_law.nd rfl (Or.inl rfl) (pe_callN G_sort_terms (hr.mono (by decide)) (by rfl) g_sort_terms kp_sort_terms kb_sort_terms pass0 (pa_cons (pv 8) pa_nil) (pk_cons pe_bl pk_nil)))
      (pss_cons (ps_if (pt_cmpR (op_neD hr.units) (pv 8) (pv 3) (nomark _)) (pss_one (ps_ret pe_bl)) pss_nil)
      (pss_cons (ps_if (pt_not (pt_val (pv 5))) (pss_one (ps_ret (pe_and (pe_cmpR op_isN (pv 9) pe_non (nomark _)) (pe_one (pe_cmpR op_isN (pv 10) pe_non (nomark _)))))) pss_nil)
      (pss_cons (ps_if (pw_or (pt_not (pt_val (pe_callB call_isi (by rfl) E.b_isinstance (by decide +kernel) (pa_cons (pv 9) (pa_cons (pe_ty "list" (by rfl) E.b_list (by decide +kernel)) pa_nil))))) (pw_or (pt_not (pt_val (pe_callB call_isi (by rfl) E.b_isinstance (by decide +kernel) (pa_cons (pv 10) (pa_cons (pe_ty "list" (by rfl) E.b_list (by decide +kernel)) pa_nil))))) (pw_or1 (pt_cmpR op_ne (pe_callB call_len_seq (by rfl) E.b_len PySem.boot_len (pa_cons (pv 9) pa_nil)) (pe_callB call_len_seq (by rfl) E.b_len PySem.boot_len (pa_cons (pv 3) pa_nil)) (nomark _))))).pt (pss_one (ps_ret pe_bl)) pss_nil)
      (pss_cons (ps_for PassesOwn.never rfl (pi_list (pv 3)) (pg_name (i := 11) sc_law.nd rfl (Or.inl rfl)) (pss_one (ps_if (pw_or (pt_cmpR op_ne (pe_bm PySem.F.plainAttrs_list PySem.F.slot_list_count PySem.F.type_list_count (mt_countD hr.units) (pv 9) (pa_cons (pv 11) pa_nil)) (pe_bm PySem.F.plainAttrs_list PySem.F.slot_list_count PySem.F.type_list_count (mt_countD hr.units) (pv 3) (pa_cons (pv 11) pa_nil)) (nomark _)) (pw_or1 (pt_cmpR op_ne (pe_bm PySem.F.plainAttrs_list PySem.F.slot_list_count PySem.F.type_list_count (mt_countD hr.units) (pv 10) (pa_cons (pv 11) pa_nil)) pe_int (nomark _)))).pt (pss_one (ps_ret pe_bl)) pss_nil)))
      (pss_cons (ps_for PassesOwn.never rfl (pi_range1 (by rfl) E.b_range (pa_cons (pe_op op_sub (pe_callB call_len_seq (by rfl) E.b_len PySem.boot_len (pa_cons (pv 9) pa_nil)) pe_int) pa_nil)) (pg_name (i := 4) sc_law.nd rfl (Or.inl rfl)) (pss_one (ps_if (pt_cmpR op_eq (pe_call G__law_order (hr.mono (by decide)) (by rfl) g__law_order kp__law_order b__law_order .nil pass0 (pa_cons (pe_ix ix_list (pv 9) (pv 4) (fun _ _ => rfl)) (pa_cons (pe_ix ix_list (pv 9) (pe_op op_add (pv 4) pe_int) (fun _ _ => rfl)) pa_nil))) pe_int (nomark _)) (pss_one (ps_ret pe_bl)) pss_nil)))
      (pss_cons (ps_for PassesOwn.never rfl (pi_range1 (by rfl) E.b_range (pa_cons (pe_op op_sub (pe_callB call_len_seq (by rfl) E.b_len PySem.boot_len (pa_cons (pv 10) pa_nil)) pe_int) pa_nil)) (pg_name (i := 4) sc_law.nd rfl (Or.inl rfl)) (pss_one (ps_if (pt_cmpR op_ne (pe_call G__law_order (hr.mono (by decide)) (by rfl) g__law_order kp__law_order b__law_order .nil pass0 (pa_cons (pe_ix ix_list (pv 10) (pv 4) (fun _ _ => rfl)) (pa_cons (pe_ix ix_list (pv 10) (pe_op op_add (pv 4) pe_int) (fun _ _ => rfl)) pa_nil))) (pe_un un_neg pe_int) (nomark _)) (pss_one (ps_ret pe_bl)) pss_nil)))
      (pss_cons (ps_set (i := 12) sc_law.nd rfl (Or.inl rfl) (pe_callTy call_list_of (by rfl) E.b_list (by decide +kernel) (pa_cons (pv 9) pa_nil)))
      (pss_cons (ps_expr (pe_bm PySem.F.plainAttrs_list PySem.F.slot_list_append PySem.F.type_list_append mt_append (pv 9) (pa_cons (pe_tup (pa_cons pe_int pa_nil)) pa_nil)))
      (pss_cons (ps_expr (pe_bm PySem.F.plainAttrs_list PySem.F.slot_list_append PySem.F.type_list_append mt_append (pv 10) (pa_cons (pe_tup (pa_cons pe_int pa_nil)) pa_nil)))
      (pss_cons (ps_if (pw_or (pt_cmpR (op_neD hr.units) (pe_call G_sort_terms (hr.mono (by decide)) (by rfl) g_sort_terms kp_sort_terms b_sort_terms v_sort_terms pass0 (pa_cons (pv 8) pa_nil)) (pv 12) (nomark _)) (pw_or (pt_cmpR op_ne (pe_callB call_len_seq (by rfl) E.b_len PySem.boot_len (pa_cons (pe_callN G_sort_terms (hr.mono (by decide)) (by rfl) g_sort_terms kp_sort_terms kb_sort_terms pass0 (pa_cons (pv 8) pa_nil) (pk_cons pe_bl pk_nil)) pa_nil)) (pe_op op_sub (pe_callB call_len_seq (by rfl) E.b_len PySem.boot_len (pa_cons (pv 10) pa_nil)) pe_int) (nomark _)) (pw_or1 (pt_cmpR (op_neD hr.units) (pv 8) (pv 3) (nomark _))))).pt (pss_one (ps_ret pe_bl)) pss_nil)
      (pss_one (ps_ret (pe_callB (cr_all rfl) (by rfl) E.b_all (by decide +kernel) (pa_cons (pe_lc (own := [("row", 11)]) (g := gName 11) (tt := tYes) rfl sc_law.nd (pi_list (pe_slice sl_list (pv 10) po_none (po_some (pe_un un_neg pe_int)))) (blkOk_by (N := N_law) (sc := defScope s_law) (by decide +kernel)) (fun _ _ _ _ _ => pg_name (i := 11) sc_law.nd rfl (Or.inl rfl)) (fun _ _ _ _ _ => pts_nil) (fun _ _ _ _ _ => (pe_cmpR (show OpR _ (compareOp .In) (rInD K) from op_inD (units65 hr)) (pv 11) (pv 3) (by rfl)))) pa_nil)))))))))))))))))))))))), ?_⟩
    refine st_of (σ := [some _, none, none, none, none, none, none, none, none, none, none, none, none]) rfl ?_
    walk_at "gs"
    refine ⟨a, ns, rfl, hS, hl, fun s l H1 hs hl1 s1 St1 => ?_⟩
    walk_at "gs"
    refine nx_via (fun σ H2 => ∃ wd : Int, σ = [some (.ref a), some (.ref s), some (.int wd), none, none, none, none, none, none, none, none, none, none] ∧ 0 ≤ wd ∧ wd ≤ 3 ∧ Stm H2 s l) ?_ fun hu => ?_
    rotate_left
    · walk_at "go"
      refine drw St1 (by decide) (by decide) fun r H2 r0 r1 b2 S2 => ?_
      walk_at "go"
      refine ite2 (fun _ => ?_) (fun _ => ?_)
      · walk_at "go"
        exact hu _ _ ⟨3, rfl, by decide, by decide, S2⟩
      · walk_at "go"
        exact hu _ _ ⟨0, rfl, by decide, by decide, S2⟩
    rintro σ H2 ⟨wd, rfl, w0, w3, S2⟩
    walk_at "gs"
    refine newN rfl (by decide) fun r nr => ?_
    obtain ⟨os2, hos2⟩ := S2.at_s
    obtain ⟨ol2, hol2⟩ := S2.at_l
    have sr : s ≠ r := ne_of_none hos2 nr
    have lr : l ≠ r := ne_of_none hol2 nr
    walk_at "gs"
    refine drw (S2.put sr lr) (by decide) (by decide) fun n10 H3 n0 n1 b3 S3 => ?_
    walk_at "gs"
    refine ⟨n10, rfl, by omega, by omega, ?_⟩
    have okd : ∀ {t : List PyData}, Term wd t → t.length ≤ 100 → OkT t := fun ht hl => ⟨⟨ht.cl, fun d hd => ⟨wd, ht.nd d hd⟩⟩, hl⟩
    refine for_range (lo := 0) (n := n10.toNat) (fun i σ H' => ∃ (vk : Option V) (xs : List V) (ts : List (List PyData)), σ = [some (.ref a), some (.ref s), some (.int wd), some (.ref r), vk, none, none, none, none, none, none, none, none] ∧ H' r = some (.lst xs) ∧ ImAll K (fun b => b ≠ s ∧ b ≠ r) H' xs (rowD ts) ∧ (∀ t ∈ ts, OkT t) ∧ xs.length ≤ i ∧ Stm H' s l)
      ⟨none, [], [], rfl, b3 _ _ sr.symm upd_same, .nil, fun t ht => (nomatch ht), Nat.zero_le _, S3⟩ ?_ ?_
    · rintro i σ H4 hi ⟨vk, xs, ts, rfl, e4, i4, ok4, l4, S4⟩
      have lx : xs.length = ts.length := by rw [i4.len]; unfold rowD; rw [List.length_map]
      have new : ∀ (H5 : Hp), But s H4 H5 → Stm H5 s l → ∀ b, H5 b = Option.none → b ≠ s ∧ b ≠ r := fun H5 b5 S5 b e => by
        obtain ⟨o5, ho5⟩ := S5.at_s
        exact ⟨(fun z => by rw [z, ho5] at e; cases e), (fun z => by rw [z, b5 _ _ sr.symm e4] at e; cases e)⟩
      have put : ∀ (H5 : Hp) (v : V) (t : List PyData), But s H4 H5 → Stm H5 s l → Im K (fun b => b ≠ s ∧ b ≠ r) H5 v (.tuple t) → OkT t → ∀ z : Option V,
          ∃ (vk : Option V) (xs' : List V) (ts' : List (List PyData)), [some (V.ref a), some (.ref s), some (.int wd), some (.ref r), z, none, none, none, none, none, none, none, none] = [some (.ref a), some (.ref s), some (.int wd), some (.ref r), vk, none, none, none, none, none, none, none, none] ∧ (upd H5 r (.lst (xs ++ [v]))) r = some (.lst xs') ∧ ImAll K (fun b => b ≠ s ∧ b ≠ r) (upd H5 r (.lst (xs ++ [v]))) xs' (rowD ts') ∧ (∀ t ∈ ts', OkT t) ∧ xs'.length ≤ i + 1 ∧ Stm (upd H5 r (.lst (xs ++ [v]))) s l := by
        intro H5 v t b5 S5 iv hg z
        have k : ∀ b o, (b ≠ s ∧ b ≠ r) → H5 b = some o → (upd H5 r (.lst (xs ++ [v]))) b = some o := fun b o hb e => by rw [upd_ne hb.2]; exact e
        refine ⟨z, xs ++ [v], ts ++ [t], rfl, upd_same, ?_, fun t' ht' => ?_, by rw [List.length_append]; exact Nat.succ_le_succ l4, S5.put sr lr⟩
        · unfold rowD
          rw [List.map_append]
          exact ImAll.snoc (Im.monoAll (fun b o g x => k b o g (b5 b o g.1 x)) (fun _ g => g) _ _ i4) (Im.mono k (fun _ g => g) _ _ iv)
        · rcases List.mem_append.mp ht' with z | z
          · exact ok4 _ z
          · rw [List.mem_singleton.mp z]; exact hg
      walk_at "gs"
      refine ifs_via (fun H5 => But s H4 H5 ∧ Stm H5 s l) ?_ fun hu => ?_
      rotate_left
      · walk_at "go"
        refine ⟨_, .inl ⟨xs, SqL.of e4, rfl⟩, ?_⟩
        refine ite2 (fun ne => ?_) (fun _ => ?_)
        · walk_at "go"
          refine drw S4 (by decide) (by decide) fun r1 H5 _ _ b5 S5 => ?_
          walk_at "go"
          refine ite2 (fun _ => ?_) (fun _ => ?_)
          · have ne' : 0 < xs.length := by
              cases xs with
              | nil => cases ne
              | cons x xs => exact Nat.succ_pos _
            walk_at "go"
            refine tyl (SqL.of (b5 _ _ sr.symm e4)) ?_
            walk_at "go"
            refine ⟨_, _, rfl, .inl (SqL.of (b5 _ _ sr.symm e4)), ?_⟩
            walk_at "go"
            refine drw S5 (by omega) (by omega) fun j H6 j0 j1 b6 S6 => ?_
            have b46 := b5.trans b6
            have hjl : j.toNat < xs.length := by omega
            have hj : xs[j.toNat]? = some xs[j.toNat] := List.getElem?_eq_getElem hjl
            generalize xs[j.toNat] = y at hj
            obtain ⟨d, hd, iy⟩ := ImAll.getV i4 hj
            unfold rowD at hd
            rw [List.getElem?_map] at hd
            obtain ⟨t, hts, rfl⟩ : ∃ t, ts[j.toNat]? = some t ∧ PyData.tuple t = d := by
              cases hr : ts[j.toNat]? with
              | none => rw [hr] at hd; cases hd
              | some t => rw [hr] at hd; exact ⟨t, rfl, Option.some.inj hd⟩
            rw [show j = ((j.toNat : Nat) : Int) by omega]
            refine ixL (SqL.of (b46 _ _ sr.symm e4)) hj ?_
            walk_at "go"
            refine rap (b46 _ _ sr.symm e4) (by omega) ?_
            walk_at "go"
            exact put H6 y t b46 S6 (Im.mono (fun b o g e => b46 b o g.1 e) (fun _ g => g) _ _ iy) (ok4 t (List.mem_of_getElem? hts)) _
          · exact hu _ ⟨b5, S5⟩
        · exact hu _ ⟨But.refl s H4, S4⟩
      rintro H5 ⟨b5, S5⟩
      walk_at "go"
      refine tyl (SqL.of (b5 _ _ sr.symm e4)) ?_
      walk_at "go"
      refine drw S5 (by decide) (by decide) fun n5 H6 n50 n51 b6 S6 => ?_
      walk_at "go"
      refine ⟨s, l, 1 + n5, wd, rfl, S6, by omega, by omega, w0, by omega, fun v t H7 ht hlen b7 S7 iv => ?_⟩
      have bb := (b5.trans b6).trans b7
      walk_at "go"
      refine rap (bb _ _ sr.symm e4) (by omega) ?_
      walk_at "go"
      exact put H7 v t bb S7 (Im.mono (fun _ _ _ e => e) (new _ (b5.trans b6) S6) _ _ iv) (okd ht (by omega)) _
    rintro σ H4 ⟨vk, xs, ts, rfl, e4, i4, ok4, l4, S4⟩
    have lx : xs.length = ts.length := by rw [i4.len]; unfold rowD; rw [List.length_map]
    have lt : ts.length ≤ 100 := by omega
    have rw4 : Rw K H4 xs ts := Rw.of (Im.dpAll _ _ i4)
    clear i4 S4 St1
    have nds : ∀ t ∈ ts, ∀ d ∈ t, NdA d := fun t ht => (ok4 t ht).1.2
    have tms : ∀ t ∈ ts, Tm 1 t := fun t ht => (ok4 t ht).1
    walk_at "gs"
    have sl : ∀ {H' : Hp}, Same H4 H' → SqL K H' r xs := fun e => SqL.of (e _ _ e4)
    refine ⟨r, rfl, ⟨_, SqL.of e4⟩, for_list (K := K) (a := r) (xs := xs) (fun i σ H' => ∃ (d : Bool) (v6 v7 : Option V), σ = [some (.ref a), some (.ref s), some (.int wd), some (.ref r), vk, some (.bl d), v6, v7, none, none, none, none, none] ∧ Same H4 H' ∧ (d = true ↔ ∀ x ∈ ts.take i, ∀ y ∈ ts, cmpM x y ≠ none))
      ⟨true, none, none, rfl, Same.refl H4, ⟨fun _ x hx => (nomatch hx), fun _ => rfl⟩⟩ (fun i σ H' _ ⟨_, _, _, _, e, _⟩ => sl e) ?_ ?_⟩
    · rintro i x σ H5 hx ⟨d, v6, v7, rfl, s5, hd⟩
      obtain ⟨t, ht, dx⟩ := Rw.at rw4 hx
      have okt := ok4 t (List.mem_of_getElem? ht)
      walk_at "gs"
      refine ⟨r, rfl, ⟨_, sl s5⟩, for_list (K := K) (a := r) (xs := xs) (fun j σ H' => ∃ (d : Bool) (v7 : Option V), σ = [some (.ref a), some (.ref s), some (.int wd), some (.ref r), vk, some (.bl d), some x, v7, none, none, none, none, none] ∧ Same H4 H' ∧ (d = true ↔ (∀ x ∈ ts.take i, ∀ y ∈ ts, cmpM x y ≠ none) ∧ ∀ y ∈ ts.take j, cmpM t y ≠ none))
        ⟨d, v7, rfl, s5, hd.trans ⟨fun z => ⟨z, fun y hy => by rw [List.take_zero] at hy; cases hy⟩, fun z => z.1⟩⟩ (fun j σ H' _ ⟨_, _, _, e, _⟩ => sl e) ?_ ?_⟩
      · rintro j y σ H6 hy ⟨d6, v7, rfl, s6, hd6⟩
        obtain ⟨w, hw, dy⟩ := Rw.at rw4 hy
        have okw := ok4 w (List.mem_of_getElem? hw)
        walk_at "go"
        refine ⟨x, y, t, w, rfl, dp_same s6 _ _ dx, dp_same s6 _ _ dy, okt.1.2, okw.1.2, by have := okt.2; omega, by have := okw.2; omega, fun H7 s7 => ?_⟩
        walk_at "go"
        have tk : ts.take (j + 1) = ts.take j ++ [w] := by rw [List.take_add_one, hw]; rfl
        cases hc : cmpM t w with
        | none =>
          refine ⟨rfl, ?_⟩
          rw [decide_eq_true (show resV Option.none = V.non from rfl)]
          walk_at "go"
          refine ⟨false, _, rfl, s6.trans s7, ⟨fun z => (nomatch z), fun z => absurd hc (z.2 w ?_)⟩⟩
          rw [tk]
          exact List.mem_append_right _ (.head _)
        | some o =>
          refine ⟨rfl, ?_⟩
          rw [decide_eq_false (show ¬ resV (some o) = V.non from fun z => nomatch z)]
          walk_at "go"
          refine ⟨d6, _, rfl, s6.trans s7, ⟨fun z => ⟨(hd6.mp z).1, fun y hy => ?_⟩, fun z => hd6.mpr ⟨z.1, fun y hy => z.2 y (by rw [tk]; exact List.mem_append_left _ hy)⟩⟩⟩
          rw [tk] at hy
          rcases List.mem_append.mp hy with hy | hy
          · exact (hd6.mp z).2 y hy
          · rw [List.mem_singleton.mp hy, hc]
            exact fun z => nomatch z
      · rintro σ H6 ⟨d6, v7, rfl, s6, hd6⟩
        walk_at "go"
        refine ⟨d6, _, _, rfl, s6, ?_⟩
        have tk : ts.take (i + 1) = ts.take i ++ [t] := by rw [List.take_add_one, ht]; rfl
        rw [List.take_of_length_le (l := ts) (i := xs.length) (by omega)] at hd6
        rw [hd6, tk]
        refine ⟨fun z x hx y hy => ?_, fun z => ⟨fun x hx y hy => z x (List.mem_append_left _ hx) y hy, fun y hy => z t (List.mem_append_right _ (.head _)) y hy⟩⟩
        rcases List.mem_append.mp hx with hx | hx
        · exact z.1 x hx y hy
        · rw [List.mem_singleton.mp hx]
          exact z.2 y hy
    rintro σ H5 ⟨d, v6, v7, rfl, s5, hd⟩
    rw [List.take_of_length_le (l := ts) (i := xs.length) (by omega)] at hd
    have hd : d = true ↔ Dec ts := hd
    walk_at "gs"
    refine ⟨_, _, rfl, .inl (sl s5), fun g ng => ?_⟩
    walk_at "gs"
    have e5 : H5 r = some (.lst xs) := s5 _ _ e4
    have s6 : Same H4 (upd H5 g (.lst xs)) := s5.trans (same_upd ng)
    generalize hH6 : upd H5 g (.lst xs) = H6 at s6
    have g6 : H6 g = some (.lst xs) := by rw [← hH6]; exact upd_same
    have r6 : H6 r = some (.lst xs) := s6 _ _ e4
    have given : ∀ {H' : Hp}, Same H6 H' → Dp K H' (.ref g) (.list (rowD ts)) ∧ Dp K H' (.ref r) (.list (rowD ts)) := fun {H'} e => by
      have q1 := Rw.dp (Rw.same (s6.trans e) rw4)
      exact ⟨.lst (SqL.of (e _ _ g6)) q1, .lst (SqL.of (e _ _ r6)) q1⟩
    have rsh := rows_shaped nds
    have req : PyData.eqv (.list (rowD ts)) (.list (rowD ts)) = true := by rw [rows_eqv nds nds]; simp
    by_cases D : Dec ts
    · have hd1 : d = true := hd.mpr D
      subst hd1
      obtain ⟨ks, hks, knd, kmem, kadj, klen⟩ := dec_one tms D
      have okk : ∀ t ∈ ks, OkT t := fun t ht => ok4 t ((kmem t).mp ht)
      have oks : ∀ t ∈ srt ts, OkT t := fun t ht => ok4 t (srt_mem.mp ht)
      have ndk : ∀ t ∈ ks, ∀ d ∈ t, NdA d := fun t ht => (okk t ht).1.2
      have ndl : ∀ t ∈ srt ts, ∀ d ∈ t, NdA d := fun t ht => (oks t ht).1.2
      have d0 := dec_all D
      refine ⟨g, xs, ts, false, rfl, SqL.of g6, Rw.same s6 rw4, ok4, lt, fun e => absurd (e.symm.trans d0) (fun z => nomatch z), fun l0 el H7 p ys s7 np ep rp => ?_⟩
      obtain rfl : l0 = srt ts := Option.some.inj (el.symm.trans d0)
      walk_at "gs"
      refine ⟨rfl, rfl, g, xs, ts, true, rfl, SqL.of (s7 _ _ g6), Rw.same (s6.trans s7) rw4, ok4, lt, fun e => absurd (e.symm.trans hks) (fun z => nomatch z), fun k0 el H8 w0' zs s8 nw ew rk => ?_⟩
      obtain rfl : k0 = ks := Option.some.inj (el.symm.trans hks)
      have s68 := s7.trans s8
      have p8 : H8 p = some (.lst ys) := s8 _ _ ep
      have ly : ys.length = xs.length := by rw [rp.length, srt_len, lx]
      have lz : zs.length = k0.length := rk.length
      walk_at "go"
      obtain ⟨q1, q2⟩ := given s68
      refine ⟨_, _, q1, q2, rsh, rsh, ?_⟩
      rw [req]
      walk_at "go"
      refine isi_list (.lst (SqL.of p8) (Rw.dp (Rw.same s8 rp))) ?_
      rw [show isL (.list (rowD (srt ts))) = true from rfl]
      walk_at "go"
      refine isi_list (.lst (SqL.of ew) (Rw.dp rk)) ?_
      rw [show isL (.list (rowD k0)) = true from rfl]
      walk_at "go"
      refine ⟨_, _, rfl, .inl (SqL.of p8), ?_⟩
      walk_at "go"
      refine ⟨_, _, rfl, .inl (SqL.of (s68 _ _ r6)), ?_⟩
      walk_at "go"
      rw [decide_eq_true (show ((ys.length : Nat) : Int) = (xs.length : Nat) by rw [ly])]
      walk_at "go"
      have s48 := s6.trans s68
      refine ⟨r, rfl, ⟨_, SqL.of (s68 _ _ r6)⟩, for_list (K := K) (a := r) (xs := xs) (fun i σ H' => ∃ (v11 : Option V), σ = [some (.ref a), some (.ref s), some (.int wd), some (.ref r), vk, some (.bl true), v6, v7, some (.ref g), some (.ref p), some (.ref w0'), v11, none] ∧ H' = H8)
        ⟨none, rfl, rfl⟩ (fun i σ H' _ ⟨_, _, e⟩ => by rw [e]; exact SqL.of (s68 _ _ r6)) ?_ ?_⟩
      · rintro i x σ H9 hx ⟨v11, rfl, rfl⟩
        obtain ⟨t, ht, dx0⟩ := Rw.at rw4 hx
        have okt := ok4 t (List.mem_of_getElem? ht)
        have dx := dp_same s48 _ _ dx0
        have tpl : (PyData.tuple t).plain = true := by
          have := PyData.plain_of_canLay0 _ (SeqAt.canLay_of_shaped (tup_shaped okt.1.2))
          exact this
        have tdp : (PyData.tuple t).depth ≤ 32 := by
          have := (nds_lay okt.1.2).2.1
          simp only [PyData.depth]
          omega
        walk_at "go"
        refine tyl (SqL.of p8) ?_
        walk_at "go"
        refine ⟨p, x, .tuple t, rowD (srt ts), rfl, rfl, .lst (SqL.of p8) (Rw.dp (Rw.same s8 rp)), dx, rows_plain ndl, tpl, tdp, ?_⟩
        walk_at "go"
        refine tyl (SqL.of (s68 _ _ r6)) ?_
        walk_at "go"
        refine ⟨r, x, .tuple t, rowD ts, rfl, rfl, q2, dx, rows_plain nds, tpl, tdp, ?_⟩
        walk_at "go"
        rw [count_same t nds okt.1.2, decide_eq_true rfl]
        walk_at "go"
        refine tyl (SqL.of ew) ?_
        walk_at "go"
        refine ⟨w0', x, .tuple t, rowD k0, rfl, rfl, .lst (SqL.of ew) (Rw.dp rk), dx, rows_plain ndk, tpl, tdp, ?_⟩
        walk_at "go"
        rw [row_count ndk okt.1.2, count_one knd ((kmem t).mpr (List.mem_of_getElem? ht)), decide_eq_true (show ((1 : Nat) : Int) = 1 from rfl)]
        walk_at "go"
        exact ⟨_, rfl, rfl⟩
      rintro σ H9 ⟨v11, rfl, rfl⟩
      walk_at "go"
      refine ⟨_, _, rfl, .inl (SqL.of p8), ?_⟩
      walk_at "go"
      have rp9 := Rw.same s8 rp
      refine ⟨_, rfl, by omega, by omega, ?_⟩
      rw [show (((ys.length : Nat) : Int) - 1).toNat = ys.length - 1 by omega]
      refine for_range (lo := 0) (n := ys.length - 1) (fun i σ H' => ∃ (v4 : Option V), σ = [some (.ref a), some (.ref s), some (.int wd), some (.ref r), v4, some (.bl true), v6, v7, some (.ref g), some (.ref p), some (.ref w0'), v11, none] ∧ Same H9 H')
        ⟨_, rfl, Same.refl _⟩ ?_ ?_
      · rintro i σ H10 hi ⟨v4, rfl, s10⟩
        rw [show (0 : Int) + (i : Int) = ((i : Nat) : Int) from Int.zero_add _]
        obtain ⟨x, hx⟩ : ∃ x, ys[i]? = some x := ⟨_, List.getElem?_eq_getElem (by omega)⟩
        obtain ⟨y, hy⟩ : ∃ y, ys[i + 1]? = some y := ⟨_, List.getElem?_eq_getElem (by omega)⟩
        obtain ⟨t, ht, dx⟩ := Rw.at rp9 hx
        obtain ⟨w, hw, dy⟩ := Rw.at rp9 hy
        have okt := oks t (List.mem_of_getElem? ht)
        have okw := oks w (List.mem_of_getElem? hw)
        walk_at "go"
        refine ixL (SqL.of (s10 _ _ p8)) hx ?_
        walk_at "go"
        rw [show (i : Int) + 1 = ((i + 1 : Nat) : Int) from rfl]
        refine ixL (SqL.of (s10 _ _ p8)) hy ?_
        walk_at "go"
        refine ⟨x, y, t, w, rfl, dp_same s10 _ _ dx, dp_same s10 _ _ dy, okt.1.2, okw.1.2, by have := okt.2; omega, by have := okw.2; omega, fun H11 s11 => ?_⟩
        have na := adj_up tms ht hw
        cases hc : cmpM t w with
        | none => exact absurd hc (D t (srt_mem.mp (List.mem_of_getElem? ht)) w (srt_mem.mp (List.mem_of_getElem? hw)))
        | some o =>
          rw [show resV (some o) = V.int o from rfl]
          walk_at "go"
          rw [decide_eq_false (show ¬ o = 1 from fun z => na (by rw [hc, z]))]
          walk_at "go"
          exact ⟨_, rfl, s10.trans s11⟩
      rintro σ H10 ⟨v4, rfl, s10⟩
      walk_at "go"
      refine ⟨_, _, rfl, .inl (SqL.of (s10 _ _ ew)), ?_⟩
      walk_at "go"
      refine ⟨_, rfl, by omega, by omega, ?_⟩
      rw [show (((zs.length : Nat) : Int) - 1).toNat = zs.length - 1 by omega]
      refine for_range (lo := 0) (n := zs.length - 1) (fun i σ H' => ∃ (v4 : Option V), σ = [some (.ref a), some (.ref s), some (.int wd), some (.ref r), v4, some (.bl true), v6, v7, some (.ref g), some (.ref p), some (.ref w0'), v11, none] ∧ Same H9 H')
        ⟨_, rfl, s10⟩ ?_ ?_
      · rintro i σ H11 hi ⟨v4, rfl, s11⟩
        rw [show (0 : Int) + (i : Int) = ((i : Nat) : Int) from Int.zero_add _]
        obtain ⟨x, hx⟩ : ∃ x, zs[i]? = some x := ⟨_, List.getElem?_eq_getElem (by omega)⟩
        obtain ⟨y, hy⟩ : ∃ y, zs[i + 1]? = some y := ⟨_, List.getElem?_eq_getElem (by omega)⟩
        obtain ⟨t, ht, dx⟩ := Rw.at rk hx
        obtain ⟨w, hw, dy⟩ := Rw.at rk hy
        have okt := okk t (List.mem_of_getElem? ht)
        have okw := okk w (List.mem_of_getElem? hw)
        walk_at "go"
        refine ixL (SqL.of (s11 _ _ ew)) hx ?_
        walk_at "go"
        rw [show (i : Int) + 1 = ((i + 1 : Nat) : Int) from rfl]
        refine ixL (SqL.of (s11 _ _ ew)) hy ?_
        walk_at "go"
        refine ⟨x, y, t, w, rfl, dp_same s11 _ _ dx, dp_same s11 _ _ dy, okt.1.2, okw.1.2, by have := okt.2; omega, by have := okw.2; omega, fun H12 s12 => ?_⟩
        rw [kadj i t w ht hw, show resV (some (-1)) = V.int (-1) from rfl]
        walk_at "go"
        rw [decide_eq_true (show (-1 : Int) = -1 from rfl)]
        walk_at "go"
        exact ⟨_, rfl, s11.trans s12⟩
      rintro σ H11 ⟨v4', rfl, s11⟩
      walk_at "go"
      have p11 := s11 _ _ p8
      have w11 := s11 _ _ ew
      have r11 := s11 _ _ (s68 _ _ r6)
      have g11 := s11 _ _ (s68 _ _ g6)
      have npw : p ≠ w0' := fun z => by rw [← z, ep] at nw; cases nw
      have npr : p ≠ r := fun z => by rw [z, r6] at np; cases np
      have npg : p ≠ g := fun z => by rw [z, g6] at np; cases np
      have nwr : w0' ≠ r := fun z => by rw [z, s7 _ _ r6] at nw; cases nw
      have nwg : w0' ≠ g := fun z => by rw [z, s7 _ _ g6] at nw; cases nw
      refine ⟨p, ys, rfl, .inl (SqL.of p11), fun h nh => ?_⟩
      have hp : p ≠ h := ne_of_none p11 nh
      have hw' : w0' ≠ h := ne_of_none w11 nh
      have hr' : r ≠ h := ne_of_none r11 nh
      have hg : g ≠ h := ne_of_none g11 nh
      walk_at "go"
      have p12 : (upd H11 h (.lst ys)) p = some (.lst ys) := by rw [upd_ne hp]; exact p11
      refine tyl (SqL.of p12) ?_
      walk_at "go"
      refine newN rfl (by decide) fun t0 nt0 => ?_
      have p13 : (upd (upd H11 h (.lst ys)) t0 (.tup [.int 0])) p = some (.lst ys) := by rw [upd_ne (ne_of_none p12 nt0)]; exact p12
      walk_at "go"
      refine rap p13 (by omega) ?_
      walk_at "go"
      have w13 : (upd (upd H11 h (.lst ys)) t0 (.tup [.int 0])) w0' = some (.lst zs) := same_upd nt0 _ _ (by rw [upd_ne hw']; exact w11)
      have g13 : (upd (upd H11 h (.lst ys)) t0 (.tup [.int 0])) g = some (.lst xs) := same_upd nt0 _ _ (by rw [upd_ne hg]; exact g11)
      have r13 : (upd (upd H11 h (.lst ys)) t0 (.tup [.int 0])) r = some (.lst xs) := same_upd nt0 _ _ (by rw [upd_ne hr']; exact r11)
      have h13 : (upd (upd H11 h (.lst ys)) t0 (.tup [.int 0])) h = some (.lst ys) := same_upd nt0 _ _ upd_same
      have s13 : Same H4 (upd (upd H11 h (.lst ys)) t0 (.tup [.int 0])) := (s48.trans s11).trans ((same_upd nh).trans (same_upd nt0))
      have rp13 : Rw K (upd (upd H11 h (.lst ys)) t0 (.tup [.int 0])) ys (srt ts) := Rw.same ((same_upd nh).trans (same_upd nt0)) (Rw.same s11 rp9)
      have rk13 : Rw K (upd (upd H11 h (.lst ys)) t0 (.tup [.int 0])) zs k0 := Rw.same ((same_upd nh).trans (same_upd nt0)) (Rw.same s11 rk)
      have rx13 := Rw.same s13 rw4
      generalize (upd (upd H11 h (.lst ys)) t0 (.tup [.int 0])) = H13 at p13 w13 g13 r13 h13 rp13 rk13 rx13
      have bl := ButL.put (o := .lst (ys ++ [.ref t0])) p13
      have w14 : (upd H13 p (.lst (ys ++ [.ref t0]))) w0' = some (.lst zs) := by rw [upd_ne npw.symm]; exact w13
      have g14 : (upd H13 p (.lst (ys ++ [.ref t0]))) g = some (.lst xs) := by rw [upd_ne npg.symm]; exact g13
      have r14 : (upd H13 p (.lst (ys ++ [.ref t0]))) r = some (.lst xs) := by rw [upd_ne npr.symm]; exact r13
      have h14 : (upd H13 p (.lst (ys ++ [.ref t0]))) h = some (.lst ys) := by rw [upd_ne hp.symm]; exact h13
      have rp14 := Rw.noL bl ndl rp13
      have rk14 := Rw.noL bl ndk rk13
      have rx14 := Rw.noL bl nds rx13
      generalize (upd H13 p (.lst (ys ++ [.ref t0]))) = H14 at w14 g14 r14 h14 rp14 rk14 rx14
      refine tyl (SqL.of w14) ?_
      walk_at "go"
      refine newN rfl (by decide) fun t1 nt1 => ?_
      walk_at "go"
      have st := same_upd (o := .tup [.int 0]) nt1
      have w15 := st _ _ w14
      refine rap w15 (by omega) ?_
      have bl2 := ButL.put (o := .lst (zs ++ [.ref t1])) w15
      have g16 := bl2.keep _ _ nwg.symm (st _ _ g14)
      have r16 := bl2.keep _ _ nwr.symm (st _ _ r14)
      have h16 := bl2.keep _ _ hw'.symm (st _ _ h14)
      have rp16 := Rw.noL bl2 ndl (Rw.same st rp14)
      have rk16 := Rw.noL bl2 ndk (Rw.same st rk14)
      have rx16 := Rw.noL bl2 nds (Rw.same st rx14)
      have w16 : (upd (upd H14 t1 (.tup [.int 0])) w0' (.lst (zs ++ [.ref t1]))) w0' = some (.lst (zs ++ [.ref t1])) := upd_same
      generalize (upd (upd H14 t1 (.tup [.int 0])) w0' (.lst (zs ++ [.ref t1]))) = H16 at g16 r16 h16 rp16 rk16 rx16 w16
      walk_at "go"
      refine ⟨g, xs, ts, false, rfl, SqL.of g16, rx16, ok4, lt, fun e => absurd (e.symm.trans d0) (fun z => nomatch z), fun l1 el1 H17 p2 ys2 s17 np2 ep2 rp2 => ?_⟩
      obtain rfl : l1 = srt ts := Option.some.inj (el1.symm.trans d0)
      walk_at "go"
      refine ⟨.list (rowD (srt ts)), .list (rowD (srt ts)), .lst (SqL.of ep2) (Rw.dp rp2), .lst (SqL.of (s17 _ _ h16)) (Rw.dp (Rw.same s17 rp16)), rows_shaped ndl, rows_shaped ndl, ?_⟩
      rw [show PyData.eqv (.list (rowD (srt ts))) (.list (rowD (srt ts))) = true by rw [rows_eqv ndl ndl]; simp]
      walk_at "go"
      refine ⟨rfl, rfl, g, xs, ts, true, rfl, SqL.of (s17 _ _ g16), Rw.same s17 rx16, ok4, lt, fun e => absurd (e.symm.trans hks) (fun z => nomatch z), fun k2 el2 H18 p3 zs2 s18 np3 ep3 rk3 => ?_⟩
      obtain rfl : k2 = k0 := Option.some.inj (el2.symm.trans hks)
      have s1618 := s17.trans s18
      walk_at "go"
      refine ⟨_, _, rfl, .inl (SqL.of ep3), ?_⟩
      walk_at "go"
      refine ⟨_, _, rfl, .inl (SqL.of (s1618 _ _ w16)), ?_⟩
      walk_at "go"
      rw [decide_eq_true (show ((zs2.length : Nat) : Int) = (((zs ++ [V.ref t1]).length : Nat) : Int) - 1 by rw [rk3.length, List.length_append, lz]; show _ = ((k2.length + 1 : Nat) : Int) - 1; omega)]
      walk_at "go"
      refine ⟨.list (rowD ts), .list (rowD ts), .lst (SqL.of (s1618 _ _ g16)) (Rw.dp (Rw.same s1618 rx16)), .lst (SqL.of (s1618 _ _ r16)) (Rw.dp (Rw.same s1618 rx16)), rsh, rsh, ?_⟩
      rw [req]
      walk_at "go"
      refine slL (SqL.of (s1618 _ _ w16)) fun c nc => ?_
      rw [cutV_last, List.dropLast_concat] at *
      refine ⟨c, rfl, ⟨_, SqL.of upd_same⟩, fun F nF => ?_⟩
      have cF : c ≠ F := ne_of_none upd_same nF
      refine lc_list (K := K) (a := c) (xs := zs) (fun i H' => ∃ bs : List Bool, Same (upd H18 c (.lst zs)) H' ∧ H' F = some (.lst (bs.map V.bl)) ∧ bs = List.replicate i true) ⟨[], same_upd nF, upd_same, rfl⟩ (fun i H' _ ⟨_, e, _⟩ => SqL.of (e _ _ upd_same)) ?_ ?_
      · rintro i x H19 hx ⟨bs, s19, eF, rfl⟩
        obtain ⟨t, ht, dx⟩ := Rw.at (Rw.same (s1618.trans (same_upd nc)) rk16) hx
        have mt : t ∈ ts := (kmem t).mp (List.mem_of_getElem? ht)
        have hi := (List.getElem?_eq_some_iff.mp hx).1
        refine gname ⟨rfl, ?_⟩
        walk_at "go"
        refine ⟨.tuple t, rowD ts, dp_same s19 _ _ dx, .lst (SqL.of (s19 _ _ (same_upd nc _ _ (s1618 _ _ r16)))) (Rw.dp (Rw.same ((s1618.trans (same_upd nc)).trans s19) rx16)), tup_shaped (nds t mt), rsh, ?_⟩
        rw [row_in nds mt]
        refine ⟨_, eF, Nat.lt_of_le_of_lt (show _ ≤ 100000 by rw [List.length_map, List.length_replicate]; omega) (by decide), List.replicate (i + 1) true, fun b o e => by rw [upd_ne (ne_of_none e nF)]; exact s19 _ _ e, ?_, rfl⟩
        rw [upd_same, List.replicate_succ', List.map_append]
        rfl
      · rintro H19 ⟨bs, s19, eF, rfl⟩
        walk_at "go"
        refine ⟨F, _, rfl, SqL.of eF, ?_⟩
        rw [show (List.replicate zs.length true).all id = true from List.all_eq_true.mpr fun b hb => List.eq_of_mem_replicate hb]
        exact q H19
    · have hd0 : d = false := by
        cases d with
        | false => rfl
        | true => exact absurd (hd.mp rfl) D
      subst hd0
      refine ⟨g, xs, ts, false, rfl, SqL.of g6, Rw.same s6 rw4, ok4, lt, fun _ H7 s7 => ?_, fun ks e => absurd (e.symm.trans (und_all tms D)) (fun z => nomatch z)⟩
      walk_at "gs"
      refine ⟨rfl, rfl, g, xs, ts, true, rfl, SqL.of (s7 _ _ g6), Rw.same (s6.trans s7) rw4, ok4, lt, fun _ H8 s8 => ?_, fun ks e => absurd (e.symm.trans (und_all tms D)) (fun z => nomatch z)⟩
      walk_at "go"
      obtain ⟨q1, q2⟩ := given (s7.trans s8)
      refine ⟨_, _, q1, q2, rsh, rsh, ?_⟩
      rw [req]
      walk_at "go"
      refine ⟨rfl, ?_⟩
      rw [decide_eq_true (rfl : V.non = V.non)]
      walk_at "go"
      refine ⟨rfl, ?_⟩
      rw [decide_eq_true (rfl : V.non = V.non)]
      exact q H8

end
/-! ### the end -/
theorem all_mk {l : PySem.W.OpenLaw} {w : World} {K : PySem.W.Frag} {h : Heap} {mg : Str → Option Value} {fa f1 f2 f3 f4 f5 f6 f7 f8 f9 f10 f11 f12 f13 f14 : Addr} (X : K.In h) (G : h.Ns mainGlobals mg) (hfa : mg "law" = some (.ref fa))
    {od1 an1 od2 an2 od3 an3 od4 an4 od5 an5 od6 an6 od7 an7 od8 an8 od9 an9 od10 an10 od11 an11 od12 an12 od13 an13 od14 an14 : Option Addr} {sl1 sl2 sl3 sl4 sl5 sl6 sl7 sl8 sl9 sl10 sl11 sl12 sl13 sl14 : Array (Option Value)} {oc1 kV1 dc1 pm1 cd1 ct1 oc2 kV2 dc2 pm2 cd2 ct2 oc3 kV3 dc3 pm3 cd3 ct3 oc4 kV4 dc4 pm4 cd4 ct4 oc5 kV5 dc5 pm5 cd5 ct5 oc6 dc6 pm6 cd6 ct6 oc7 kV7 dc7 pm7 cd7 ct7 oc8 kV8 dc8 pm8 cd8 ct8 oc9 kV9 dc9 pm9 cd9 ct9 oc10 kV10 dc10 pm10 cd10 ct10 oc11 kV11 dc11 pm11 cd11 ct11 oc12 kV12 dc12 pm12 cd12 ct12 oc13 kV13 dc13 pm13 cd13 ct13 oc14 kV14 dc14 pm14 cd14 ct14 : Value}
 {D6o : Addr}
    (a1 : PySem.W.nsIn K mainGlobals "is_variable" = some (some (.ref f1))) (l1 : K.lookup f1 = some ⟨oc1, od1, .func (PySem.W.fnOf "is_variable" "is_variable" (defArgs s_is_variable) (defBody s_is_variable) (defScope s_is_variable) .none kV1 dc1 pm1 an1 cd1 ct1), sl1⟩) (c1 : PySem.W.codeIn K cd1 "is_variable" = true) (k1 : PySem.W.keepIn K (.ref f1) = true)
    (a2 : PySem.W.nsIn K mainGlobals "is_symbol" = some (some (.ref f2))) (l2 : K.lookup f2 = some ⟨oc2, od2, .func (PySem.W.fnOf "is_symbol" "is_symbol" (defArgs s_is_symbol) (defBody s_is_symbol) (defScope s_is_symbol) .none kV2 dc2 pm2 an2 cd2 ct2), sl2⟩) (c2 : PySem.W.codeIn K cd2 "is_symbol" = true) (k2 : PySem.W.keepIn K (.ref f2) = true)
    (a3 : PySem.W.nsIn K mainGlobals "node_key" = some (some (.ref f3))) (l3 : K.lookup f3 = some ⟨oc3, od3, .func (PySem.W.fnOf "node_key" "node_key" (defArgs s_node_key) (defBody s_node_key) (defScope s_node_key) .none kV3 dc3 pm3 an3 cd3 ct3), sl3⟩) (c3 : PySem.W.codeIn K cd3 "node_key" = true) (k3 : PySem.W.keepIn K (.ref f3) = true)
    (a4 : PySem.W.nsIn K mainGlobals "term_key" = some (some (.ref f4))) (l4 : K.lookup f4 = some ⟨oc4, od4, .func (PySem.W.fnOf "term_key" "term_key" (defArgs s_term_key) (defBody s_term_key) (defScope s_term_key) .none kV4 dc4 pm4 an4 cd4 ct4), sl4⟩) (c4 : PySem.W.codeIn K cd4 "term_key" = true) (k4 : PySem.W.keepIn K (.ref f4) = true)
    (a5 : PySem.W.nsIn K mainGlobals "compare" = some (some (.ref f5))) (l5 : K.lookup f5 = some ⟨oc5, od5, .func (PySem.W.fnOf "compare" "compare" (defArgs s_compare) (defBody s_compare) (defScope s_compare) .none kV5 dc5 pm5 an5 cd5 ct5), sl5⟩) (c5 : PySem.W.codeIn K cd5 "compare" = true) (k5 : PySem.W.keepIn K (.ref f5) = true)
    (a6 : PySem.W.nsIn K mainGlobals "sort_terms" = some (some (.ref f6))) (l6 : K.lookup f6 = some ⟨oc6, od6, .func (PySem.W.fnOf "sort_terms" "sort_terms" (defArgs s_sort_terms) (defBody s_sort_terms) (defScope s_sort_terms) .none (.ref D6o) dc6 pm6 an6 cd6 ct6), sl6⟩) (c6 : PySem.W.codeIn K cd6 "sort_terms" = true) (k6 : PySem.W.keepIn K (.ref f6) = true)
    (n6_unique : PySem.W.nsIn K D6o "unique" = some (some (.bool false)))
    (a7 : PySem.W.nsIn K mainGlobals "_law_stream" = some (some (.ref f7))) (l7 : K.lookup f7 = some ⟨oc7, od7, .func (PySem.W.fnOf "_law_stream" "_law_stream" (defArgs s__law_stream) (defBody s__law_stream) (defScope s__law_stream) .none kV7 dc7 pm7 an7 cd7 ct7), sl7⟩) (c7 : PySem.W.codeIn K cd7 "_law_stream" = true) (k7 : PySem.W.keepIn K (.ref f7) = true)
    (a8 : PySem.W.nsIn K mainGlobals "_law_draw" = some (some (.ref f8))) (l8 : K.lookup f8 = some ⟨oc8, od8, .func (PySem.W.fnOf "_law_draw" "_law_draw" (defArgs s__law_draw) (defBody s__law_draw) (defScope s__law_draw) .none kV8 dc8 pm8 an8 cd8 ct8), sl8⟩) (c8 : PySem.W.codeIn K cd8 "_law_draw" = true) (k8 : PySem.W.keepIn K (.ref f8) = true)
    (a9 : PySem.W.nsIn K mainGlobals "_law_name" = some (some (.ref f9))) (l9 : K.lookup f9 = some ⟨oc9, od9, .func (PySem.W.fnOf "_law_name" "_law_name" (defArgs s__law_name) (defBody s__law_name) (defScope s__law_name) .none kV9 dc9 pm9 an9 cd9 ct9), sl9⟩) (c9 : PySem.W.codeIn K cd9 "_law_name" = true) (k9 : PySem.W.keepIn K (.ref f9) = true)
    (a10 : PySem.W.nsIn K mainGlobals "_law_leaf" = some (some (.ref f10))) (l10 : K.lookup f10 = some ⟨oc10, od10, .func (PySem.W.fnOf "_law_leaf" "_law_leaf" (defArgs s__law_leaf) (defBody s__law_leaf) (defScope s__law_leaf) .none kV10 dc10 pm10 an10 cd10 ct10), sl10⟩) (c10 : PySem.W.codeIn K cd10 "_law_leaf" = true) (k10 : PySem.W.keepIn K (.ref f10) = true)
    (a11 : PySem.W.nsIn K mainGlobals "_law_term" = some (some (.ref f11))) (l11 : K.lookup f11 = some ⟨oc11, od11, .func (PySem.W.fnOf "_law_term" "_law_term" (defArgs s__law_term) (defBody s__law_term) (defScope s__law_term) .none kV11 dc11 pm11 an11 cd11 ct11), sl11⟩) (c11 : PySem.W.codeIn K cd11 "_law_term" = true) (k11 : PySem.W.keepIn K (.ref f11) = true)
    (a12 : PySem.W.nsIn K mainGlobals "_law_key" = some (some (.ref f12))) (l12 : K.lookup f12 = some ⟨oc12, od12, .func (PySem.W.fnOf "_law_key" "_law_key" (defArgs s__law_key) (defBody s__law_key) (defScope s__law_key) .none kV12 dc12 pm12 an12 cd12 ct12), sl12⟩) (c12 : PySem.W.codeIn K cd12 "_law_key" = true) (k12 : PySem.W.keepIn K (.ref f12) = true)
    (a13 : PySem.W.nsIn K mainGlobals "_law_order" = some (some (.ref f13))) (l13 : K.lookup f13 = some ⟨oc13, od13, .func (PySem.W.fnOf "_law_order" "_law_order" (defArgs s__law_order) (defBody s__law_order) (defScope s__law_order) .none kV13 dc13 pm13 an13 cd13 ct13), sl13⟩) (c13 : PySem.W.codeIn K cd13 "_law_order" = true) (k13 : PySem.W.keepIn K (.ref f13) = true)
    (a14 : PySem.W.nsIn K mainGlobals "law" = some (some (.ref f14))) (l14 : K.lookup f14 = some ⟨oc14, od14, .func (PySem.W.fnOf "law" "law" (defArgs s_law) (defBody s_law) (defScope s_law) .none kV14 dc14 pm14 an14 cd14 ct14), sl14⟩) (c14 : PySem.W.codeIn K cd14 "law" = true) (k14 : PySem.W.keepIn K (.ref f14) = true)
    (z0 : PySem.W.nsIn K mainGlobals "abs" = some none)
    (z1 : PySem.W.nsIn K mainGlobals "all" = some none)
    (z2 : PySem.W.nsIn K mainGlobals "int" = some none)
    (z3 : PySem.W.nsIn K mainGlobals "isinstance" = some none)
    (z4 : PySem.W.nsIn K mainGlobals "len" = some none)
    (z5 : PySem.W.nsIn K mainGlobals "list" = some none)
    (z6 : PySem.W.nsIn K mainGlobals "min" = some none)
    (z7 : PySem.W.nsIn K mainGlobals "range" = some none)
    (z8 : PySem.W.nsIn K mainGlobals "sorted" = some none)
    (z9 : PySem.W.nsIn K mainGlobals "tuple" = some none)
    (z10 : PySem.W.nsIn K mainGlobals "zip" = some none)
    : ∃ fd : FuncData, (∀ (s : Shared) (v : Value), BindsTo s fd ⟨[v], []⟩ [("script", v)]) ∧ ∀ base : Heap, K.In base → base.Ns mainGlobals mg → FnOk l.prog w K mg base CX0 6 fa fd ["script"] (sp_law K) := by
  have e := hfa.symm.trans (PySem.W.mg_of X G a14)
  cases e
  have F1 := fun_mk (st := s_is_variable) l1 c1 k1
  have b1 := F1.binds (ps := ["node"]) fun _ _ _ _ _ _ us hl => match us, hl with | [_], _ => rfl
  have F2 := fun_mk (st := s_is_symbol) l2 c2 k2
  have b2 := F2.binds (ps := ["node"]) fun _ _ _ _ _ _ us hl => match us, hl with | [_], _ => rfl
  have F3 := fun_mk (st := s_node_key) l3 c3 k3
  have b3 := F3.binds (ps := ["node"]) fun _ _ _ _ _ _ us hl => match us, hl with | [_], _ => rfl
  have F4 := fun_mk (st := s_term_key) l4 c4 k4
  have b4 := F4.binds (ps := ["term"]) fun _ _ _ _ _ _ us hl => match us, hl with | [_], _ => rfl
  have F5 := fun_mk (st := s_compare) l5 c5 k5
  have b5 := F5.binds (ps := ["left", "right"]) fun _ _ _ _ _ _ us hl => match us, hl with | [_, _], _ => rfl
  have F6 : FunD K "sort_terms" "sort_terms" (defArgs s_sort_terms) (defBody s_sort_terms) (defScope s_sort_terms) [] [("unique", V.bl false)] f6 _ := ⟨⟨_, _, _, _, _, _, _, _, _, _, rfl, l6, c6, .inl ⟨rfl, rfl⟩, .inr ⟨_, rfl, fun q hq => by rw [List.mem_singleton.mp hq]; exact ⟨_, n6_unique, rfl⟩⟩⟩, k6⟩
  have b6 := F6.binds0 (ps := ["items", "unique"]) 1 (by simp) rfl fun D _ _ _ _ _ us ks hl hk => match us, hl, ks, hk with | [_], _, [_], _ => ⟨_, _, _, _, _, _, rfl, rfl, rfl⟩
  have kb6 : KBn K (PySem.W.fnOf "sort_terms" "sort_terms" (defArgs s_sort_terms) (defBody s_sort_terms) (defScope s_sort_terms) .none (.ref D6o) dc6 pm6 an6 cd6 ct6) ["items", "unique"] 1 ["unique"] (fun us ws => us ++ ws) (fun vs zs => vs ++ zs) := ⟨fun s us ws X h1 h2 => match us, h1, ws, h2 with | [_], _, [_], _ => .of_eq rfl, fun r1 r2 => r1.append r2⟩
  have F7 := fun_mk (st := s__law_stream) l7 c7 k7
  have b7 := F7.binds (ps := ["script"]) fun _ _ _ _ _ _ us hl => match us, hl with | [_], _ => rfl
  have F8 := fun_mk (st := s__law_draw) l8 c8 k8
  have b8 := F8.binds (ps := ["stream", "many"]) fun _ _ _ _ _ _ us hl => match us, hl with | [_, _], _ => rfl
  have F9 := fun_mk (st := s__law_name) l9 c9 k9
  have b9 := F9.binds (ps := ["stream"]) fun _ _ _ _ _ _ us hl => match us, hl with | [_], _ => rfl
  have F10 := fun_mk (st := s__law_leaf) l10 c10 k10
  have b10 := F10.binds (ps := ["stream", "widest"]) fun _ _ _ _ _ _ us hl => match us, hl with | [_, _], _ => rfl
  have F11 := fun_mk (st := s__law_term) l11 c11 k11
  have b11 := F11.binds (ps := ["stream", "size", "widest"]) fun _ _ _ _ _ _ us hl => match us, hl with | [_, _, _], _ => rfl
  have F12 := fun_mk (st := s__law_key) l12 c12 k12
  have b12 := F12.binds (ps := ["node"]) fun _ _ _ _ _ _ us hl => match us, hl with | [_], _ => rfl
  have F13 := fun_mk (st := s__law_order) l13 c13 k13
  have b13 := F13.binds (ps := ["left", "right"]) fun _ _ _ _ _ _ us hl => match us, hl with | [_, _], _ => rfl
  have F14 := fun_mk (st := s_law) l14 c14 k14
  have E : Bi K mg := ⟨PySem.W.mg_none_of X G z0, PySem.W.mg_none_of X G z1, PySem.W.mg_none_of X G z2, PySem.W.mg_none_of X G z3, PySem.W.mg_none_of X G z4, PySem.W.mg_none_of X G z5, PySem.W.mg_none_of X G z6, PySem.W.mg_none_of X G z7, PySem.W.mg_none_of X G z8, PySem.W.mg_none_of X G z9, PySem.W.mg_none_of X G z10⟩
  refine ⟨PySem.W.fnOf "law" "law" (defArgs s_law) (defBody s_law) (defScope s_law) .none kV14 dc14 pm14 an14 cd14 ct14, fun s v => .of_eq rfl, fun base _ _ => ?_⟩
  have D1 : Has l.prog w K mg base 1 "is_variable" ["node"] (sp_is_variable K) := ⟨_, _, ok_is_variable F1 E , PySem.W.mg_of X G a1, k1, b1⟩
  have D2 : Has l.prog w K mg base 1 "is_symbol" ["node"] (sp_is_symbol K) := ⟨_, _, ok_is_symbol F2 E , PySem.W.mg_of X G a2, k2, b2⟩
  have D7 : Has l.prog w K mg base 1 "_law_stream" ["script"] (sp__law_stream K) := ⟨_, _, ok__law_stream F7 E , PySem.W.mg_of X G a7, k7, b7⟩
  have D8 : Has l.prog w K mg base 1 "_law_draw" ["stream", "many"] (sp__law_draw K) := ⟨_, _, ok__law_draw F8 E , PySem.W.mg_of X G a8, k8, b8⟩
  have D12 : Has l.prog w K mg base 1 "_law_key" ["node"] (sp__law_key K) := ⟨_, _, ok__law_key F12 E , PySem.W.mg_of X G a12, k12, b12⟩
  have D3 : Has l.prog w K mg base 2 "node_key" ["node"] (sp_node_key K) := ⟨_, _, ok_node_key F3 E D1 D2, PySem.W.mg_of X G a3, k3, b3⟩
  have D9 : Has l.prog w K mg base 2 "_law_name" ["stream"] (sp__law_name K) := ⟨_, _, ok__law_name F9 E D8, PySem.W.mg_of X G a9, k9, b9⟩
  have D13 : Has l.prog w K mg base 2 "_law_order" ["left", "right"] (sp__law_order K) := ⟨_, _, ok__law_order F13 E D12, PySem.W.mg_of X G a13, k13, b13⟩
  have D4 : Has l.prog w K mg base 3 "term_key" ["term"] (sp_term_key K) := ⟨_, _, ok_term_key F4 E D3, PySem.W.mg_of X G a4, k4, b4⟩
  have D5 : Has l.prog w K mg base 3 "compare" ["left", "right"] (sp_compare K) := ⟨_, _, ok_compare F5 E D1 D3, PySem.W.mg_of X G a5, k5, b5⟩
  have D10 : Has l.prog w K mg base 3 "_law_leaf" ["stream", "widest"] (sp__law_leaf K) := ⟨_, _, ok__law_leaf F10 E D8 D9, PySem.W.mg_of X G a10, k10, b10⟩
  have D11 : Has l.prog w K mg base 4 "_law_term" ["stream", "size", "widest"] (sp__law_term K) := ⟨_, _, ok__law_term F11 E D8 D9 D10, PySem.W.mg_of X G a11, k11, b11⟩
  have D6 : HasK l.prog w K mg base 5 "sort_terms" ["items", "unique"] [("unique", V.bl false)] (sp_sort_terms K) := ⟨_, _, ok_sort_terms F6 E D4 D5, PySem.W.mg_of X G a6, k6, b6, kb6⟩
  exact ok_law F14 E D7 D8 D11 D13 D6
end My
open PySem PySem.W PyProof.Rows
set_option maxRecDepth 100000 in
set_option maxHeartbeats 0 in
theorem PySem.Challenge.cw_hornbook_k06_sort_holds : PySem.Challenge.rw_hornbook_k06_sort.Holds := by
  w_on; o_law; k_head; (case hw => w_witness2)
  k_fill
  refine L2.walk_of (l := PySem.Challenge.rw_hornbook_k06_sort) (n := 63) (k := 6) (x := "script") (CX := fun _ => L2.CX0) (sp := fun w => My.sp_law _) rfl (by decide) rfl ⟨rfl, by decide, by decide⟩ (fun w h Y => PySem.W.kIn_of Y) ?F (fun _ _ a ns hl _ hS => ⟨a, ns, rfl, hS, hl, fun _ => rfl⟩) (fun _ _ _ _ _ h => h)
  case F =>
    intro w mg fa h KX G hmg
    refine' My.all_mk KX G hmg ?a1 ?l1 ?c1 ?k1 ?a2 ?l2 ?c2 ?k2 ?a3 ?l3 ?c3 ?k3 ?a4 ?l4 ?c4 ?k4 ?a5 ?l5 ?c5 ?k5 ?a6 ?l6 ?c6 ?k6 ?n6_unique ?a7 ?l7 ?c7 ?k7 ?a8 ?l8 ?c8 ?k8 ?a9 ?l9 ?c9 ?k9 ?a10 ?l10 ?c10 ?k10 ?a11 ?l11 ?c11 ?k11 ?a12 ?l12 ?c12 ?k12 ?a13 ?l13 ?c13 ?k13 ?a14 ?l14 ?c14 ?k14 ?z0 ?z1 ?z2 ?z3 ?z4 ?z5 ?z6 ?z7 ?z8 ?z9 ?z10
    (case a1 => k_is)
    (case l1 => k_is)
    (case c1 => k_is)
    (case k1 => k_is)
    (case a2 => k_is)
    (case l2 => k_is)
    (case c2 => k_is)
    (case k2 => k_is)
    (case a3 => k_is)
    (case l3 => k_is)
    (case c3 => k_is)
    (case k3 => k_is)
    (case a4 => k_is)
    (case l4 => k_is)
    (case c4 => k_is)
    (case k4 => k_is)
    (case a5 => k_is)
    (case l5 => k_is)
    (case c5 => k_is)
    (case k5 => k_is)
    (case a6 => k_is)
    (case l6 => k_is)
    (case c6 => k_is)
    (case k6 => k_is)
    (case n6_unique => k_is)
    (case a7 => k_is)
    (case l7 => k_is)
    (case c7 => k_is)
    (case k7 => k_is)
    (case a8 => k_is)
    (case l8 => k_is)
    (case c8 => k_is)
    (case k8 => k_is)
    (case a9 => k_is)
    (case l9 => k_is)
    (case c9 => k_is)
    (case k9 => k_is)
    (case a10 => k_is)
    (case l10 => k_is)
    (case c10 => k_is)
    (case k10 => k_is)
    (case a11 => k_is)
    (case l11 => k_is)
    (case c11 => k_is)
    (case k11 => k_is)
    (case a12 => k_is)
    (case l12 => k_is)
    (case c12 => k_is)
    (case k12 => k_is)
    (case a13 => k_is)
    (case l13 => k_is)
    (case c13 => k_is)
    (case k13 => k_is)
    (case a14 => k_is)
    (case l14 => k_is)
    (case c14 => k_is)
    (case k14 => k_is)
    (case z0 => k_is)
    (case z1 => k_is)
    (case z2 => k_is)
    (case z3 => k_is)
    (case z4 => k_is)
    (case z5 => k_is)
    (case z6 => k_is)
    (case z7 => k_is)
    (case z8 => k_is)
    (case z9 => k_is)
    (case z10 => k_is)
