import PyProof.Rows.All
import Wide.All
import OpenK.AllK
import Wide.FinOn
import HandS.ForMost
import HandS.IsInst
import HandS.Wide
import HandS.Codes
import HandS.Style
import HandS.TupLe
import HandS.TupAny
import HandS.EndBits
import HandS.Walk
import HandS.Zip
import KE.LtData
import PySem.Challenge.RW_hornbook_k00_goal_form
set_option Elab.async false
set_option linter.all false
set_option maxRecDepth 100000
set_option maxHeartbeats 4000000
set_option exponentiation.threshold 10000
namespace My
open PySem PySem.Spec PyProof.Rows L2
/-- a def of the text that keeps a promise, as its callers want it -/
def Has (P : Program) (w : World) (K : PySem.W.Frag) (mg : Str → Option Value) (base : Heap) (k : Nat) (x : Str) (ps : List Str) (sp : Sp) : Prop :=
  ∃ (f : Addr) (fd : FuncData), FnOk P w K mg base CX0 k f fd ps sp ∧ mg x = some (.ref f) ∧ PySem.W.keepIn K (.ref f) = true ∧ Binds K fd ps []
theorem same_upd {H : Hp} {p : Addr} {o : HO} (h : H p = none) : Same H (upd H p o) := fun b x e => by
  rw [upd_ne (ne_of_none e h)]
  exact e
/-- all but the object at s is as it was -/
def But (s : Addr) (H H' : Hp) : Prop := ∀ b o, b ≠ s → H b = some o → H' b = some o
theorem But.refl (s : Addr) (H : Hp) : But s H H := fun _ _ _ e => e
theorem But.trans {s : Addr} {H H1 H2 : Hp} (a : But s H H1) (b : But s H1 H2) : But s H H2 := fun c o hc e => b c o hc (a c o hc e)
theorem But.of {s : Addr} {H H' : Hp} (a : Same H H') : But s H H' := fun b o _ e => a b o e
theorem But.put {s : Addr} {H : Hp} {o : HO} : But s H (upd H s o) := fun b u hb e => by rw [upd_ne hb]; exact e
/-! ### what a value is -/
mutual
inductive Im (K : PySem.W.Frag) (G : Addr → Prop) (H : Hp) : V → PyData → Prop
  | non : Im K G H .non .none
  | bl (b : Bool) : Im K G H (.bl b) (.bool b)
  | int (i : Int) : Im K G H (.int i) (.int i)
  | str (x : Str) : Im K G H (.str x) (.str x)
  | lst {a : Addr} {xs : List V} {ds : List PyData} : G a → H a = some (.lst xs) → ImAll K G H xs ds → Im K G H (.ref a) (.list ds)
  | tup {a : Addr} {xs : List V} {ds : List PyData} : G a → H a = some (.tup xs) → ImAll K G H xs ds → Im K G H (.ref a) (.tuple ds)
inductive ImAll (K : PySem.W.Frag) (G : Addr → Prop) (H : Hp) : List V → List PyData → Prop
  | nil : ImAll K G H [] []
  | cons {v : V} {vs : List V} {d : PyData} {ds : List PyData} : Im K G H v d → ImAll K G H vs ds → ImAll K G H (v :: vs) (d :: ds)
end
section
variable {K : PySem.W.Frag} {G G' : Addr → Prop} {H H' : Hp}
mutual
theorem Im.mono (hH : ∀ b o, G b → H b = some o → H' b = some o) (hG : ∀ b, G b → G' b) : ∀ (d : PyData) (v : V), Im K G H v d → Im K G' H' v d
  | .none, _, h => by cases h; exact .non
  | .bool b, _, h => by cases h; exact .bl b
  | .int i, _, h => by cases h; exact .int i
  | .str x, _, h => by cases h; exact .str x
  | .list ds, _, h => by
    cases h with
    | lst g e ha => exact .lst (hG _ g) (hH _ _ g e) (Im.monoAll hH hG ds _ ha)
  | .tuple ds, _, h => by
    cases h with
    | tup g e ha => exact .tup (hG _ g) (hH _ _ g e) (Im.monoAll hH hG ds _ ha)
  | .dict _, _, h => by cases h
theorem Im.monoAll (hH : ∀ b o, G b → H b = some o → H' b = some o) (hG : ∀ b, G b → G' b) : ∀ (ds : List PyData) (vs : List V), ImAll K G H vs ds → ImAll K G' H' vs ds
  | [], _, h => by cases h; exact .nil
  | d :: ds, _, h => by
    cases h with
    | cons h1 h2 => exact .cons (Im.mono hH hG d _ h1) (Im.monoAll hH hG ds _ h2)
end
mutual
theorem Im.dp : ∀ (d : PyData) (v : V), Im K G H v d → Dp K H v d
  | .none, _, h => by cases h; exact .non
  | .bool b, _, h => by cases h; exact .bl b
  | .int i, _, h => by cases h; exact .int i
  | .str x, _, h => by cases h; exact .str x
  | .list ds, _, h => by
    cases h with
    | lst g e ha => exact .lst (SqL.of e) (Im.dpAll ds _ ha)
  | .tuple ds, _, h => by
    cases h with
    | tup g e ha => exact .tup (SqT.of e) (Im.dpAll ds _ ha)
  | .dict _, _, h => by cases h
theorem Im.dpAll : ∀ (ds : List PyData) (vs : List V), ImAll K G H vs ds → DpAll K H vs ds
  | [], _, h => by cases h; exact .nil
  | d :: ds, _, h => by
    cases h with
    | cons h1 h2 => exact .cons (Im.dp d _ h1) (Im.dpAll ds _ h2)
end
theorem ImAll.len : ∀ {vs : List V} {ds : List PyData}, ImAll K G H vs ds → vs.length = ds.length
  | _, _, .nil => rfl
  | _, _, .cons _ t => congrArg (· + 1) (ImAll.len t)
theorem ImAll.get : ∀ {vs : List V} {ds : List PyData} {i : Nat} {d : PyData}, ImAll K G H vs ds → ds[i]? = some d → ∃ v, vs[i]? = some v ∧ Im K G H v d
  | _, _, _, _, .nil, e => by simp at e
  | _, _, 0, _, .cons r _, e => by simp at e; subst e; exact ⟨_, rfl, r⟩
  | _, _, i + 1, _, .cons _ t, e => by
    obtain ⟨u, h1, h2⟩ := ImAll.get (i := i) t (by simpa using e)
    exact ⟨u, by simpa using h1, h2⟩
theorem ImAll.getV : ∀ {vs : List V} {ds : List PyData} {i : Nat} {v : V}, ImAll K G H vs ds → vs[i]? = some v → ∃ d, ds[i]? = some d ∧ Im K G H v d
  | _, _, _, _, .nil, e => by simp at e
  | _, _, 0, _, .cons r _, e => by simp at e; subst e; exact ⟨_, rfl, r⟩
  | _, _, i + 1, _, .cons _ t, e => by
    obtain ⟨u, h1, h2⟩ := ImAll.getV (i := i) t (by simpa using e)
    exact ⟨u, by simpa using h1, h2⟩
theorem ImAll.snoc : ∀ {vs : List V} {ds : List PyData} {v : V} {d : PyData}, ImAll K G H vs ds → Im K G H v d → ImAll K G H (vs ++ [v]) (ds ++ [d])
  | _, _, _, _, .nil, r => .cons r .nil
  | _, _, _, _, .cons q t, r => .cons q (ImAll.snoc t r)
theorem ImAll.app : ∀ {vs : List V} {ds : List PyData} {us : List V} {es : List PyData}, ImAll K G H vs ds → ImAll K G H us es → ImAll K G H (vs ++ us) (ds ++ es)
  | _, _, _, _, .nil, r => r
  | _, _, _, _, .cons q t, r => .cons q (ImAll.app t r)
end
section
variable {K : PySem.W.Frag} {H : Hp}
theorem DpAll.len : ∀ {vs : List V} {ds : List PyData}, DpAll K H vs ds → vs.length = ds.length
  | _, _, .nil => rfl
  | _, _, .cons _ t => congrArg (· + 1) (DpAll.len t)
theorem DpAll.get : ∀ {vs : List V} {ds : List PyData} {i : Nat} {d : PyData}, DpAll K H vs ds → ds[i]? = some d → ∃ v, vs[i]? = some v ∧ Dp K H v d
  | _, _, _, _, .nil, e => by simp at e
  | _, _, 0, _, .cons r _, e => by simp at e; subst e; exact ⟨_, rfl, r⟩
  | _, _, i + 1, _, .cons _ t, e => by
    obtain ⟨u, h1, h2⟩ := DpAll.get (i := i) t (by simpa using e)
    exact ⟨u, by simpa using h1, h2⟩
/-- the name of a value's class -/
def tyN : PyData → String
  | .none => "NoneType" | .bool _ => "bool" | .int _ => "int" | .str _ => "str" | .list _ => "list" | .tuple _ => "tuple" | .dict _ => "dict"
theorem tyx_of : ∀ {x : V} {d : PyData}, Dp K H x d → TyX K H x (.type (tyN d))
  | _, _, .non => .base .non
  | _, _, .bl b => .base (.bl b)
  | _, _, .int i => .base (.int i)
  | _, _, .str x => .base (.str x)
  | _, _, .lst h _ => by
    rcases h with (h | ⟨o, h⟩) | ⟨o, its, n, hk, hc, _⟩
    · exact .base (.lst h)
    · exact .base (.frz h)
    · exact .kList hk hc
  | _, _, .tup h _ => by
    rcases h with (h | ⟨o, h⟩) | ⟨o, its, n, hk, hc, _⟩
    · exact .base (.tup h)
    · exact .fTuple h
    · exact .kTuple hk hc
def isI : PyData → Bool
  | .int _ => true | .bool _ => true | _ => false
def isB : PyData → Bool
  | .bool _ => true | _ => false
def isS : PyData → Bool
  | .str _ => true | _ => false
def isT : PyData → Bool
  | .tuple _ => true | _ => false
def isL : PyData → Bool
  | .list _ => true | _ => false
theorem kitI (d : PyData) : kitB (tyN d) "int" = some (isI d) := by cases d <;> (show kitB _ "int" = _; simp only [tyN, isI]; decide +kernel)
theorem kitBo (d : PyData) : kitB (tyN d) "bool" = some (isB d) := by cases d <;> (show kitB _ "bool" = _; simp only [tyN, isB]; decide +kernel)
theorem kitS (d : PyData) : kitB (tyN d) "str" = some (isS d) := by cases d <;> (show kitB _ "str" = _; simp only [tyN, isS]; decide +kernel)
theorem kitT (d : PyData) : kitB (tyN d) "tuple" = some (isT d) := by cases d <;> (show kitB _ "tuple" = _; simp only [tyN, isT]; decide +kernel)
theorem kitL (d : PyData) : kitB (tyN d) "list" = some (isL d) := by cases d <;> (show kitB _ "list" = _; simp only [tyN, isL]; decide +kernel)
theorem isi_int {x : V} {d : PyData} {Q : VK} (h : Dp K H x d) (q : Q (.bl (isI d)) H) : rIsi K [x, .ty "int"] H Q := ⟨x, .ty "int", _, _, _, rfl, .ty _, tyx_of h, kit_ty (kitI d), q⟩
theorem isi_bool {x : V} {d : PyData} {Q : VK} (h : Dp K H x d) (q : Q (.bl (isB d)) H) : rIsi K [x, .ty "bool"] H Q := ⟨x, .ty "bool", _, _, _, rfl, .ty _, tyx_of h, kit_ty (kitBo d), q⟩
theorem isi_str {x : V} {d : PyData} {Q : VK} (h : Dp K H x d) (q : Q (.bl (isS d)) H) : rIsi K [x, .ty "str"] H Q := ⟨x, .ty "str", _, _, _, rfl, .ty _, tyx_of h, kit_ty (kitS d), q⟩
theorem isi_tup {x : V} {d : PyData} {Q : VK} (h : Dp K H x d) (q : Q (.bl (isT d)) H) : rIsi K [x, .ty "tuple"] H Q := ⟨x, .ty "tuple", _, _, _, rfl, .ty _, tyx_of h, kit_ty (kitT d), q⟩
theorem isi_list {x : V} {d : PyData} {Q : VK} (h : Dp K H x d) (q : Q (.bl (isL d)) H) : rIsi K [x, .ty "list"] H Q := ⟨x, .ty "list", _, _, _, rfl, .ty _, tyx_of h, kit_ty (kitL d), q⟩
end
/-! ### the stream of draws -/
structure Stm (H : Hp) (s l : Addr) : Prop where
  ex : ∃ (a b m : Int) (ns : List Int), H s = some (.lst [.ref l, .int a, .int b, .int m]) ∧ H l = some (.lst (ns.map V.int)) ∧ ns.length ≤ 63 ∧ 0 ≤ a ∧ 0 ≤ b ∧ 0 ≤ m ∧ m < 2147483647
theorem Stm.keep {H H' : Hp} {s l : Addr} (h : Stm H s l) (e : Same H H') : Stm H' s l := by
  obtain ⟨a, b, m, ns, h1, h2, r⟩ := h.ex
  exact ⟨a, b, m, ns, e _ _ h1, e _ _ h2, r⟩
/-- another object is changed -/
theorem Stm.put {H : Hp} {s l r : Addr} {o : HO} (h : Stm H s l) (h1 : s ≠ r) (h2 : l ≠ r) : Stm (upd H r o) s l := by
  obtain ⟨a, b, m, ns, e1, e2, q⟩ := h.ex
  exact ⟨a, b, m, ns, by rw [upd_ne h1]; exact e1, by rw [upd_ne h2]; exact e2, q⟩
theorem Stm.at_s {H : Hp} {s l : Addr} (h : Stm H s l) : ∃ o, H s = some o := by
  obtain ⟨a, b, m, ns, e1, e2, q⟩ := h.ex
  exact ⟨_, e1⟩
theorem Stm.at_l {H : Hp} {s l : Addr} (h : Stm H s l) : ∃ o, H l = some o := by
  obtain ⟨a, b, m, ns, e1, e2, q⟩ := h.ex
  exact ⟨_, e2⟩
/-- a constant of the module -/
def GV (mg : Str → Option Value) (x : Str) (v : V) : Prop := ∃ u, mg x = some u ∧ RelV v u
theorem pe_gC {X : Cx} {x : Str} {v : V} {pos : Pos} (hg : Gl X x) (h : GV X.mg x v) (hd : (x == ("__debug__" : Str)) = false := by decide) : PE X (.Name x pos) (tC v) := by
  obtain ⟨u, e, r⟩ := h
  exact pe_glob hg e r hd

/-! ### 'a' * 40 -/
section
variable {X : Cx}
theorem op_mulS : OpR X (binaryOp .Mult) (fun x y H Q => ∃ z i, x = .str z ∧ y = .int i ∧ MulOk z i ∧ Q (.str (Txt.mul z i)) H) := by
  intro pins s σ H x y v u Q I rx ry h
  obtain ⟨z, i, rfl, rfl, hk, q⟩ := h
  obtain ⟨t, rfl⟩ := rx
  obtain ⟨t', rfl⟩ := ry
  exact SB.mul hk fun t2 k => ⟨.str _, H, I.tok k, ⟨_, rfl⟩, q⟩
end
/-! ### data written out: each part of it is new -/
section
variable {K : PySem.W.Frag}
/-- an expression that makes data and changes nothing else -/
def Lit (K : PySem.W.Frag) (σ : L2.St) (t : TE) (d : PyData) : Prop := ∀ (H : Hp) (Q : VK), (∀ v H', Same H H' → Im K (fun b => H b = Option.none) H' v d → Q v H') → t σ H Q
def LitA (K : PySem.W.Frag) (σ : L2.St) (t : TA) (ds : List PyData) : Prop := ∀ (H : Hp) (Q : List V → Hp → Prop), (∀ vs H', Same H H' → ImAll K (fun b => H b = Option.none) H' vs ds → Q vs H') → t σ H Q
variable {σ : L2.St}
theorem lit_int {i : Int} : Lit K σ (tC (.int i)) (.int i) := fun H Q h => h _ H (Same.refl H) (.int i)
theorem lit_str {x : Str} : Lit K σ (tC (.str x)) (.str x) := fun H Q h => h _ H (Same.refl H) (.str x)
theorem lit_bl {b : Bool} : Lit K σ (tC (.bl b)) (.bool b) := fun H Q h => h _ H (Same.refl H) (.bl b)
theorem lit_non : Lit K σ (tC .non) .none := fun H Q h => h _ H (Same.refl H) .non
theorem litA_nil : LitA K σ tNil [] := fun H Q h => h _ H (Same.refl H) .nil
theorem litA_cons {t : TE} {ta : TA} {d : PyData} {ds : List PyData} (h1 : Lit K σ t d) (h2 : LitA K σ ta ds) : LitA K σ (tCons t ta) (d :: ds) := fun H Q h =>
  h1 H _ fun v H1 s1 i1 => h2 H1 _ fun vs H2 s2 i2 => h _ H2 (s1.trans s2) (.cons (Im.mono (fun b o _ e => s2 b o e) (fun _ e => e) _ _ i1) (Im.monoAll (fun _ _ _ e => e) (fun b e => s1.free e) _ _ i2))
theorem lit_tup {ta : TA} {ds : List PyData} (h1 : LitA K σ ta ds) (hz : ds.length ≤ sizeLine) : Lit K σ (tTup ta) (.tuple ds) := fun H Q h =>
  h1 H _ fun vs H1 s1 i1 => ⟨by rw [i1.len]; exact hz, fun p np => h _ _ (s1.trans (same_upd np)) (.tup (s1.free np) upd_same (Im.monoAll (fun b o _ e => same_upd np b o e) (fun _ e => e) _ _ i1))⟩
theorem lit_lst {ta : TA} {ds : List PyData} (h1 : LitA K σ ta ds) (hz : ds.length ≤ sizeLine) : Lit K σ (tLst ta) (.list ds) := fun H Q h =>
  h1 H _ fun vs H1 s1 i1 => ⟨by rw [i1.len]; exact hz, fun p np => h _ _ (s1.trans (same_upd np)) (.lst (s1.free np) upd_same (Im.monoAll (fun b o _ e => same_upd np b o e) (fun _ e => e) _ _ i1))⟩
/-- what is an int -/
theorem lit_neg {t : TE} {i : Int} (h1 : Lit K σ t (.int i)) : Lit K σ (tUn (rU fun i => .int (-i)) t) (.int (-i)) := fun H Q h =>
  h1 H _ fun v H1 s1 i1 => by
    cases i1
    exact ⟨_, rfl, h _ H1 s1 (.int _)⟩
theorem lit_sub {t u : TE} {i j : Int} (h1 : Lit K σ t (.int i)) (h2 : Lit K σ u (.int j)) : Lit K σ (tOp (rI0 fun i j => .int (i - j)) t u) (.int (i - j)) := fun H Q h =>
  h1 H _ fun v H1 s1 i1 => h2 H1 _ fun v2 H2 s2 i2 => by
    cases i1
    cases i2
    exact ⟨_, _, rfl, rfl, h _ H2 (s1.trans s2) (.int _)⟩
theorem lit_pow {t u : TE} {i j : Int} (h1 : Lit K σ t (.int i)) (h2 : Lit K σ u (.int j)) (hc : CPow i j) : Lit K σ (tOp (rI CPow fun i j => .int (i ^ j.toNat)) t u) (.int (i ^ j.toNat)) := fun H Q h =>
  h1 H _ fun v H1 s1 i1 => h2 H1 _ fun v2 H2 s2 i2 => by
    cases i1
    cases i2
    exact ⟨_, _, rfl, rfl, hc, h _ H2 (s1.trans s2) (.int _)⟩
theorem lit_mulS {t u : TE} {z : Str} {j : Int} (h1 : Lit K σ t (.str z)) (h2 : Lit K σ u (.int j)) (hc : MulOk z j) : Lit K σ (tOp (fun x y H Q => ∃ z i, x = .str z ∧ y = .int i ∧ MulOk z i ∧ Q (.str (Txt.mul z i)) H) t u) (.str (Txt.mul z j)) := fun H Q h =>
  h1 H _ fun v H1 s1 i1 => h2 H1 _ fun v2 H2 s2 i2 => by
    cases i1
    cases i2
    exact ⟨_, _, rfl, rfl, hc, h _ H2 (s1.trans s2) (.str _)⟩
end
section
variable {X : Cx} {pos : Pos}
/-- a built-in class as a value -/
theorem pe_ty {x : Str} (n : String) (hg : Gl X x) (hm : X.mg x = Option.none) (hv : bootBuiltins x = some (.type n)) (hn : x ≠ "__name__" := by decide) (hd : (x == ("__debug__" : Str)) = false := by decide) : PE X (.Name x pos) (tC (.ty n)) :=
  pe_bltn hg hm hv rfl hn hd
end
section
variable {K : PySem.W.Frag} {H H' : Hp}
theorem same_sqT {a : Addr} {xs : List V} (e : Same H H') (h : SqT K H a xs) : SqT K H' a xs := by
  rcases h with (h | ⟨o, h⟩) | h
  · exact .inl (.inl (e _ _ h))
  · exact .inl (.inr ⟨o, e _ _ h⟩)
  · exact .inr h
mutual
theorem dp_same (e : Same H H') : ∀ (d : PyData) (v : V), Dp K H v d → Dp K H' v d
  | .none, _, h => by cases h; exact .non
  | .bool b, _, h => by cases h; exact .bl b
  | .int i, _, h => by cases h; exact .int i
  | .str x, _, h => by cases h; exact .str x
  | .list ds, _, h => by
    cases h with
    | lst g ha => exact .lst (e.seq g) (dp_sameAll e ds _ ha)
  | .tuple ds, _, h => by
    cases h with
    | tup g ha => exact .tup (same_sqT e g) (dp_sameAll e ds _ ha)
  | .dict _, _, h => by cases h
theorem dp_sameAll (e : Same H H') : ∀ (ds : List PyData) (vs : List V), DpAll K H vs ds → DpAll K H' vs ds
  | [], _, h => by cases h; exact .nil
  | d :: ds, _, h => by
    cases h with
    | cons h1 h2 => exact .cons (dp_same e d _ h1) (dp_sameAll e ds _ h2)
end
end
theorem small_of {n : Nat} (h : n ≤ 1000) : n ≤ sizeLine := Nat.le_of_lt (small1000 h)
theorem seq_asg {te : TE} {g : TG} {u : TS} {D : Ends} {σ : L2.St} {H : Hp} (h : te σ H fun x H1 => g x σ H1 (u D)) : tSeq (tAsg te g) u D σ H := h
theorem gname {i : Nat} {v : V} {σ : L2.St} {H : Hp} {Q : L2.St → Hp → Prop} (h : Q (σ.set i (some v)) H) : gName i v σ H Q := h
theorem nxp {N : L2.St → Hp → Prop} {R : VK} {B C : L2.St → Hp → Prop} {σ : L2.St} {H : Hp} (h : N σ H) : ({ nx := N, rt := R, bk := B, ct := C } : Ends).nx σ H := h
theorem seq_if {c : TT} {t t2 : TS} {u : TS} {D : Ends} {σ : L2.St} {H : Hp} (h : c σ H fun b H1 => if b = true then t { D with nx := u D } σ H1 else t2 { D with nx := u D } σ H1) : tSeq (tIfS c t t2) u D σ H := h
theorem seq_ifN {c : TT} {t : TS} {u : TS} {D : Ends} {σ : L2.St} {H : Hp} (h : c σ H fun b H1 => if b = true then t { D with nx := u D } σ H1 else u D σ H1) : tSeq (tIfS c t tNext) u D σ H := h
theorem seq_any {t : TS} {u : TS} {D : Ends} {σ : L2.St} {H : Hp} (h : t { D with nx := u D } σ H) : tSeq t u D σ H := h
theorem asg1 {te : TE} {g : TG} {D : Ends} {σ : L2.St} {H : Hp} (h : te σ H fun x H1 => g x σ H1 D.nx) : tAsg te g D σ H := h
section
variable {K : PySem.W.Frag} {G G' : Addr → Prop} {H H' : Hp}
mutual
theorem Im.mono2 (hH : ∀ b o, G b → H b = some o → H' b = some o) (hG : ∀ b o, H b = some o → G b → G' b) : ∀ (d : PyData) (v : V), Im K G H v d → Im K G' H' v d
  | .none, _, h => by cases h; exact .non
  | .bool b, _, h => by cases h; exact .bl b
  | .int i, _, h => by cases h; exact .int i
  | .str x, _, h => by cases h; exact .str x
  | .list ds, _, h => by
    cases h with
    | lst g e ha => exact .lst (hG _ _ e g) (hH _ _ g e) (Im.mono2All hH hG ds _ ha)
  | .tuple ds, _, h => by
    cases h with
    | tup g e ha => exact .tup (hG _ _ e g) (hH _ _ g e) (Im.mono2All hH hG ds _ ha)
  | .dict _, _, h => by cases h
theorem Im.mono2All (hH : ∀ b o, G b → H b = some o → H' b = some o) (hG : ∀ b o, H b = some o → G b → G' b) : ∀ (ds : List PyData) (vs : List V), ImAll K G H vs ds → ImAll K G' H' vs ds
  | [], _, h => by cases h; exact .nil
  | d :: ds, _, h => by
    cases h with
    | cons h1 h2 => exact .cons (Im.mono2 hH hG d _ h1) (Im.mono2All hH hG ds _ h2)
end
end
theorem join_set {c : Prop} [Decidable c] {v : V} {i : Nat} {u : TS} {D : Ends} {σ : L2.St} {H : Hp} (P : L2.St → Prop) (h : ∀ σ2, P σ2 → u D σ2 H) (h1 : c → P (σ.set i (some v))) (h2 : ¬ c → P σ) :
    if c then tAsg (tC v) (gName i) { D with nx := u D } σ H else u D σ H := by
  by_cases hc : c
  · rw [if_pos hc]
    exact h _ (h1 hc)
  · rw [if_neg hc]
    exact h _ (h2 hc)
/-- a constant tuple of the module, by its data -/
def GC (K : PySem.W.Frag) (mg : Str → Option Value) (x : Str) (d : PyData) : Prop := ∃ (u : Value) (v : V), mg x = some u ∧ RelV v u ∧ Dp K (fun _ => Option.none) v d
theorem none_same (H : Hp) : Same (fun _ => Option.none) H := fun _ _ e => nomatch e
theorem kt_of {K : PySem.W.Frag} {a : Addr} {its : Array Value} {n : Nat} {dd : Option Addr} {sl : Array (Option Value)} {xs : List V} {ds : List PyData} (h : K.lookup a = some ⟨.type "tuple", dd, .seq its n, sl⟩) (hz : its.size ≤ 1000) (hv : Vals xs its.toList) (ha : DpAll K (fun _ => Option.none) xs ds) :
    Dp K (fun _ => Option.none) (.ref a) (.tuple ds) := .tup (.inr ⟨_, its, n, h, rfl, rfl, Nat.le_trans hz (by decide), hv⟩) ha
/-! ### list.extend(tuple) -/
section
open Builtin
theorem extT (l b : Addr) (xs ys : Array Value) (n k : Nat) (dd : Option Addr) (sl : Array (Option Value)) (hlong : ¬(!xs.isEmpty && Builtin.List.listTooLong (xs.size + ys.size)) = true) (h1 : xs.size ≤ sizeLine) (h2 : xs.size + ys.size ≤ sizeLine + 1) :
    Meets (Builtin.«list.extend» ⟨[.ref l, .ref b], []⟩) (fun _ R s => s.heap.get? l = some { cls := .type "list", dict := none, data := .seq xs n, slots := #[] } ∧ s.heap.get? b = some { cls := .type "tuple", dict := dd, data := .seq ys k, slots := sl } ∧ R (.ok (.ret Value.none)) { s with heap := s.heap.update l (Obj.mapSeq fun x => x ++ ys), toks := s.toks }) := by
  refine .of_wp fun prog w A R s h => ?_
  obtain ⟨hp, g, d, tk, os⟩ := s
  obtain ⟨ea, eb, q⟩ := h
  have i1 := AutoSeq1.idx_int
  have i2 := AutoSeq1.sub_tuple_tuple
  have i3 := AutoSeq1.sub_list_list
  have i4 := AutoSeq1.sub_tuple_list
  have i5 := AutoSeq1.sub_list_tuple
  have hz : (xs ++ ys).size ≤ sizeLine + 1 := by rw [Array.size_append]; exact h2
  wp_walk using (wpAny_updateSeq ea rfl (hz := h1) (_hz' := hz)), AutoSeq1.wpAny_loadPart' ea, AutoSeq1.wpAny_loadPart' eb
  exact ⟨_, rfl, q⟩
end
section
variable {X : Cx}
def rExtT (K : PySem.W.Frag) : V → List V → Hp → VK → Prop := fun x vs H Q => ∃ l b xs zs, x = .ref l ∧ vs = [.ref b] ∧ H l = some (.lst xs) ∧ SqT K H b zs ∧ xs.length + zs.length ≤ sizeLine ∧ Q .non (upd H l (.lst (xs ++ zs)))
theorem mt_extT : MtR X "list.extend" (rExtT X.K) := by
  intro pins s σ H x vs v us Q I rx rv h
  obtain ⟨l, b, xs, zs, rfl, rfl, hH, hB, hz, q⟩ := h
  cases rx
  obtain ⟨u, rfl, ru⟩ := rv.one
  cases ru
  obtain ⟨z, its, n, r, hl, e⟩ := I.lstM hH
  obtain ⟨its2, r2, ⟨⟨oc, od, dt, sl⟩, e2, ec, k2, ed⟩, _⟩ := I.tuple hB
  simp only at ec ed
  subst ec ed
  have z1 := r.length
  have z2 := r2.length
  have hsz : its.toArray.size + its2.toArray.size ≤ sizeLine := by rw [List.size_toArray, List.size_toArray]; omega
  have nl : ¬ (!its.toArray.isEmpty && Builtin.List.listTooLong (its.toArray.size + its2.toArray.size)) = true := by
    rw [notLongL hsz, Bool.and_false]
    exact Bool.false_ne_true
  refine call_meets F.slot_list_extend ⟨_, e, rfl⟩ F.entry_list_extend (F.args_list_extend_2 _ _) (extT l b its.toArray its2.toArray n k2 od sl nl (by rw [List.size_toArray]; omega) (by omega)) ⟨e, e2, ?_⟩
  refine ⟨.non, _, I.lset (its' := its ++ its2) hH e (by simp) (r.append r2) ?_, rfl, q⟩
  rw [List.length_append]
  omega
/-! ### x in (a, b, ..), data of any depth -/
def rInT (K : PySem.W.Frag) : R2 := fun x y H Q => ∃ d ds, Dp K H x d ∧ Dp K H y (.tuple ds) ∧ SeqAt.shaped d = true ∧ SeqAt.shaped (.tuple ds) = true ∧ Q (.bl (ds.any fun z => PyData.eqv z d)) H
def rNotInT (K : PySem.W.Frag) : R2 := fun x y H Q => ∃ d ds, Dp K H x d ∧ Dp K H y (.tuple ds) ∧ SeqAt.shaped d = true ∧ SeqAt.shaped (.tuple ds) = true ∧ Q (.bl (!ds.any fun z => PyData.eqv z d)) H
theorem op_inT (hu : X.A.units + 65 < cLine) : OpR X (compareOp .In) (rInT X.K) := by
  intro pins s σ H x y v u Q I rx ry h
  obtain ⟨d, ds, hd, he, sd, se, q⟩ := h
  obtain ⟨as, r1⟩ := Dp.reads I d x v hd rx
  obtain ⟨bs, r2⟩ := Dp.reads I (.tuple ds) y u he ry
  exact SeqAt.in_tuple_reads r2 r1 (SeqAt.canLay_of_shaped se) (SeqAt.canLay_of_shaped sd) (room_in_shaped sd hu) ⟨.bl _, H, I, rfl, q⟩
theorem op_notInT (hu : X.A.units + 65 < cLine) : OpR X (compareOp .NotIn) (rNotInT X.K) := by
  intro pins s σ H x y v u Q I rx ry h
  obtain ⟨d, ds, hd, he, sd, se, q⟩ := h
  obtain ⟨as, r1⟩ := Dp.reads I d x v hd rx
  obtain ⟨bs, r2⟩ := Dp.reads I (.tuple ds) y u he ry
  exact SeqAt.notIn_tuple_reads r2 r1 (SeqAt.canLay_of_shaped se) (SeqAt.canLay_of_shaped sd) (room_in_shaped sd hu) ⟨.bl _, H, I, rfl, q⟩
theorem units65 {k : Nat} {A : Around} (r : Room k A) : A.units + 65 < cLine := by
  have := r.un
  omega
end
section
variable {K : PySem.W.Frag} {H : Hp}
theorem DpAll.dropt : ∀ {xs : List V} {ds : List PyData} (n : Nat), DpAll K H xs ds → DpAll K H (xs.drop n) (ds.drop n)
  | _, _, 0, r => r
  | _, _, _ + 1, .nil => .nil
  | _, _, n + 1, .cons _ t => DpAll.dropt n t
theorem DpAll.taket : ∀ {xs : List V} {ds : List PyData} (n : Nat), DpAll K H xs ds → DpAll K H (xs.take n) (ds.take n)
  | _, _, 0, _ => .nil
  | _, _, _ + 1, .nil => .nil
  | _, _, n + 1, .cons r t => .cons r (DpAll.taket n t)
theorem DpAll.app : ∀ {xs ys : List V} {ds es : List PyData}, DpAll K H xs ds → DpAll K H ys es → DpAll K H (xs ++ ys) (ds ++ es)
  | _, _, _, _, .nil, r => r
  | _, _, _, _, .cons q t, r => .cons q (DpAll.app t r)
theorem DpAll.getV : ∀ {vs : List V} {ds : List PyData} {i : Nat} {v : V}, DpAll K H vs ds → vs[i]? = some v → ∃ d, ds[i]? = some d ∧ Dp K H v d
  | _, _, _, _, .nil, e => by simp at e
  | _, _, 0, _, .cons r _, e => by simp at e; subst e; exact ⟨_, rfl, r⟩
  | _, _, i + 1, _, .cons _ t, e => by
    obtain ⟨u, h1, h2⟩ := DpAll.getV (i := i) t (by simpa using e)
    exact ⟨u, by simpa using h1, h2⟩
end
/-- a part of a tuple, also the whole -/
theorem cut_nat (xs : List V) (i j : Nat) (h1 : i ≤ xs.length) (h2 : j ≤ xs.length) : cutV xs (some (i : Int)) (some (j : Int)) = (xs.drop i).take (j - i) := by
  unfold cutV
  rw [HT.sIx_nat, HT.sIx_nat, Nat.min_eq_left h1, Nat.min_eq_left h2]
theorem slA_nat {K : PySem.W.Frag} {H : Hp} {a : Addr} {xs : List V} {i j : Nat} {Q : VK} (hs : SqT K H a xs) (h1 : i ≤ xs.length) (h2 : j ≤ xs.length) (h : ∀ b H', Same H H' → SqT K H' b ((xs.drop i).take (j - i)) → (∀ c, H c = Option.none → c ≠ b → H' c = Option.none) → Q (.ref b) H') :
    rSlA K (.ref a) (some (i : Int)) (some (j : Int)) H Q := by
  refine ⟨a, xs, rfl, hs, fun z => ?_, fun z p np => ?_⟩
  · rw [HT.sIx_nat, HT.sIx_nat, Nat.min_eq_left h1, Nat.min_eq_left h2] at z
    refine h a H (Same.refl H) ?_ fun _ e _ => e
    rw [z.1, z.2, List.drop_zero, Nat.sub_zero, List.take_length]
    exact hs
  · rw [cut_nat xs i j h1 h2]
    exact h p _ (same_upd np) (SqT.of upd_same) fun c e hc => by rw [upd_ne hc]; exact e
theorem cat_dp {K : PySem.W.Frag} {H : Hp} {x y : V} {ds es : List PyData} {Q : VK} (hx : Dp K H x (.tuple ds)) (hy : Dp K H y (.tuple es)) (hne : ds ≠ []) (hz : ds.length + es.length ≤ 1000) (h : ∀ v H', Same H H' → Dp K H' v (.tuple (ds ++ es)) → Q v H') : rCatT K x y H Q := by
  cases hx with
  | @tup a xs _ sx ax =>
  cases hy with
  | @tup b ys _ sy ay =>
  have lx := DpAll.len ax
  have ly := DpAll.len ay
  refine ⟨a, b, xs, ys, rfl, rfl, sx, sy, fun z => ?_, small_of (by omega), fun z => ?_, fun z p np => ?_⟩
  · rw [z] at lx
    exact hne (List.eq_nil_of_length_eq_zero lx.symm)
  · subst z
    cases ay
    rw [List.append_nil] at h
    exact h _ H (Same.refl H) (.tup sx ax)
  · exact h _ _ (same_upd np) (.tup (SqT.of upd_same) (dp_sameAll (same_upd np) _ _ (DpAll.app ax ay)))
theorem cut_from1 (v : V) (xs : List V) : cutV (v :: xs) (some 1) Option.none = xs := by
  unfold cutV
  rw [show (some (1 : Int)) = some ((1 : Nat) : Int) from rfl, HT.sIx_nat, HT.sIx_none, List.length_cons, Nat.min_eq_left (by omega), List.drop_succ_cons, List.drop_zero, Nat.add_sub_cancel]
  exact List.take_length
section
variable {σ : L2.St} {H : Hp}
theorem args1 {t : TE} {ta : TA} {Q : List V → Hp → Prop} (h : t σ H fun x H1 => ta σ H1 fun xs H2 => Q (x :: xs) H2) : tCons t ta σ H Q := h
theorem tup_of {ta : TA} {Q : VK} (h : ta σ H fun xs H1 => xs.length ≤ sizeLine ∧ ∀ p, H1 p = Option.none → Q (.ref p) (upd H1 p (.tup xs))) : tTup ta σ H Q := h
theorem const_of {v : V} {Q : VK} (h : Q v H) : tC v σ H Q := h
theorem op_of {r : R2} {ta tb : TE} {Q : VK} (h : ta σ H fun x H1 => tb σ H1 fun y H2 => r x y H2 Q) : tOp r ta tb σ H Q := h
theorem nil_of {Q : List V → Hp → Prop} (h : Q [] H) : tNil σ H Q := h
end
section
variable {σ : L2.St} {H : Hp}
theorem call_of {sp : Sp} {dvs : List V} {E : XK} {t : TA} {Q : VK} (h : t σ H fun vs H1 => sp (vs ++ dvs) H1 Q E) : tCall sp dvs E t σ H Q := h
theorem args_and {r : R2} {sp : Sp} {dvs : List V} {E : XK} {t : TA} {tb tc : TE} {D : Ends} (h : t σ H fun vs H1 => sp (vs ++ dvs) H1 (fun x H1 => tb σ H1 fun y H2 => r x y H2 fun x H1 => ∃ c, x = .bl c ∧ if c = true then tc σ H1 D.rt else D.rt (.bl false) H1) E) : tRet (tAndV (tOp r (tCall sp dvs E t) tb) tc) D σ H := h
end
theorem relStr (x : Str) (t : Tok) : RelV (.str x) (.str x t) := ⟨_, rfl⟩
theorem relInt (i : Int) (t : Tok) : RelV (.int i) (.int i t) := ⟨_, rfl⟩
theorem relRef (a : Addr) : RelV (.ref a) (.ref a) := rfl
/-! ### a < b of data whose places are alike -/
section
variable {X : Cx}
def rLtD (K : PySem.W.Frag) : R2 := fun x y H Q => ∃ d e, Dp K H x d ∧ Dp K H y e ∧ PySem.W.alike d e = true ∧ d ≠ .none ∧ d.depth ≤ 8 ∧ Q (.bl (PySem.W.dataLt d e)) H
theorem op_ltD (hu : X.A.units + 64 < cLine) : OpR X (compareOp .Lt) (rLtD X.K) := by
  intro pins s σ H x y v u Q I rx ry h
  obtain ⟨d, e, hd, he, ha, hn, hz, q⟩ := h
  obtain ⟨as, r1⟩ := Dp.reads I d x v hd rx
  obtain ⟨bs, r2⟩ := Dp.reads I e y u he ry
  have R := PySem.W.rcLt_alike d e X.A s v u as bs r1 r2 ha hn (Nat.lt_of_le_of_lt (Nat.add_le_add_left (Nat.le_trans (Nat.min_le_left _ _) (Nat.le_trans hz (by decide : 8 ≤ 64))) _) hu)
  have z : wpAny (model X.prog X.w) X.A (compareOp .Lt v u) (EP X pins σ Q) X.xe s := R X.prog X.w X.xe (EP X pins σ Q) ⟨.bl _, H, I, rfl, q⟩
  exact z
end
/-! ### zip of two tuples -/
theorem walk_zipT {K : PySem.W.Frag} {a b : Addr} {xs ys : List V} {n : Nat} (hn : n = min xs.length ys.length) : Walk (RZ.ItzT K a b) n (fun H => SqT K H a xs ∧ SqT K H b ys) (YPair (fun i => xs[i]?) (fun i => ys[i]?)) := by
  subst hn
  refine ⟨fun i H hi q => ?_, fun H q => ⟨xs, ys, q.1, q.2, by omega⟩, fun i H v H' hi q y => ?_⟩
  · have h1 : i < xs.length := by omega
    have h2 : i < ys.length := by omega
    exact ⟨xs, ys, _, _, q.1, q.2, List.getElem?_eq_getElem h1, List.getElem?_eq_getElem h2⟩
  · obtain ⟨T, x, y, e1, e2, e3, e4, e5⟩ := y
    exact ⟨T, x, y, e1, e2, e3, e4 xs q.1, e5 ys q.2⟩
/-! ### () + t -/
section
open Builtin
theorem addE (l b : Addr) (xs ys : Array Value) (n k : Nat) (dd dd2 : Option Addr) (sl sl2 : Array (Option Value)) (he : xs.isEmpty = true) :
    Meets (Builtin.«tuple.__add__» ⟨[.ref l, .ref b], []⟩) (fun _ R s => s.heap.get? l = some { cls := .type "tuple", dict := dd, data := .seq xs n, slots := sl } ∧ s.heap.get? b = some { cls := .type "tuple", dict := dd2, data := .seq ys k, slots := sl2 } ∧ R (.ok (.ret (Value.ref b))) s) := by
  refine .of_wp fun prog w A R s h => ?_
  obtain ⟨hp, g, d, tk, os⟩ := s
  obtain ⟨ea, eb, q⟩ := h
  have i1 := AutoSeq1.idx_int
  have i2 := AutoSeq1.sub_tuple_tuple
  have i3 := AutoSeq1.sub_list_list
  have i4 := AutoSeq1.sub_tuple_list
  have i5 := AutoSeq1.sub_list_tuple
  wp_walk using AutoSeq1.wpAny_loadPart' ea, AutoSeq1.wpAny_loadPart' eb
  exact ⟨_, rfl, q⟩
end
section
variable {X : Cx}
def rCatA (K : PySem.W.Frag) : R2 := fun x y H Q => ∃ a b xs ys, x = .ref a ∧ y = .ref b ∧ SqT K H a xs ∧ SqT K H b ys ∧ xs.length + ys.length ≤ sizeLine ∧ (xs = [] → Q (.ref b) H) ∧ (ys = [] → Q (.ref a) H) ∧ ∀ p, H p = Option.none → Q (.ref p) (upd H p (.tup (xs ++ ys)))
theorem op_catA : OpR X (binaryOp .Add) (rCatA X.K) := by
  intro pins s σ H x y v u Q I rx ry h
  obtain ⟨a, b, xs, ys, rfl, rfl, ha, hb, hz, q1, q2, q3⟩ := h
  by_cases hx : xs = []
  · subst hx
    cases rx
    cases ry
    obtain ⟨its, r1, p1, _⟩ := I.tuple ha
    obtain ⟨its2, r2, p2, _⟩ := I.tuple hb
    cases r1
    obtain ⟨⟨oc, od, dt, sl⟩, e1, c1, n, d1⟩ := p1
    obtain ⟨⟨oc2, od2, dt2, sl2⟩, e2, c2, n2, d2⟩ := p2
    simp only at c1 d1 c2 d2
    subst c1 d1 c2 d2
    exact concat_meets ⟨_, e1, rfl⟩ ⟨_, e2, rfl⟩ noFill_tuple_add seq_tuple_add PySem.F.slot_tuple_add PySem.F.entry_tuple_add (PySem.F.args_tuple_add_2 _ _)
      (addE a b #[] its2.toArray n n2 od od2 sl sl2 rfl) ⟨e1, e2, ⟨.ref b, H, I, rfl, q1 rfl⟩⟩
  · exact op_catT pins s σ H (.ref a) (.ref b) v u Q I rx ry ⟨a, b, xs, ys, rfl, rfl, ha, hb, hx, hz, q2, fun _ p np => q3 p np⟩
end
section
variable {K : PySem.W.Frag} {G : Addr → Prop} {H : Hp}
theorem ImAll.dropt : ∀ {xs : List V} {ds : List PyData} (n : Nat), ImAll K G H xs ds → ImAll K G H (xs.drop n) (ds.drop n)
  | _, _, 0, r => r
  | _, _, _ + 1, .nil => .nil
  | _, _, n + 1, .cons _ t => ImAll.dropt n t
theorem ImAll.taket : ∀ {xs : List V} {ds : List PyData} (n : Nat), ImAll K G H xs ds → ImAll K G H (xs.take n) (ds.take n)
  | _, _, 0, _ => .nil
  | _, _, _ + 1, .nil => .nil
  | _, _, n + 1, .cons r t => .cons r (ImAll.taket n t)
theorem im_new {xs : List V} {ds : List PyData} {p : Addr} (np : H p = Option.none) (ia : ImAll K G H xs ds) : Im K (fun b => G b ∨ H b = Option.none) (upd H p (.tup xs)) (.ref p) (.tuple ds) :=
  .tup (.inr np) upd_same (Im.monoAll (fun b o _ e => same_upd np b o e) (fun _ g => .inl g) _ _ ia)
theorem im_cut {x : V} {ds es : List PyData} {lo hi : Option Int} {Q : VK} (iv : Im K G H x (.tuple ds)) (hc : ∀ xs : List V, ImAll K G H xs ds → ImAll K G H (cutV xs lo hi) es) (h : ∀ v H', Same H H' → (∀ b, G b ∨ H b = Option.none → G b ∨ H b = Option.none) → Im K (fun b => G b ∨ H b = Option.none) H' v (.tuple es) → Q v H') : rSlA K x lo hi H Q := by
  cases iv with
  | @tup a xs _ g e ia =>
  refine ⟨a, xs, rfl, SqT.of e, fun z => ?_, fun z p np => ?_⟩
  · have hw : cutV xs lo hi = xs := by
      unfold cutV
      rw [z.1, z.2, List.drop_zero, Nat.sub_zero, List.take_length]
    have := hc xs ia
    rw [hw] at this
    exact h _ H (Same.refl H) (fun _ q => q) (.tup (.inl g) e (Im.monoAll (fun _ _ _ e => e) (fun _ g => .inl g) _ _ this))
  · exact h _ _ (same_upd np) (fun _ q => q) (im_new np (hc xs ia))
theorem im_take {x : V} {ds : List PyData} {k : Nat} {Q : VK} (iv : Im K G H x (.tuple ds)) (hk : k ≤ ds.length) (h : ∀ v H', Same H H' → Im K (fun b => G b ∨ H b = Option.none) H' v (.tuple (ds.take k)) → Q v H') : rSlA K x Option.none (some (k : Int)) H Q :=
  im_cut iv (fun xs ia => by
    unfold cutV
    rw [HT.sIx_none, HT.sIx_nat, Nat.min_eq_left (by rw [ia.len]; exact hk), List.drop_zero, Nat.sub_zero]
    exact ImAll.taket _ ia) fun v H' s _ i => h v H' s i
theorem im_drop {x : V} {ds : List PyData} {k : Nat} {Q : VK} (iv : Im K G H x (.tuple ds)) (hk : k ≤ ds.length) (h : ∀ v H', Same H H' → Im K (fun b => G b ∨ H b = Option.none) H' v (.tuple (ds.drop k)) → Q v H') : rSlA K x (some (k : Int)) Option.none H Q :=
  im_cut iv (fun xs ia => by
    unfold cutV
    rw [HT.sIx_none, HT.sIx_nat, Nat.min_eq_left (by rw [ia.len]; exact hk), List.take_of_length_le (by rw [List.length_drop]; exact Nat.le_refl _)]
    exact ImAll.dropt _ ia) fun v H' s _ i => h v H' s i
theorem im_cat {x y : V} {ds es : List PyData} {Q : VK} (iv : Im K G H x (.tuple ds)) (iw : Im K G H y (.tuple es)) (hz : ds.length + es.length ≤ 1000) (h : ∀ v H', Same H H' → Im K (fun b => G b ∨ H b = Option.none) H' v (.tuple (ds ++ es)) → Q v H') : rCatA K x y H Q := by
  have w1 := Im.mono (G' := fun b => G b ∨ H b = Option.none) (fun _ _ _ e => e) (fun _ g => .inl g) _ _ iv
  have w2 := Im.mono (G' := fun b => G b ∨ H b = Option.none) (fun _ _ _ e => e) (fun _ g => .inl g) _ _ iw
  cases iv with
  | @tup a xs _ g e ia =>
  cases iw with
  | @tup b ys _ g2 e2 ib =>
  have l1 := ia.len
  have l2 := ib.len
  refine ⟨a, b, xs, ys, rfl, rfl, SqT.of e, SqT.of e2, small_of (by omega), fun z => ?_, fun z => ?_, fun p np => ?_⟩
  · subst z
    cases ia
    exact h _ H (Same.refl H) w2
  · subst z
    cases ib
    rw [List.append_nil] at h
    exact h _ H (Same.refl H) w1
  · exact h _ _ (same_upd np) (im_new np (ImAll.app ia ib))
end
end My

namespace My
open PySem PySem.Spec PyProof.Rows L2
/-! ### the text -/
def topS (i : Nat) : Stmt := PySem.Challenge.pw_hornbook_k00_goal_form.main.body.getD i (.Pass ⟨0, 0, 0, 0⟩)
abbrev s_is_symbol : Stmt := topS 1
abbrev N_is_symbol : List Str := ["node"]
theorem sc_is_symbol : FnScope N_is_symbol ["node"] (defScope s_is_symbol) := ⟨rfl, rfl, rfl, by decide +kernel, rfl, by decide +kernel, by decide +kernel⟩
abbrev s_arity_of : Stmt := topS 2
abbrev N_arity_of : List Str := ["node"]
theorem sc_arity_of : FnScope N_arity_of ["node"] (defScope s_arity_of) := ⟨rfl, rfl, rfl, by decide +kernel, rfl, by decide +kernel, by decide +kernel⟩
abbrev s_end_of : Stmt := topS 3
abbrev N_end_of : List Str := ["nodes", "start", "missing", "at"]
theorem sc_end_of : FnScope N_end_of ["nodes", "start"] (defScope s_end_of) := ⟨rfl, rfl, rfl, by decide +kernel, rfl, by decide +kernel, by decide +kernel⟩
abbrev s_goal_form : Stmt := topS 7
abbrev N_goal_form : List Str := ["term", "nodes", "at", "end"]
theorem sc_goal_form : FnScope N_goal_form ["term"] (defScope s_goal_form) := ⟨rfl, rfl, rfl, by decide +kernel, rfl, by decide +kernel, by decide +kernel⟩
abbrev s__law_stream : Stmt := topS 9
abbrev N__law_stream : List Str := ["script", "mixed", "cell"]
theorem sc__law_stream : FnScope N__law_stream ["script"] (defScope s__law_stream) := ⟨rfl, rfl, rfl, by decide +kernel, rfl, by decide +kernel, by decide +kernel⟩
abbrev s__law_draw : Stmt := topS 10
abbrev N__law_draw : List Str := ["stream", "many", "value"]
theorem sc__law_draw : FnScope N__law_draw ["stream", "many"] (defScope s__law_draw) := ⟨rfl, rfl, rfl, by decide +kernel, rfl, by decide +kernel, by decide +kernel⟩
abbrev s__law_name : Stmt := topS 11
abbrev N__law_name : List Str := ["stream", "names", "signs", "k"]
theorem sc__law_name : FnScope N__law_name ["stream"] (defScope s__law_name) := ⟨rfl, rfl, rfl, by decide +kernel, rfl, by decide +kernel, by decide +kernel⟩
abbrev s__law_leaf : Stmt := topS 12
abbrev N__law_leaf : List Str := ["stream", "widest", "pick"]
theorem sc__law_leaf : FnScope N__law_leaf ["stream", "widest"] (defScope s__law_leaf) := ⟨rfl, rfl, rfl, by decide +kernel, rfl, by decide +kernel, by decide +kernel⟩
abbrev s__law_term : Stmt := topS 13
abbrev N__law_term : List Str := ["stream", "size", "widest", "nodes", "missing", "room", "arity"]
theorem sc__law_term : FnScope N__law_term ["stream", "size", "widest"] (defScope s__law_term) := ⟨rfl, rfl, rfl, by decide +kernel, rfl, by decide +kernel, by decide +kernel⟩
abbrev s__law_end : Stmt := topS 14
abbrev N__law_end : List Str := ["term", "at", "missing", "node"]
theorem sc__law_end : FnScope N__law_end ["term", "at"] (defScope s__law_end) := ⟨rfl, rfl, rfl, by decide +kernel, rfl, by decide +kernel, by decide +kernel⟩
abbrev s__law_turned : Stmt := topS 15
abbrev N__law_turned : List Str := ["stream", "term", "nodes", "node"]
theorem sc__law_turned : FnScope N__law_turned ["stream", "term"] (defScope s__law_turned) := ⟨rfl, rfl, rfl, by decide +kernel, rfl, by decide +kernel, by decide +kernel⟩
abbrev s__law_form : Stmt := topS 16
abbrev N__law_form : List Str := ["term", "at", "goal", "node", "inner", "nodes", "k"]
theorem sc__law_form : FnScope N__law_form ["term", "at", "goal"] (defScope s__law_form) := ⟨rfl, rfl, rfl, by decide +kernel, rfl, by decide +kernel, by decide +kernel⟩
abbrev s_law : Stmt := topS 17
abbrev N_law : List Str := ["script", "stream", "term", "due"]
theorem sc_law : FnScope N_law ["script"] (defScope s_law) := ⟨rfl, rfl, rfl, by decide +kernel, rfl, by decide +kernel, by decide +kernel⟩
/-- names that the top leaves to the built-ins, and its constants -/
structure Bi (K : PySem.W.Frag) (mg : Str → Option Value) : Prop where
  b_abs : mg "abs" = Option.none
  b_int : mg "int" = Option.none
  b_isinstance : mg "isinstance" = Option.none
  b_len : mg "len" = Option.none
  b_list : mg "list" = Option.none
  b_min : mg "min" = Option.none
  b_range : mg "range" = Option.none
  b_tuple : mg "tuple" = Option.none
  c_CALL_SYMBOL : GC K mg "CALL_SYMBOL" (.tuple [.str "f", .str "call", .int (1)])
  c_GOAL_SYMBOLS : GC K mg "GOAL_SYMBOLS" (.tuple [.tuple [.str "f", .str ",", .int (2)], .tuple [.str "f", .str ";", .int (2)], .tuple [.str "f", .str "->", .int (2)], .tuple [.str "f", .str "\\+", .int (1)]])

/-! ### names, nodes, terms -/
def okSign (c : Nat) : Bool := decide (32 ≤ c) && decide (c ≤ 126) && !decide (c = 37)
def okName (x : Str) : Bool := decide (1 ≤ x.length) && decide (x.length ≤ 40) && x.cps.toList.all okSign
def names20 : List Str := ["a", "b", "f", "g", "hello", "[]", "+", "-", ",", "it's", "X", "a b", "{}", ".", "=", "'", "aB_1", "!", "0", "lvjkuwnd"]
def signs : Str := (Str.ofString " !\"#$&'()*+,-./0123456789:;<=>?@ABCDEFGHIJKLMNOPQRSTUVWXYZ[\\]^_`") ++ (Str.ofString "abcdefghijklmnopqrstuvwxyz{|}~")
theorem names20_ok : names20.all okName = true := by decide +kernel
theorem signs_ok : signs.cps.toList.all okSign = true := by decide +kernel
theorem signs_len : signs.length = 94 := by decide +kernel
theorem join_ones (e : Str) (he : e.cps = #[]) : ∀ cs : List Nat, (Str.join e (cs.map fun c => ⟨#[c]⟩)).cps.toList = cs
  | [] => rfl
  | [c] => rfl
  | c :: d :: r => by
    have ih := join_ones e he (d :: r)
    show ((⟨#[c]⟩ : Str) ++ e ++ Str.join e ((d :: r).map fun c => (⟨#[c]⟩ : Str))).cps.toList = c :: d :: r
    show (#[c] ++ e.cps ++ (Str.join e ((d :: r).map fun c => (⟨#[c]⟩ : Str))).cps).toList = c :: d :: r
    rw [he, Array.toList_append, ih]
    rfl
inductive Nd (wd : Int) : PyData → Prop
  | v (n : Int) : 0 ≤ n → n < wd → Nd wd (.tuple [.str "v", .int n])
  | i (n : Int) : -(10 ^ 40) < n → n < 10 ^ 40 → Nd wd (.int n)
  | f (x : Str) (n : Int) : okName x = true → 0 ≤ n → n ≤ 8 → Nd wd (.tuple [.str "f", .str x, .int n])
def arN : PyData → Nat
  | .tuple [_, _, c] => (match c with | .int n => n.toNat | _ => 0) | _ => 0
/-- from m missing terms on, the nodes are just these terms -/
def Cls : Nat → List PyData → Prop
  | m, [] => m = 0
  | m, d :: r => 0 < m ∧ Cls (m - 1 + arN d) r
structure Term (wd : Int) (ds : List PyData) : Prop where
  cl : Cls 1 ds
  nd : ∀ d ∈ ds, Nd wd d
/-! ### the promises -/
def sp__law_stream (K : PySem.W.Frag) : Sp := fun vs H Q _ => ∃ (a : Addr) (ns : List Int), vs = [.ref a] ∧ SqL K H a (ns.map V.int) ∧ ns.length ≤ 63 ∧ ∀ s l H', H s = Option.none → H l = Option.none → Same H H' → Stm H' s l → Q (.ref s) H'
def sp__law_draw (K : PySem.W.Frag) : Sp := fun vs H Q _ => ∃ (s l : Addr) (n : Int), vs = [.ref s, .int n] ∧ Stm H s l ∧ 0 < n ∧ n.natAbs < 2 ^ 9000 ∧ ∀ r H', 0 ≤ r → r < n → But s H H' → Stm H' s l → Q (.int r) H'
def sp__law_name (K : PySem.W.Frag) : Sp := fun vs H Q _ => ∃ s l, vs = [.ref s] ∧ Stm H s l ∧ ∀ x H', okName x = true → But s H H' → Stm H' s l → Q (.str x) H'
def sp__law_leaf (K : PySem.W.Frag) : Sp := fun vs H Q _ => ∃ (s l : Addr) (wd : Int), vs = [.ref s, .int wd] ∧ Stm H s l ∧ 0 < wd ∧ wd ≤ 1000 ∧ ∀ v d H', Nd wd d → arN d = 0 → But s H H' → Stm H' s l → Im K (fun b => H b = Option.none) H' v d → Q v H'
def sp__law_term (K : PySem.W.Frag) : Sp := fun vs H Q _ => ∃ (s l : Addr) (n wd : Int), vs = [.ref s, .int n, .int wd] ∧ Stm H s l ∧ 0 < n ∧ n ≤ 1000 ∧ 0 < wd ∧ wd ≤ 1000 ∧
  ∀ v ds H', Term wd ds → (ds.length : Int) ≤ n → But s H H' → Stm H' s l → Im K (fun b => H b = Option.none) H' v (.tuple ds) → Q v H'
/-! ### goal forms -/
def callN : PyData := .tuple [.str "f", .str "call", .int 1]
def gsyms : List PyData := [.tuple [.str "f", .str ",", .int 2], .tuple [.str "f", .str ";", .int 2], .tuple [.str "f", .str "->", .int 2], .tuple [.str "f", .str "\\+", .int 1]]
def lsyms : List PyData := [.tuple [.str ",", .int 2], .tuple [.str ";", .int 2], .tuple [.str "->", .int 2], .tuple [.str "\\+", .int 1]]
def isSymN : PyData → Bool
  | .tuple [_, _, _] => true | _ => false
def isGoal (d : PyData) : Bool := gsyms.any fun y => PyData.eqv y d
def NdA (d : PyData) : Prop := ∃ wd, Nd wd d
/-- how many nodes m terms take -/
def tk : Nat → List PyData → Nat
  | _, [] => 0
  | m, d :: r => if m = 0 then 0 else 1 + tk (m - 1 + arN d) r
/-- the goal form; the list says of each term that is still missing whether it is a goal -/
def form : List Bool → List PyData → List PyData
  | [], _ => []
  | _, [] => []
  | g :: st, d :: r => if isSymN d then d :: form (List.replicate (arN d) (g && isGoal d) ++ st) r else if g then callN :: d :: form st r else d :: form st r
theorem form_nil (st : List Bool) : form st [] = [] := by cases st <;> rfl
theorem tk_zero (l : List PyData) : tk 0 l = 0 := by
  cases l with
  | nil => rfl
  | cons d r => exact if_pos rfl
theorem tk_cons {m : Nat} (h : 0 < m) (d : PyData) (r : List PyData) : tk m (d :: r) = 1 + tk (m - 1 + arN d) r := if_neg (by omega)
theorem arN_nsym {d : PyData} (h : isSymN d = false) : arN d = 0 := by
  cases d with
  | tuple ds =>
    rcases ds with _ | ⟨a, _ | ⟨b, _ | ⟨c, _ | ⟨e, r⟩⟩⟩⟩
    · rfl
    · rfl
    · rfl
    · cases h
    · rfl
  | _ => rfl
theorem tk_le : ∀ (l : List PyData) (m : Nat), tk m l ≤ l.length
  | [], _ => Nat.le_refl 0
  | d :: r, m => by
    by_cases h : m = 0
    · subst h; rw [tk_zero]; exact Nat.zero_le _
    · rw [tk_cons (by omega)]
      have := tk_le r (m - 1 + arN d)
      rw [List.length_cons]
      omega
theorem tk_add : ∀ (l : List PyData) (j m : Nat), tk (j + m) l = tk j l + tk m (l.drop (tk j l))
  | [], j, m => by simp [tk]
  | d :: r, j, m => by
    by_cases h : j = 0
    · subst h
      rw [tk_zero, Nat.zero_add, Nat.zero_add, List.drop_zero]
    · rw [tk_cons (by omega), tk_cons (m := j) (by omega), show j + m - 1 + arN d = (j - 1 + arN d) + m by omega, tk_add r (j - 1 + arN d) m]
      rw [show 1 + tk (j - 1 + arN d) r = tk (j - 1 + arN d) r + 1 by omega, List.drop_succ_cons]
      omega
/-- the rest of what is closed is closed -/
theorem cls_drop : ∀ (l : List PyData) (k j : Nat), Cls k l → j ≤ k → Cls (k - j) (l.drop (tk j l))
  | [], k, j, h, hj => by
    have hk : k = 0 := h
    rw [List.drop_nil]
    show k - j = 0
    omega
  | d :: r, k, j, h, hj => by
    by_cases z : j = 0
    · subst z
      rw [tk_zero]
      exact h
    · rw [tk_cons (by omega), show 1 + tk (j - 1 + arN d) r = tk (j - 1 + arN d) r + 1 by omega, List.drop_succ_cons]
      have := cls_drop r (k - 1 + arN d) (j - 1 + arN d) h.2 (by omega)
      rwa [show k - 1 + arN d - (j - 1 + arN d) = k - j by omega] at this
theorem cls_take : ∀ (l : List PyData) (k j : Nat), Cls k l → j ≤ k → Cls j (l.take (tk j l))
  | [], k, j, h, hj => by
    have hk : k = 0 := h
    rw [List.take_nil]
    show j = 0
    omega
  | d :: r, k, j, h, hj => by
    by_cases z : j = 0
    · subst z
      rw [tk_zero]
      rfl
    · rw [tk_cons (by omega), show 1 + tk (j - 1 + arN d) r = tk (j - 1 + arN d) r + 1 by omega, List.take_succ_cons]
      exact ⟨by omega, cls_take r (k - 1 + arN d) (j - 1 + arN d) h.2 (by omega)⟩
theorem tk_take : ∀ (l : List PyData) (i j : Nat), i ≤ j → tk i (l.take (tk j l)) = tk i l
  | [], i, j, _ => by rw [List.take_nil]
  | d :: r, i, j, h => by
    by_cases z : i = 0
    · subst z
      rw [tk_zero, tk_zero]
    · rw [tk_cons (m := j) (by omega), show 1 + tk (j - 1 + arN d) r = tk (j - 1 + arN d) r + 1 by omega, List.take_succ_cons, tk_cons (by omega), tk_cons (by omega), tk_take r _ _ (by omega)]
theorem form_app : ∀ (l : List PyData) (s1 s2 : List Bool) (k : Nat), Cls k l → s1.length ≤ k → form (s1 ++ s2) l = form s1 (l.take (tk s1.length l)) ++ form s2 (l.drop (tk s1.length l))
  | [], s1, s2, k, h, hk => by rw [form_nil, List.take_nil, List.drop_nil, form_nil, form_nil]; rfl
  | d :: r, [], s2, k, h, hk => by
    show form s2 (d :: r) = form [] _ ++ form s2 ((d :: r).drop (tk 0 (d :: r)))
    rw [tk_zero]
    rfl
  | d :: r, g :: s1, s2, k, h, hk => by
    have e1 : tk (g :: s1).length (d :: r) = tk (s1.length + arN d) r + 1 := by
      rw [tk_cons (by simp), List.length_cons, Nat.add_sub_cancel]
      omega
    rw [e1, List.take_succ_cons, List.drop_succ_cons]
    rw [List.length_cons] at hk
    show (if isSymN d then d :: form (List.replicate (arN d) (g && isGoal d) ++ (s1 ++ s2)) r else if g then callN :: d :: form (s1 ++ s2) r else d :: form (s1 ++ s2) r) =
      (if isSymN d then d :: form (List.replicate (arN d) (g && isGoal d) ++ s1) (r.take (tk (s1.length + arN d) r)) else if g then callN :: d :: form s1 (r.take (tk (s1.length + arN d) r)) else d :: form s1 (r.take (tk (s1.length + arN d) r))) ++ _
    by_cases hs : isSymN d = true
    · rw [if_pos hs, if_pos hs]
      have ih := form_app r (List.replicate (arN d) (g && isGoal d) ++ s1) s2 (k - 1 + arN d) h.2 (by rw [List.length_append, List.length_replicate]; omega)
      rw [List.append_assoc, List.length_append, List.length_replicate, Nat.add_comm (arN d) s1.length] at ih
      rw [ih]
      rfl
    · rw [if_neg hs, if_neg hs]
      have ha := arN_nsym (Bool.eq_false_iff.mpr hs)
      have ih := form_app r s1 s2 (k - 1 + arN d) h.2 (by omega)
      rw [ha, Nat.add_zero]
      cases g with
      | true =>
        rw [if_pos rfl, if_pos rfl, ih]
        rfl
      | false =>
        rw [if_neg Bool.false_ne_true, if_neg Bool.false_ne_true, ih]
        rfl
/-- what is no goal stays -/
theorem form_false : ∀ (l : List PyData) (j : Nat), form (List.replicate j false) (l.take (tk j l)) = l.take (tk j l)
  | [], j => by rw [List.take_nil, form_nil]
  | d :: r, j => by
    cases j with
    | zero => rw [tk_zero]; rfl
    | succ j =>
      rw [tk_cons (by omega), show 1 + tk (j + 1 - 1 + arN d) r = tk (arN d + j) r + 1 by rw [Nat.add_sub_cancel, Nat.add_comm j]; omega, List.take_succ_cons, List.replicate_succ]
      show (if isSymN d then d :: form (List.replicate (arN d) (false && isGoal d) ++ List.replicate j false) _ else if false then _ else d :: form (List.replicate j false) _) = _
      by_cases hs : isSymN d = true
      · rw [if_pos hs, Bool.false_and, List.replicate_append_replicate, form_false r (arN d + j)]
      · have ha := arN_nsym (Bool.eq_false_iff.mpr hs)
        rw [if_neg hs, ha, Nat.zero_add, if_neg Bool.false_ne_true, form_false r j]
theorem call_goal : isGoal callN = false := by decide +kernel
theorem form_twice : ∀ (l : List PyData) (st : List Bool), form st (form st l) = form st l
  | [], st => by rw [form_nil, form_nil]
  | d :: r, [] => rfl
  | d :: r, g :: st => by
    show form (g :: st) (if isSymN d then d :: form (List.replicate (arN d) (g && isGoal d) ++ st) r else if g then callN :: d :: form st r else d :: form st r) = (if isSymN d then d :: form (List.replicate (arN d) (g && isGoal d) ++ st) r else if g then callN :: d :: form st r else d :: form st r)
    by_cases hs : isSymN d = true
    · rw [if_pos hs]
      show (if isSymN d then d :: form (List.replicate (arN d) (g && isGoal d) ++ st) _ else _) = _
      rw [if_pos hs, form_twice r]
    · rw [if_neg hs]
      cases g with
      | true =>
        rw [if_pos rfl]
        show (if isSymN callN then callN :: form (List.replicate 1 (true && isGoal callN) ++ st) (d :: form st r) else _) = _
        rw [if_pos (show isSymN callN = true from rfl), call_goal]
        show callN :: (if isSymN d then _ else if false then _ else d :: form st (form st r)) = _
        rw [if_neg hs, if_neg Bool.false_ne_true, form_twice r]
      | false =>
        rw [if_neg Bool.false_ne_true]
        show (if isSymN d then _ else if false then _ else d :: form st (form st r)) = _
        rw [if_neg hs, if_neg Bool.false_ne_true, form_twice r]
theorem form_cls : ∀ (l : List PyData) (st : List Bool), Cls st.length l → Cls st.length (form st l)
  | [], st, h => by
    have e : st.length = 0 := h
    rw [form_nil]
    exact e
  | d :: r, [], h => absurd h.1 (Nat.lt_irrefl 0)
  | d :: r, g :: st, h => by
    have h2 : Cls (st.length + arN d) r := by
      have := h.2
      rwa [List.length_cons, Nat.add_sub_cancel] at this
    show Cls (g :: st).length (if isSymN d then d :: form (List.replicate (arN d) (g && isGoal d) ++ st) r else if g then callN :: d :: form st r else d :: form st r)
    by_cases hs : isSymN d = true
    · rw [if_pos hs]
      have ih := form_cls r (List.replicate (arN d) (g && isGoal d) ++ st) (by rw [List.length_append, List.length_replicate, Nat.add_comm]; exact h2)
      rw [List.length_append, List.length_replicate, Nat.add_comm] at ih
      exact ⟨by simp, by rw [List.length_cons, Nat.add_sub_cancel]; exact ih⟩
    · have ha := arN_nsym (Bool.eq_false_iff.mpr hs)
      rw [ha, Nat.add_zero] at h2
      have ih := form_cls r st h2
      rw [if_neg hs]
      cases g with
      | true =>
        rw [if_pos rfl]
        refine ⟨by simp, ?_⟩
        show Cls (st.length + 1 - 1 + 1) (d :: form st r)
        exact ⟨by omega, by rw [ha, Nat.add_sub_cancel, Nat.add_sub_cancel]; exact ih⟩
      | false =>
        rw [if_neg Bool.false_ne_true]
        exact ⟨by simp, by rw [ha, List.length_cons, Nat.add_sub_cancel]; exact ih⟩
theorem form_len : ∀ (l : List PyData) (st : List Bool), (form st l).length ≤ 2 * l.length
  | [], st => by rw [form_nil]; exact Nat.le_refl 0
  | d :: r, [] => Nat.zero_le _
  | d :: r, g :: st => by
    show (if isSymN d then d :: form (List.replicate (arN d) (g && isGoal d) ++ st) r else if g then callN :: d :: form st r else d :: form st r).length ≤ _
    have h1 := form_len r (List.replicate (arN d) (g && isGoal d) ++ st)
    have h2 := form_len r st
    split
    · simp only [List.length_cons]; omega
    · split <;> (simp only [List.length_cons]; omega)
theorem call_nd : NdA callN := ⟨0, .f "call" 1 (by decide +kernel) (by decide) (by decide)⟩
theorem form_nd : ∀ (l : List PyData) (st : List Bool), (∀ d ∈ l, NdA d) → ∀ d ∈ form st l, NdA d
  | [], st, _, d, h => by rw [form_nil] at h; cases h
  | _ :: _, [], _, d, h => by cases h
  | e :: r, g :: st, hl, d, h => by
    have he := hl e List.mem_cons_self
    have hr : ∀ d ∈ r, NdA d := fun d hd => hl d (List.mem_cons_of_mem _ hd)
    have h' : d ∈ (if isSymN e then e :: form (List.replicate (arN e) (g && isGoal e) ++ st) r else if g then callN :: e :: form st r else e :: form st r) := h
    split at h'
    · rcases List.mem_cons.mp h' with z | z
      · rw [z]; exact he
      · exact form_nd r _ hr d z
    · split at h'
      · rcases List.mem_cons.mp h' with z | z
        · rw [z]; exact call_nd
        · rcases List.mem_cons.mp z with z | z
          · rw [z]; exact he
          · exact form_nd r _ hr d z
      · rcases List.mem_cons.mp h' with z | z
        · rw [z]; exact he
        · exact form_nd r _ hr d z
theorem goal_eq (y : Str) (n : Int) : (lsyms.any fun z => PyData.eqv z (.tuple [.str y, .int n])) = isGoal (.tuple [.str "f", .str y, .int n]) := by
  unfold isGoal lsyms gsyms
  simp only [List.any_cons, List.any_nil, PyData.eqv, PyData.eqvAll, beq_self_eq_true, Bool.true_and]
theorem form_sym {d : PyData} (h : isSymN d = true) (g : Bool) (r : List PyData) : form [g] ((d :: r).take (tk 1 (d :: r))) = d :: form (List.replicate (arN d) (g && isGoal d)) (r.take (tk (arN d) r)) := by
  rw [tk_cons (by omega), show 1 + tk (1 - 1 + arN d) r = tk (arN d) r + 1 by rw [show 1 - 1 + arN d = arN d by omega]; omega, List.take_succ_cons]
  show (if isSymN d then d :: form (List.replicate (arN d) (g && isGoal d) ++ []) _ else _) = _
  rw [if_pos h, List.append_nil]
theorem form_nsym {d : PyData} (h : isSymN d = false) (g : Bool) (r : List PyData) : form [g] ((d :: r).take (tk 1 (d :: r))) = if g then [callN, d] else [d] := by
  rw [tk_cons (by omega), arN_nsym h, show 1 - 1 + 0 = 0 by rfl, tk_zero, show 1 + 0 = 0 + 1 by rfl, List.take_succ_cons, List.take_zero]
  show (if isSymN d then _ else if g then callN :: d :: form [] [] else d :: form [] []) = _
  rw [if_neg (by rw [h]; exact Bool.false_ne_true)]
  rfl
/-! ### nodes can be compared -/
theorem okName_cps {x : Str} (h : okName x = true) : PyData.strOk x = true := by
  unfold okName at h
  rw [Bool.and_eq_true] at h
  unfold PyData.strOk
  rw [← Array.all_toList]
  refine List.all_eq_true.mpr fun c hc => ?_
  have := List.all_eq_true.mp h.2 c hc
  unfold okSign at this
  simp only [Bool.and_eq_true, decide_eq_true_eq] at this
  exact decide_eq_true (by omega)
theorem nd_lay {d : PyData} (h : NdA d) : d.canLay0 = true ∧ d.depth ≤ 1 ∧ d.eqv d = true := by
  obtain ⟨wd, h⟩ := h
  cases h with
  | v n _ _ => exact ⟨by simp only [PyData.canLay0, PyData.canLayAll0]; decide +kernel, by simp [PyData.depth, PyData.depthAll], by simp only [PyData.eqv, PyData.eqvAll, beq_self_eq_true, Bool.and_self]⟩
  | i n _ _ => exact ⟨by simp only [PyData.canLay0], by simp [PyData.depth], by simp only [PyData.eqv, beq_self_eq_true]⟩
  | f x n hx _ _ => exact ⟨by simp only [PyData.canLay0, PyData.canLayAll0]; rw [okName_cps hx]; decide +kernel, by simp [PyData.depth, PyData.depthAll], by simp only [PyData.eqv, PyData.eqvAll, beq_self_eq_true, Bool.and_self]⟩
theorem nds_lay : ∀ {ds : List PyData}, (∀ d ∈ ds, NdA d) → PyData.canLayAll0 ds = true ∧ PyData.depthAll ds ≤ 1 ∧ PyData.eqvAll ds ds = true
  | [], _ => ⟨by simp only [PyData.canLayAll0], by simp [PyData.depthAll], by simp only [PyData.eqvAll]⟩
  | d :: r, h => by
    obtain ⟨a1, a2, a3⟩ := nd_lay (h d List.mem_cons_self)
    obtain ⟨b1, b2, b3⟩ := nds_lay (ds := r) fun e he => h e (List.mem_cons_of_mem _ he)
    refine ⟨by simp only [PyData.canLayAll0, a1, b1, Bool.and_self], ?_, by simp only [PyData.eqvAll, a3, b3, Bool.and_self]⟩
    simp only [PyData.depthAll]
    omega
theorem nd_shaped {d : PyData} (h : NdA d) : SeqAt.shaped d = true := by
  obtain ⟨a1, a2, _⟩ := nd_lay h
  show (d.canLay0 && decide (d.depth ≤ 64)) = true
  rw [a1, decide_eq_true (by omega)]
  rfl
theorem tup_shaped {ds : List PyData} (h : ∀ d ∈ ds, NdA d) : SeqAt.shaped (.tuple ds) = true := by
  obtain ⟨a1, a2, _⟩ := nds_lay h
  have hd : (PyData.tuple ds).depth ≤ 64 := by
    simp only [PyData.depth]
    omega
  have hc : (PyData.tuple ds).canLay0 = true := by
    simp only [PyData.canLay0]
    exact a1
  show ((PyData.tuple ds).canLay0 && decide ((PyData.tuple ds).depth ≤ 64)) = true
  rw [hc, decide_eq_true hd]
  rfl
theorem tup_eqv {ds : List PyData} (h : ∀ d ∈ ds, NdA d) : PyData.eqv (.tuple ds) (.tuple ds) = true := by
  simp only [PyData.eqv]
  exact (nds_lay h).2.2
theorem form_more (r : List PyData) (j k : Nat) (b : Bool) (h : Cls k r) (hj : j + 1 ≤ k) : form (List.replicate (j + 1) b) (r.take (tk (j + 1) r)) = form (List.replicate j b) (r.take (tk j r)) ++ form [b] ((r.drop (tk j r)).take (tk 1 (r.drop (tk j r)))) := by
  have e := form_app (r.take (tk (j + 1) r)) (List.replicate j b) [b] (j + 1) (cls_take r k (j + 1) h hj) (by rw [List.length_replicate]; omega)
  rw [List.length_replicate] at e
  have e2 : List.replicate (j + 1) b = List.replicate j b ++ [b] := by
    rw [show [b] = List.replicate 1 b from rfl, List.replicate_append_replicate]
  rw [e2, e, tk_take r j (j + 1) (by omega), List.take_take, Nat.min_eq_left (by rw [tk_add r j 1]; omega), List.drop_take, tk_add r j 1, Nat.add_sub_cancel_left]
theorem take_full : ∀ (l : List PyData) (k : Nat), Cls k l → l.take (tk k l) = l
  | [], _, _ => List.take_nil
  | d :: r, k, h => by
    rw [tk_cons h.1, show 1 + tk (k - 1 + arN d) r = tk (k - 1 + arN d) r + 1 by omega, List.take_succ_cons, take_full r _ h.2]
theorem cls_map : ∀ (ds es : List PyData) (m : Nat), es.map arN = ds.map arN → Cls m ds → Cls m es
  | [], [], m, _, h => h
  | [], e :: es, m, h, _ => by cases h
  | d :: ds, [], m, h, _ => by cases h
  | d :: ds, e :: es, m, h, hc => by
    rw [List.map_cons, List.map_cons] at h
    obtain ⟨h1, h2⟩ := List.cons.inj h
    exact ⟨hc.1, by rw [h1]; exact cls_map ds es _ h2 hc.2⟩
theorem tail_shaped {y : Str} {n : Int} (h : NdA (.tuple [.str "f", .str y, .int n])) : SeqAt.shaped (.tuple [.str y, .int n]) = true := by
  obtain ⟨wd, h⟩ := h
  cases h with
  | f _ _ hx _ _ =>
    have h1 : (PyData.tuple [.str y, .int n]).canLay0 = true := by
      simp only [PyData.canLay0, PyData.canLayAll0]
      rw [okName_cps hx]
      rfl
    have h2 : (PyData.tuple [.str y, .int n]).depth ≤ 64 := by simp [PyData.depth, PyData.depthAll]
    show (_ && _) = true
    rw [h1, decide_eq_true h2]
    rfl
/-! ### the promises -/
def sp_is_symbol (K : PySem.W.Frag) : Sp := fun vs H Q _ => ∃ (x : V) (d : PyData), vs = [x] ∧ Dp K H x d ∧ NdA d ∧ Q (.bl (isSymN d)) H
def sp_arity_of (K : PySem.W.Frag) : Sp := fun vs H Q _ => ∃ (x : V) (d : PyData), vs = [x] ∧ Dp K H x d ∧ NdA d ∧ Q (.int (arN d)) H
def sp_end_of (K : PySem.W.Frag) : Sp := fun vs H Q _ => ∃ (x : V) (ds : List PyData) (i k : Nat), vs = [x, .int i] ∧ Dp K H x (.tuple ds) ∧ (∀ d ∈ ds, NdA d) ∧ Cls (k + 1) (ds.drop i) ∧ Q (.int ((i + tk 1 (ds.drop i) : Nat) : Int)) H
def sp_goal_form (K : PySem.W.Frag) : Sp := fun vs H Q _ => ∃ (x : V) (ds : List PyData), vs = [x] ∧ Dp K H x (.tuple ds) ∧ (∀ d ∈ ds, NdA d) ∧ Cls 1 ds ∧ ds.length ≤ 400 ∧ ∀ v H', Same H H' → Dp K H' v (.tuple (form [true] ds)) → Q v H'
def sp__law_end (K : PySem.W.Frag) : Sp := sp_end_of K
def sp__law_turned (K : PySem.W.Frag) : Sp := fun vs H Q _ => ∃ (s l : Addr) (v : V) (ds : List PyData) (wd : Int), vs = [.ref s, v] ∧ Stm H s l ∧ Im K (fun b => b ≠ s) H v (.tuple ds) ∧ Term wd ds ∧ ds.length ≤ 400 ∧
  ∀ v' ds' H', Term wd ds' → ds'.length = ds.length → But s H H' → Stm H' s l → Dp K H' v' (.tuple ds') → Q v' H'
def sp__law_formN (K : PySem.W.Frag) (n : Nat) : Sp := fun vs H Q _ => ∃ (x : V) (ds : List PyData) (i k : Nat) (g : Bool), vs = [x, .int i, .bl g] ∧ Dp K H x (.tuple ds) ∧ (∀ d ∈ ds, NdA d) ∧ Cls (k + 1) (ds.drop i) ∧ ds.length < i + n ∧ ds.length ≤ 400 ∧
  ∀ v H', Same H H' → Dp K H' v (.tuple (form [g] ((ds.drop i).take (tk 1 (ds.drop i))))) → Q v H'
def sp__law_form (K : PySem.W.Frag) : Sp := sp__law_formN K 41
def sp_law (K : PySem.W.Frag) : Sp := fun vs H Q _ => ∃ (a : Addr) (ns : List Int), vs = [.ref a] ∧ SqL K H a (ns.map V.int) ∧ ns.length ≤ 63 ∧ ∀ H', Q (.bl true) H'

local macro_rules | `(tactic| walk_at "lits") => `(tactic| repeat' (first | exact lit_int | exact lit_str | exact lit_bl | exact lit_non | exact litA_nil | refine litA_cons ?_ ?_ | refine lit_tup ?_ (by decide) | refine lit_lst ?_ (by decide) | refine lit_neg ?_ | refine lit_sub ?_ ?_ | refine lit_pow ?_ ?_ ⟨by decide, by decide, by decide⟩ | refine lit_mulS ?_ ?_ ⟨by decide, by decide, by decide⟩))
section
variable {P : Program} {w : World} {K : PySem.W.Frag} {mg : Str → Option Value} {base : Heap}
theorem ok_is_symbol {f : Addr} {fd : FuncData} (F : Fun K "is_symbol" "is_symbol" s_is_symbol f fd) (E : Bi K mg)  : FnOk P w K mg base CX0 1 f fd ["node"] (sp_is_symbol K) := by
  refine F.ok sc_is_symbol (fun vs H Q E h => ?_) (fun cdv A outer s H vs Q E' hr h => ?_)
  · obtain ⟨x, d, rfl, _⟩ := h
    rfl
  · obtain ⟨x, d, rfl, hd, ⟨wd, nd⟩, q⟩ := h
    refine ⟨_, (pss_one (ps_ret (pe_and (pe_callB call_isi (by rfl) E.b_isinstance (by decide +kernel) (pa_cons (pv 0) (pa_cons (pe_ty "tuple" (by rfl) E.b_tuple (by decide +kernel)) pa_nil))) (pe_one (pe_cmpR op_eq (pe_ix ix_tup (pv 0) pe_int (fun _ _ => rfl)) pe_str (nomark _)))))), ?_⟩
    refine ⟨x, rfl, _, _, _, _, _, rfl, .ty _, tyx_of hd, kit_ty (kitT _), _, rfl, ?_⟩
    cases nd with
    | v n h1 h2 =>
      cases hd with
      | tup hs ha =>
        obtain ⟨v, hv, hdv⟩ := DpAll.get (i := 0) ha rfl
        cases hdv
        refine iteT ⟨_, rfl, _, _, _, _, rfl, rfl, hs, atI_nat (j := 0) hv, rfl, ?_⟩
        rw [show decide (V.str (Str.ofString "v") = V.str (Str.ofString "f")) = false by decide +kernel]
        exact q
    | i n h1 h2 => exact iteF q
    | f y n h1 h2 h3 =>
      cases hd with
      | tup hs ha =>
        obtain ⟨v, hv, hdv⟩ := DpAll.get (i := 0) ha rfl
        cases hdv
        refine iteT ⟨_, rfl, _, _, _, _, rfl, rfl, hs, atI_nat (j := 0) hv, rfl, ?_⟩
        rw [decide_eq_true rfl]
        exact q

theorem ok__law_stream {f : Addr} {fd : FuncData} (F : Fun K "_law_stream" "_law_stream" s__law_stream f fd) (E : Bi K mg)  : FnOk P w K mg base CX0 1 f fd ["script"] (sp__law_stream K) := by
  refine F.ok sc__law_stream (fun vs H Q E h => ?_) (fun cdv A outer s H vs Q E' hr h => ?_)
  · obtain ⟨a, ns, rfl, _⟩ := h
    rfl
  · obtain ⟨a, ns, rfl, hS, hl, q⟩ := h
    refine ⟨_, (pss_cons (ps_set (i := 1) sc__law_stream.nd rfl (Or.inl rfl) pe_int)
      (pss_cons (ps_for PassesOwn.never rfl (pi_list (pv 0)) (pg_name (i := 2) sc__law_stream.nd rfl (Or.inl rfl)) (pss_one (ps_set (i := 1) sc__law_stream.nd rfl (Or.inl rfl) (pe_op op_mod (pe_callTy call_int1 (by rfl) E.b_int (by decide +kernel) (pa_cons (pe_op op_add (pe_op op_add (pe_op op_mul (pv 1) pe_int) (pe_op op_mod (pe_callTy call_int1 (by rfl) E.b_int (by decide +kernel) (pa_cons (pv 2) pa_nil)) pe_int)) pe_int) pa_nil)) pe_int))))
      (pss_one (ps_ret (pe_lst (pa_cons (pe_callTy call_list_of (by rfl) E.b_list (by decide +kernel) (pa_cons (pv 0) pa_nil)) (pa_cons pe_int (pa_cons pe_int (pa_cons (pv 1) pa_nil))))))))), ?_⟩
    refine ⟨_, rfl, a, rfl, ⟨_, hS⟩, for_list (K := K) (a := a) (xs := ns.map V.int) (fun i σ H1 => ∃ (m : Int) (v : Option V), σ = [some (.ref a), some (.int m), v] ∧ H1 = H ∧ 0 ≤ m ∧ m < 2147483647)
      ⟨17, none, rfl, rfl, by decide, by decide⟩ (fun i σ H1 _ ⟨_, _, _, e, _⟩ => by rw [e]; exact hS) ?_ ?_⟩
    · rintro i y σ H1 hi ⟨m, v, rfl, rfl, h0, h1⟩
      obtain ⟨z, rfl⟩ : ∃ z, y = V.int z := by
        rw [List.getElem?_map] at hi
        cases e : ns[i]? with
        | none =>
          rw [e] at hi
          cases hi
        | some z =>
          rw [e] at hi
          exact ⟨z, (Option.some.inj hi).symm⟩
      refine ⟨_, rfl, _, _, rfl, rfl, .inr ⟨by decide, by decide⟩, _, rfl, .inl ⟨_, rfl, _, _, rfl, rfl, (by decide : (0 : Int) < 65521), _, _, rfl, rfl, _, _, rfl, rfl, .inl ⟨_, rfl, _, _, rfl, rfl, (by decide : (0 : Int) < 2147483647), ?_⟩⟩⟩
      exact ⟨_, _, rfl, rfl, Int.emod_nonneg _ (by decide), Int.emod_lt_of_pos _ (by decide)⟩
    · rintro σ H1 ⟨m, v, rfl, rfl, h0, h1⟩
      refine ⟨_, rfl, a, _, rfl, .inl hS, fun l hl2 => ⟨_, rfl, (by show 4 ≤ sizeLine; decide), fun p hp => ?_⟩⟩
      have npl : l ≠ p := fun z => by
        rw [← z, upd_same] at hp
        cases hp
      refine q p l _ ((same_upd hl2).free hp) hl2 ((same_upd hl2).trans (same_upd hp)) ⟨0, 0, m, ns, upd_same, ?_, hl, Int.le_refl 0, Int.le_refl 0, h0, h1⟩
      rw [upd_ne npl, upd_same]

theorem ok__law_draw {f : Addr} {fd : FuncData} (F : Fun K "_law_draw" "_law_draw" s__law_draw f fd) (E : Bi K mg)  : FnOk P w K mg base CX0 1 f fd ["stream", "many"] (sp__law_draw K) := by
  refine F.ok sc__law_draw (fun vs H Q E h => ?_) (fun cdv A outer s H vs Q E' hr h => ?_)
  · obtain ⟨s, l, n, rfl, _⟩ := h
    rfl
  · obtain ⟨p, l, n, rfl, hS, hn, hn2, q⟩ := h
    obtain ⟨a, b, m, ns, h1, h2, hlen, ha, hb, hm, hm2⟩ := hS.ex
    have nlp : l ≠ p := fun z => by
      rw [z, h1] at h2
      have h3 := HO.lst.inj (Option.some.inj h2)
      cases ns with
      | nil => cases h3
      | cons x r => cases (List.cons.inj h3).1
    refine ⟨_, (pss_cons (ps_if (pw_and (pt_cmpR op_eq (pe_ix ix_list (pv 0) pe_int (fun _ _ => rfl)) pe_int (nomark _)) (pw_and1 (pt_cmpR op_lt (pe_ix ix_list (pv 0) pe_int (fun _ _ => rfl)) (pe_callB call_len_seq (by rfl) E.b_len PySem.boot_len (pa_cons (pe_ix ix_list (pv 0) pe_int (fun _ _ => rfl)) pa_nil)) (nomark _)))).pt (pss_cons (ps_asg (pe_callB call_abs (by rfl) E.b_abs (by decide +kernel) (pa_cons (pe_callTy call_int1 (by rfl) E.b_int (by decide +kernel) (pa_cons (pe_ix ix_list (pe_ix ix_list (pv 0) pe_int (fun _ _ => rfl)) (pe_ix ix_list (pv 0) pe_int (fun _ _ => rfl)) (fun _ _ => rfl)) pa_nil)) pa_nil)) (pg_sub (pv 0) pe_int set_list))
      (pss_one (ps_asg (pe_op op_add (pe_ix ix_list (pv 0) pe_int (fun _ _ => rfl)) pe_int) (pg_sub (pv 0) pe_int set_list)))) pss_nil)
      (pss_cons (ps_if (pt_cmpR op_eq (pe_ix ix_list (pv 0) pe_int (fun _ _ => rfl)) pe_int (nomark _)) (pss_cons (ps_asg (pe_op op_mod (pe_callTy call_int1 (by rfl) E.b_int (by decide +kernel) (pa_cons (pe_op op_add (pe_op op_mul (pe_ix ix_list (pv 0) pe_int (fun _ _ => rfl)) pe_int) pe_int) pa_nil)) pe_int) (pg_sub (pv 0) pe_int set_list))
      (pss_one (ps_ret (pe_op op_mod (pe_callTy call_int1 (by rfl) E.b_int (by decide +kernel) (pa_cons (pe_op op_fdivW (pe_ix ix_list (pv 0) pe_int (fun _ _ => rfl)) pe_int) pa_nil)) (pv 1))))) pss_nil)
      (pss_cons (ps_set (i := 2) sc__law_draw.nd rfl (Or.inl rfl) (pe_op op_mod (pe_callTy call_int1 (by rfl) E.b_int (by decide +kernel) (pa_cons (pe_ix ix_list (pv 0) pe_int (fun _ _ => rfl)) pa_nil)) (pv 1)))
      (pss_cons (ps_asg (pe_op op_fdivW (pe_ix ix_list (pv 0) pe_int (fun _ _ => rfl)) (pv 1)) (pg_sub (pv 0) pe_int set_list))
      (pss_one (ps_ret (pv 2))))))), ?_⟩
    refine ⟨_, rfl, _, _, _, _, rfl, rfl, SqL.of h1, atI_nat (j := 1) rfl, rfl, _, rfl, ite2 (fun e => ?_) (fun e => ?_)⟩
    · refine ⟨_, rfl, _, _, _, _, rfl, rfl, SqL.of h1, atI_nat (j := 2) rfl, _, rfl, _, _, _, _, rfl, rfl, SqL.of h1, atI_nat (j := 0) rfl, _, _, rfl, .inl (SqL.of h2), _, _, rfl, rfl, _, rfl, ite2 (fun e1 => ?_) (fun e1 => ?_)⟩
      · have e2 : b < (ns.map V.int).length := of_decide_eq_true e1
        rw [List.length_map] at e2
        have hz : (ns.map V.int)[b.toNat]? = some (V.int (ns[b.toNat]'(by omega))) := by
          rw [List.getElem?_map, List.getElem?_eq_getElem (by omega)]
          rfl
        refine ⟨_, rfl, _, _, _, _, rfl, rfl, SqL.of h1, atI_nat (j := 0) rfl, _, rfl, _, _, _, _, rfl, rfl, SqL.of h1, atI_nat (j := 2) rfl, _, _, _, _, rfl, rfl, SqL.of h2, at_of (j := b.toNat) (by omega) hz, .inl ⟨_, rfl, _, rfl, _, rfl, _, _, _, _, rfl, rfl, h1, rfl, ?_⟩⟩
        refine ⟨_, rfl, _, _, _, _, rfl, rfl, SqL.of upd_same, atI_nat (j := 2) rfl, _, _, rfl, rfl, _, rfl, _, _, _, _, rfl, rfl, upd_same, rfl, ?_⟩
        generalize hH : upd _ p _ = H1
        have hX : ∃ a' b' : Int, H1 p = some (.lst [.ref l, .int a', .int b', .int m]) ∧ 0 ≤ a' ∧ 0 ≤ b' := ⟨_, _, by rw [← hH]; exact upd_same, by split <;> omega, by omega⟩
        have hB : But p H H1 := by rw [← hH]; exact But.put.trans But.put
        have hL : H1 l = some (.lst (ns.map V.int)) := hB l _ nlp h2
        clear hH
        obtain ⟨a', b', hX, ha', hb'⟩ := hX
        refine ⟨_, rfl, _, _, _, _, rfl, rfl, SqL.of hX, atI_nat (j := 1) rfl, rfl, _, rfl, ite2 (fun e3 => ?_) (fun e3 => ?_)⟩
        · refine ⟨_, rfl, _, _, _, _, rfl, rfl, SqL.of hX, atI_nat (j := 3) rfl, _, _, rfl, rfl, .inr ⟨by decide, by decide⟩, _, _, rfl, rfl, .inl ⟨_, rfl, _, _, rfl, rfl, (by decide : (0 : Int) < 2147483647), _, rfl, _, _, _, _, rfl, rfl, hX, rfl, ?_⟩⟩
          refine ⟨_, rfl, _, _, _, _, rfl, rfl, SqL.of upd_same, atI_nat (j := 3) rfl, _, _, rfl, rfl, wide_div (b := 64) (by decide) (by decide) (by decide) (by decide), .inl ⟨_, rfl, _, rfl, _, _, rfl, rfl, hn, ?_⟩⟩
          exact q _ _ (Int.emod_nonneg _ (by omega)) (Int.emod_lt_of_pos _ hn) (hB.trans But.put) ⟨a', b', _, ns, upd_same, by rw [upd_ne nlp]; exact hL, hlen, ha', hb', Int.emod_nonneg _ (by decide), Int.emod_lt_of_pos _ (by decide)⟩
        · refine ⟨_, rfl, _, _, _, _, rfl, rfl, SqL.of hX, atI_nat (j := 1) rfl, .inl ⟨_, rfl, _, rfl, _, _, rfl, rfl, hn, ?_⟩⟩
          refine ⟨_, rfl, _, _, _, _, rfl, rfl, SqL.of hX, atI_nat (j := 1) rfl, _, rfl, _, _, rfl, rfl, wide_div hn hn2 (by decide) (by decide), _, rfl, _, _, _, _, rfl, rfl, hX, rfl, ?_⟩
          refine ⟨_, rfl, ?_⟩
          exact q _ _ (Int.emod_nonneg _ (by omega)) (Int.emod_lt_of_pos _ hn) (hB.trans But.put) ⟨_, b', m, ns, upd_same, by rw [upd_ne nlp]; exact hL, hlen, Int.ediv_nonneg ha' (by omega), hb', hm, hm2⟩
      · have hX : ∃ a' b' : Int, H p = some (.lst [.ref l, .int a', .int b', .int m]) ∧ 0 ≤ a' ∧ 0 ≤ b' := ⟨_, _, h1, ha, hb⟩
        have hB : But p H H := But.refl p H
        have hL := h2
        obtain ⟨a', b', hX, ha', hb'⟩ := hX
        refine ⟨_, rfl, _, _, _, _, rfl, rfl, SqL.of hX, atI_nat (j := 1) rfl, rfl, _, rfl, ite2 (fun e3 => ?_) (fun e3 => ?_)⟩
        · refine ⟨_, rfl, _, _, _, _, rfl, rfl, SqL.of hX, atI_nat (j := 3) rfl, _, _, rfl, rfl, .inr ⟨by decide, by decide⟩, _, _, rfl, rfl, .inl ⟨_, rfl, _, _, rfl, rfl, (by decide : (0 : Int) < 2147483647), _, rfl, _, _, _, _, rfl, rfl, hX, rfl, ?_⟩⟩
          refine ⟨_, rfl, _, _, _, _, rfl, rfl, SqL.of upd_same, atI_nat (j := 3) rfl, _, _, rfl, rfl, wide_div (b := 64) (by decide) (by decide) (by decide) (by decide), .inl ⟨_, rfl, _, rfl, _, _, rfl, rfl, hn, ?_⟩⟩
          exact q _ _ (Int.emod_nonneg _ (by omega)) (Int.emod_lt_of_pos _ hn) (hB.trans But.put) ⟨a', b', _, ns, upd_same, by rw [upd_ne nlp]; exact hL, hlen, ha', hb', Int.emod_nonneg _ (by decide), Int.emod_lt_of_pos _ (by decide)⟩
        · refine ⟨_, rfl, _, _, _, _, rfl, rfl, SqL.of hX, atI_nat (j := 1) rfl, .inl ⟨_, rfl, _, rfl, _, _, rfl, rfl, hn, ?_⟩⟩
          refine ⟨_, rfl, _, _, _, _, rfl, rfl, SqL.of hX, atI_nat (j := 1) rfl, _, rfl, _, _, rfl, rfl, wide_div hn hn2 (by decide) (by decide), _, rfl, _, _, _, _, rfl, rfl, hX, rfl, ?_⟩
          refine ⟨_, rfl, ?_⟩
          exact q _ _ (Int.emod_nonneg _ (by omega)) (Int.emod_lt_of_pos _ hn) (hB.trans But.put) ⟨_, b', m, ns, upd_same, by rw [upd_ne nlp]; exact hL, hlen, Int.ediv_nonneg ha' (by omega), hb', hm, hm2⟩
    · have hX : ∃ a' b' : Int, H p = some (.lst [.ref l, .int a', .int b', .int m]) ∧ 0 ≤ a' ∧ 0 ≤ b' := ⟨_, _, h1, ha, hb⟩
      have hB : But p H H := But.refl p H
      have hL := h2
      obtain ⟨a', b', hX, ha', hb'⟩ := hX
      refine ⟨_, rfl, _, _, _, _, rfl, rfl, SqL.of hX, atI_nat (j := 1) rfl, rfl, _, rfl, ite2 (fun e3 => ?_) (fun e3 => ?_)⟩
      · refine ⟨_, rfl, _, _, _, _, rfl, rfl, SqL.of hX, atI_nat (j := 3) rfl, _, _, rfl, rfl, .inr ⟨by decide, by decide⟩, _, _, rfl, rfl, .inl ⟨_, rfl, _, _, rfl, rfl, (by decide : (0 : Int) < 2147483647), _, rfl, _, _, _, _, rfl, rfl, hX, rfl, ?_⟩⟩
        refine ⟨_, rfl, _, _, _, _, rfl, rfl, SqL.of upd_same, atI_nat (j := 3) rfl, _, _, rfl, rfl, wide_div (b := 64) (by decide) (by decide) (by decide) (by decide), .inl ⟨_, rfl, _, rfl, _, _, rfl, rfl, hn, ?_⟩⟩
        exact q _ _ (Int.emod_nonneg _ (by omega)) (Int.emod_lt_of_pos _ hn) (hB.trans But.put) ⟨a', b', _, ns, upd_same, by rw [upd_ne nlp]; exact hL, hlen, ha', hb', Int.emod_nonneg _ (by decide), Int.emod_lt_of_pos _ (by decide)⟩
      · refine ⟨_, rfl, _, _, _, _, rfl, rfl, SqL.of hX, atI_nat (j := 1) rfl, .inl ⟨_, rfl, _, rfl, _, _, rfl, rfl, hn, ?_⟩⟩
        refine ⟨_, rfl, _, _, _, _, rfl, rfl, SqL.of hX, atI_nat (j := 1) rfl, _, rfl, _, _, rfl, rfl, wide_div hn hn2 (by decide) (by decide), _, rfl, _, _, _, _, rfl, rfl, hX, rfl, ?_⟩
        refine ⟨_, rfl, ?_⟩
        exact q _ _ (Int.emod_nonneg _ (by omega)) (Int.emod_lt_of_pos _ hn) (hB.trans But.put) ⟨_, b', m, ns, upd_same, by rw [upd_ne nlp]; exact hL, hlen, Int.ediv_nonneg ha' (by omega), hb', hm, hm2⟩

theorem ok__law_end {f : Addr} {fd : FuncData} (F : Fun K "_law_end" "_law_end" s__law_end f fd) (E : Bi K mg)  : FnOk P w K mg base CX0 1 f fd ["term", "at"] (sp__law_end K) := by
  refine F.ok sc__law_end (fun vs H Q E h => ?_) (fun cdv A outer s H vs Q E' hr h => ?_)
  · obtain ⟨x, ds, i, k, rfl, _⟩ := h
    rfl
  · obtain ⟨x, ds, i, k, rfl, hd, hn, hc, q⟩ := h
    refine ⟨_, (pss_cons (ps_set (i := 2) sc__law_end.nd rfl (Or.inl rfl) pe_int)
      (pss_cons (ps_while PassesOwn.never (pt_cmpR op_gt (pv 2) pe_int (nomark _)) (pss_cons (ps_set (i := 2) sc__law_end.nd rfl (Or.inl rfl) (pe_op op_sub (pv 2) pe_int))
      (pss_cons (ps_set (i := 3) sc__law_end.nd rfl (Or.inl rfl) (pe_ix ix_tup (pv 0) (pv 1) (fun _ _ => rfl)))
      (pss_cons (ps_set (i := 1) sc__law_end.nd rfl (Or.inl rfl) (pe_op op_add (pv 1) pe_int))
      (pss_one (ps_if (pw_and (pt_val (pe_callB call_isi (by rfl) E.b_isinstance (by decide +kernel) (pa_cons (pv 3) (pa_cons (pe_ty "tuple" (by rfl) E.b_tuple (by decide +kernel)) pa_nil)))) (pw_and1 (pt_cmpR op_eq (pe_ix ix_tup (pv 3) pe_int (fun _ _ => rfl)) pe_str (nomark _)))).pt (pss_one (ps_set (i := 2) sc__law_end.nd rfl (Or.inl rfl) (pe_op op_add (pv 2) (pe_ix ix_tup (pv 3) pe_int (fun _ _ => rfl))))) pss_nil))))))
      (pss_one (ps_ret (pv 1))))), ?_⟩
    cases hd with
    | @tup a xs _ hs ha =>
    refine seq_asg (gname (seq_any ?_))
    refine ⟨fun n σ H' => ∃ (m j kk : Nat) (vn : Option V), σ = [some (.ref a), some (.int (j : Int)), some (.int (m : Int)), vn] ∧ H' = H ∧ Cls kk (ds.drop j) ∧ m ≤ kk ∧ j + tk m (ds.drop j) = i + tk 1 (ds.drop i) ∧ n = ds.length - j,
      ⟨_, 1, i, k + 1, none, rfl, rfl, hc, by omega, rfl, rfl⟩, ?_⟩
    rintro n σ H1 ⟨m, j, kk, vn, rfl, rfl, h1, h2, h3, rfl⟩
    refine ⟨_, rfl, _, _, rfl, rfl, _, rfl, ite2 (fun e => ?_) (fun e => ?_)⟩
    · have hm : 0 < m := by
        have := of_decide_eq_true e
        omega
      cases hl : ds.drop j with
      | nil =>
        rw [hl] at h1
        have : kk = 0 := h1
        omega
      | cons d r =>
        rw [hl] at h1 h3
        have hj : j < ds.length := by
          rcases Nat.lt_or_ge j ds.length with h | h
          · exact h
          · rw [List.drop_of_length_le h] at hl; cases hl
        have hdj : ds[j]? = some d := by
          rw [← List.head?_drop, hl]
          rfl
        have hr : ds.drop (j + 1) = r := by
          rw [← List.drop_drop, hl]
          rfl
        obtain ⟨v, hv, hdv⟩ := DpAll.get ha hdj
        have fin : ∃ (m' kk' : Nat), (m' : Int) = (m : Int) - 1 + arN d ∧ Cls kk' (ds.drop (j + 1)) ∧ m' ≤ kk' ∧ j + 1 + tk m' (ds.drop (j + 1)) = i + tk 1 (ds.drop i) := by
          refine ⟨m - 1 + arN d, kk - 1 + arN d, by omega, by rw [hr]; exact h1.2, by omega, ?_⟩
          rw [tk_cons hm] at h3
          rw [hr]
          omega
        obtain ⟨m', kk', em, g3, g4, g5⟩ := fin
        refine ⟨fun σ' H' => ∃ vn z, σ' = [some (.ref a), some (.int ((j + 1 : Nat) : Int)), some (.int z), vn] ∧ z = (m' : Int) ∧ H' = H1,
          fun σ' H' ⟨vn, z, g1, gz, g2⟩ => ⟨ds.length - (j + 1), by omega, m', j + 1, kk', vn, by rw [g1, gz], g2, g3, g4, g5, rfl⟩, ?_⟩
        refine seq_asg ?_
        refine ⟨_, rfl, _, _, rfl, rfl, ?_⟩
        refine gname (seq_asg ?_)
        refine ⟨_, rfl, _, rfl, _, _, _, _, rfl, rfl, hs, atI_nat (j := j) hv, ?_⟩
        refine gname (seq_asg ?_)
        refine ⟨_, rfl, _, _, rfl, rfl, ?_⟩
        refine gname ?_
        refine ⟨_, rfl, _, _, _, _, _, rfl, .ty _, tyx_of hdv, kit_ty (kitT _), _, rfl, ?_⟩
        obtain ⟨wd, nd⟩ := hn d (List.mem_of_getElem? hdj)
        cases nd with
        | v n h1 h2 =>
          cases hdv with
          | tup hs2 ha2 =>
            obtain ⟨v2, hv2, hdv2⟩ := DpAll.get (i := 0) ha2 rfl
            cases hdv2
            refine iteT ⟨_, rfl, _, _, _, _, rfl, rfl, hs2, atI_nat (j := 0) hv2, rfl, _, rfl, ?_⟩
            rw [show decide (V.str (Str.ofString "v") = V.str (Str.ofString "f")) = false by decide +kernel]
            refine iteF ⟨_, _, rfl, ?_, rfl⟩
            rw [em]
            show (m : Int) - 1 = (m : Int) - 1 + ((0 : Nat) : Int)
            omega
        | i n h1 h2 =>
          refine iteF (iteF ⟨_, _, rfl, ?_, rfl⟩)
          rw [em]
          show (m : Int) - 1 = (m : Int) - 1 + ((0 : Nat) : Int)
          omega
        | f y n h1 h2 h3 =>
          cases hdv with
          | tup hs2 ha2 =>
            obtain ⟨v2, hv2, hdv2⟩ := DpAll.get (i := 0) ha2 rfl
            obtain ⟨v3, hv3, hdv3⟩ := DpAll.get (i := 2) ha2 rfl
            cases hdv2
            cases hdv3
            refine iteT ⟨_, rfl, _, _, _, _, rfl, rfl, hs2, atI_nat (j := 0) hv2, rfl, _, rfl, ?_⟩
            rw [decide_eq_true rfl]
            refine iteT (asg1 ?_)
            refine ⟨_, rfl, _, rfl, _, _, _, _, rfl, rfl, hs2, atI_nat (j := 2) hv3, _, _, rfl, rfl, ?_⟩
            refine gname ⟨_, _, rfl, ?_, rfl⟩
            have e2 : ((arN (.tuple [.str "f", .str y, .int n]) : Nat) : Int) = n := Int.toNat_of_nonneg h2
            rw [em, e2]
    · have hm : m = 0 := by
        cases m with
        | zero => rfl
        | succ m => exact absurd (decide_eq_true (by omega)) e
      subst hm
      refine nxp ?_
      refine ⟨_, rfl, ?_⟩
      rw [tk_zero] at h3
      rw [← h3] at q
      exact q

theorem ok_arity_of {f : Addr} {fd : FuncData} (F : Fun K "arity_of" "arity_of" s_arity_of f fd) (E : Bi K mg) (D_is_symbol : Has P w K mg base 1 "is_symbol" ["node"] (sp_is_symbol K)) : FnOk P w K mg base CX0 2 f fd ["node"] (sp_arity_of K) := by
  obtain ⟨f_is_symbol, fd_is_symbol, G_is_symbol, g_is_symbol, kp_is_symbol, b_is_symbol⟩ := D_is_symbol
  refine F.ok sc_arity_of (fun vs H Q E h => ?_) (fun cdv A outer s H vs Q E' hr h => ?_)
  · obtain ⟨x, d, rfl, _⟩ := h
    rfl
  · obtain ⟨x, d, rfl, hd, hn, q⟩ := h
    refine ⟨_, (pss_one (ps_ret (pe_ifExp (pt_val (pe_call G_is_symbol (hr.mono (by decide)) (by rfl) g_is_symbol kp_is_symbol b_is_symbol .nil pass0 (pa_cons (pv 0) pa_nil))) (pe_ix ix_tup (pv 0) pe_int (fun _ _ => rfl)) pe_int))), ?_⟩
    refine ⟨x, rfl, x, d, rfl, hd, hn, _, rfl, ite2 (fun e => ?_) (fun e => ?_)⟩
    · obtain ⟨wd, nd⟩ := hn
      cases nd with
      | v n h1 h2 => cases e
      | i n h1 h2 => cases e
      | f y n h1 h2 h3 =>
        cases hd with
        | tup hs ha =>
          obtain ⟨v, hv, hdv⟩ := DpAll.get (i := 2) ha rfl
          cases hdv
          refine ⟨_, rfl, _, _, _, _, rfl, rfl, hs, atI_nat (j := 2) hv, ?_⟩
          have e2 : ((arN (.tuple [.str "f", .str y, .int n]) : Nat) : Int) = n := Int.toNat_of_nonneg h2
          rw [e2] at q
          exact q
    · rw [arN_nsym (Bool.eq_false_iff.mpr e)] at q
      exact q

theorem ok__law_name {f : Addr} {fd : FuncData} (F : Fun K "_law_name" "_law_name" s__law_name f fd) (E : Bi K mg) (D__law_draw : Has P w K mg base 1 "_law_draw" ["stream", "many"] (sp__law_draw K)) : FnOk P w K mg base CX0 2 f fd ["stream"] (sp__law_name K) := by
  obtain ⟨f__law_draw, fd__law_draw, G__law_draw, g__law_draw, kp__law_draw, b__law_draw⟩ := D__law_draw
  refine F.ok sc__law_name (fun vs H Q E h => ?_) (fun cdv A outer s H vs Q E' hr h => ?_)
  · obtain ⟨s, l, rfl, _⟩ := h
    rfl
  · obtain ⟨s, l, rfl, hS, q⟩ := h
    have n9 : (2 : Nat) ^ 8 ≤ 2 ^ 9000 := Nat.pow_le_pow_right (by decide) (by decide)
    refine ⟨_, (pss_cons (ps_set (i := 1) sc__law_name.nd rfl (Or.inl rfl) (pe_lst (pa_cons pe_str (pa_cons pe_str (pa_cons pe_str (pa_cons pe_str (pa_cons pe_str (pa_cons pe_str (pa_cons pe_str (pa_cons pe_str (pa_cons pe_str (pa_cons pe_str (pa_cons pe_str (pa_cons pe_str (pa_cons pe_str (pa_cons pe_str (pa_cons pe_str (pa_cons pe_str (pa_cons pe_str (pa_cons pe_str (pa_cons pe_str (pa_cons pe_str pa_nil))))))))))))))))))))))
      (pss_cons (ps_if (pt_cmpR op_gt (pe_call G__law_draw (hr.mono (by decide)) (by rfl) g__law_draw kp__law_draw b__law_draw .nil pass0 (pa_cons (pv 0) (pa_cons pe_int pa_nil))) pe_int (nomark _)) (pss_one (ps_ret (pe_ix ix_list (pv 1) (pe_call G__law_draw (hr.mono (by decide)) (by rfl) g__law_draw kp__law_draw b__law_draw .nil pass0 (pa_cons (pv 0) (pa_cons pe_int pa_nil))) (fun _ _ => rfl)))) pss_nil)
      (pss_cons (ps_if (pt_cmpR op_gt (pe_call G__law_draw (hr.mono (by decide)) (by rfl) g__law_draw kp__law_draw b__law_draw .nil pass0 (pa_cons (pv 0) (pa_cons pe_int pa_nil))) pe_int (nomark _)) (pss_one (ps_ret (pe_ix ix_list (pv 1) (pe_call G__law_draw (hr.mono (by decide)) (by rfl) g__law_draw kp__law_draw b__law_draw .nil pass0 (pa_cons (pv 0) (pa_cons (pe_callB call_len_seq (by rfl) E.b_len PySem.boot_len (pa_cons (pv 1) pa_nil)) pa_nil))) (fun _ _ => rfl)))) pss_nil)
      (pss_cons (ps_set (i := 2) sc__law_name.nd rfl (Or.inr rfl) pe_str)
      (pss_cons (ps_set (i := 2) sc__law_name.nd rfl (Or.inr rfl) (pe_op op_add_str (pv 2) pe_str))
      (pss_one (ps_ret (pe_m1 PySem.F.slot_str_join PySem.F.type_str_join mt_join pe_str (pe_lc (own := [("k", 3)]) (g := gName 3) (tt := tYes) rfl sc__law_name.nd (pi_range1 (by rfl) E.b_range (pa_cons (pe_op op_add pe_int (pe_call G__law_draw (hr.mono (by decide)) (by rfl) g__law_draw kp__law_draw b__law_draw .nil pass0 (pa_cons (pv 0) (pa_cons pe_int pa_nil)))) pa_nil)) (blkOk_by (N := N__law_name) (sc := defScope s__law_name) (by decide +kernel)) (fun _ _ _ _ _ => pg_name (i := 3) sc__law_name.nd rfl (Or.inl rfl)) (fun _ _ _ _ _ => pts_nil) (fun _ _ _ _ _ => (pe_ix ix_str (pv 2) (pe_call G__law_draw (hr.mono (by decide)) (by rfl) g__law_draw kp__law_draw b__law_draw .nil pass0 (pa_cons (pv 0) (pa_cons (pe_callB call_len_str (by rfl) E.b_len PySem.boot_len (pa_cons (pv 2) pa_nil)) pa_nil))) (fun _ _ => rfl)))))))))))), ?_⟩
    refine seq_asg ?_
    refine lit_lst (K := K) (ds := names20.map PyData.str) ?_ (by decide) H _ fun v0 H0 t0 i0 => ?_
    · unfold names20
      simp only [List.map_cons, List.map_nil]
      walk_at "lits"
    cases i0 with
    | @lst p0 xs0 _ g0 e0 a0 =>
    obtain ⟨os, hos⟩ := hS.at_s
    have np : p0 ≠ s := fun z => by
      rw [z, hos] at g0
      cases g0
    have hl0 : xs0.length = 20 := by rw [a0.len, List.length_map]; decide
    have pick : ∀ (r : Int) (H' : Hp), 0 ≤ r → r < 20 → But s H H' → H' p0 = some (.lst xs0) → Stm H' s l → ∃ x, atI xs0 r = some (.str x) ∧ Q (.str x) H' := by
      intro r H' r0 r1 hB e1 St
      have hr : r.toNat < names20.length := by
        have : names20.length = 20 := by decide
        omega
      have hd : (names20.map PyData.str)[r.toNat]? = some (.str names20[r.toNat]) := by
        rw [List.getElem?_map, List.getElem?_eq_getElem hr]
        rfl
      obtain ⟨v, hv, iv⟩ := ImAll.get a0 hd
      cases iv
      exact ⟨_, at_of (j := r.toNat) (by omega) hv, q _ _ (List.all_eq_true.mp names20_ok _ (List.getElem_mem hr)) hB St⟩
    refine gname (seq_ifN ?_)
    refine ⟨_, rfl, s, l, 3, rfl, hS.keep t0, by decide, Nat.lt_of_lt_of_le (by decide) n9, fun r1 H1 _ _ hB1 S1 => ⟨_, _, rfl, rfl, _, rfl, ite2 (fun e => ?_) (fun e => ?_)⟩⟩
    · refine ⟨_, rfl, _, rfl, s, l, 4, rfl, S1, by decide, Nat.lt_of_lt_of_le (by decide) n9, fun r2 H2 r20 r21 hB2 S2 => ?_⟩
      obtain ⟨x, hx, hq⟩ := pick r2 H2 r20 (by omega) (((But.of t0).trans hB1).trans hB2) (hB2 _ _ np (hB1 _ _ np e0)) S2
      exact ⟨_, _, _, _, rfl, rfl, SqL.of (hB2 _ _ np (hB1 _ _ np e0)), hx, hq⟩
    · refine seq_ifN ?_
      refine ⟨_, rfl, s, l, 4, rfl, S1, by decide, Nat.lt_of_lt_of_le (by decide) n9, fun r2 H2 _ _ hB2 S2 => ⟨_, _, rfl, rfl, _, rfl, ite2 (fun e => ?_) (fun e => ?_)⟩⟩
      · refine ⟨_, rfl, _, rfl, _, rfl, _, _, rfl, .inl (SqL.of (hB2 _ _ np (hB1 _ _ np e0))), s, l, _, rfl, S2, by rw [hl0]; decide, by rw [hl0]; exact Nat.lt_of_lt_of_le (by decide) n9, fun r3 H3 r30 r31 hB3 S3 => ?_⟩
        obtain ⟨x, hx, hq⟩ := pick r3 H3 r30 (by rw [hl0] at r31; exact r31) ((((But.of t0).trans hB1).trans hB2).trans hB3) (hB3 _ _ np (hB2 _ _ np (hB1 _ _ np e0))) S3
        exact ⟨_, _, _, _, rfl, rfl, SqL.of (hB3 _ _ np (hB2 _ _ np (hB1 _ _ np e0))), hx, hq⟩
      · refine seq_asg (gname (seq_asg ?_))
        refine ⟨_, rfl, _, _, rfl, rfl, by decide +kernel, ?_⟩
        refine gname ?_
        have hB : But s H H2 := ((But.of t0).trans hB1).trans hB2
        refine ⟨⟨_, rfl⟩, ?_⟩
        refine ⟨_, rfl, s, l, 40, rfl, S2, by decide, Nat.lt_of_lt_of_le (by decide) n9, fun n H3 n0 n1 hB3 S3 => ⟨_, _, rfl, rfl, _, rfl, by omega, by omega, fun D hD => ?_⟩⟩
        obtain ⟨os3, hos3⟩ := S3.at_s
        obtain ⟨ol3, hol3⟩ := S3.at_l
        have sD : s ≠ D := ne_of_none hos3 hD
        have lD : l ≠ D := ne_of_none hol3 hD
        refine lc_range (fun i H' => ∃ cs : List Nat, H' D = some (.lst ((cs.map fun c => (⟨#[c]⟩ : Str)).map V.str)) ∧ cs.length = i ∧ cs.all okSign = true ∧ Stm H' s l ∧ (∀ b o, b ≠ s → b ≠ D → H3 b = some o → H' b = some o))
          ⟨[], upd_same, rfl, rfl, S3.put sD lD, fun b o _ h2 e => by rw [upd_ne h2]; exact e⟩ ?_ ?_
        · rintro i H4 hi ⟨cs, h1, h2, h3, h4, h5⟩
          refine ⟨rfl, _, rfl, _, rfl, _, rfl, _, rfl, (show signs.length ≤ sizeLine from by rw [signs_len]; decide), s, l, _, rfl, h4, (show (0 : Int) < (signs.length : Int) from by rw [signs_len]; decide),
            (show ((signs.length : Nat) : Int).natAbs < 2 ^ 9000 from by rw [signs_len]; exact Nat.lt_of_lt_of_le (by decide) n9), fun r H5 r0 r1 hB5 S5 => ?_⟩
          have r2 : r < (signs.length : Int) := r1
          have hr : r.toNat < signs.cps.toList.length := by
            have : signs.cps.toList.length = signs.length := by simp [Str.length]
            omega
          have hc : signs.cps.toList[r.toNat]? = some signs.cps.toList[r.toNat] := List.getElem?_eq_getElem hr
          have ok : okSign signs.cps.toList[r.toNat] = true := List.all_eq_true.mp signs_ok _ (List.getElem_mem hr)
          generalize signs.cps.toList[r.toNat] = c at hc ok
          refine ⟨_, _, c, rfl, rfl, (show signs.length ≤ sizeLine from by rw [signs_len]; decide), ?_, _, hB5 _ _ sD.symm h1, ?_, cs ++ [c], ?_, ?_, ?_, S5.put sD lD, fun b o hb1 hb2 e => ?_⟩
          · rw [show r = ((r.toNat : Nat) : Int) by omega]
            exact atI_nat hc
          · rw [List.length_map, List.length_map, h2]
            exact small1000 (by omega)
          · rw [upd_same, List.map_append, List.map_append]
            rfl
          · rw [List.length_append, h2]; rfl
          · rw [List.all_append, h3]
            show (true && (okSign c && true)) = true
            rw [ok]; rfl
          · rw [upd_ne hb2]
            exact hB5 b o hb1 (h5 b o hb1 hb2 e)
        · rintro H4 ⟨cs, h1, h2, h3, h4, h5⟩
          refine ⟨_, _, cs.map fun c => ⟨#[c]⟩, rfl, rfl, .inl (SqL.of h1), ?_, ?_⟩
          · rw [List.length_map, List.map_map, show (cs.map ((fun x : Str => x.length) ∘ fun c => (⟨#[c]⟩ : Str))).sum = cs.length from ?_]
            · show cs.length + cs.length * 0 ≤ 16777216
              omega
            · clear h1 h2 h3
              induction cs with
              | nil => rfl
              | cons c r ih =>
                rw [List.map_cons, List.sum_cons, ih, List.length_cons]
                show 1 + r.length = r.length + 1
                omega
          · rw [TL.join_eq]
            have ec := join_ones (Str.ofString "") (by decide +kernel) cs
            refine q _ H4 ?_ (fun b o hb e => h5 b o hb (fun z => ?_) (hB3 b o hb (hB b o hb e))) h4
            · unfold okName
              have el : (Str.join (Str.ofString "") (cs.map fun c => (⟨#[c]⟩ : Str))).length = cs.length := by
                show (Str.join (Str.ofString "") (cs.map fun c => (⟨#[c]⟩ : Str))).cps.size = _
                rw [← Array.length_toList, ec]
              rw [el, ec, h3, decide_eq_true (show 1 ≤ cs.length by omega), decide_eq_true (show cs.length ≤ 40 by omega)]
              rfl
            · rw [z] at e
              rw [hB3 _ _ (fun z => by subst z; exact sD rfl) (hB _ _ (fun z => by subst z; exact sD rfl) e)] at hD
              cases hD

theorem ok__law_turned {f : Addr} {fd : FuncData} (F : Fun K "_law_turned" "_law_turned" s__law_turned f fd) (E : Bi K mg) (D__law_draw : Has P w K mg base 1 "_law_draw" ["stream", "many"] (sp__law_draw K)) : FnOk P w K mg base CX0 2 f fd ["stream", "term"] (sp__law_turned K) := by
  obtain ⟨f__law_draw, fd__law_draw, G__law_draw, g__law_draw, kp__law_draw, b__law_draw⟩ := D__law_draw
  refine F.ok sc__law_turned (fun vs H Q E h => ?_) (fun cdv A outer s H vs Q E' hr h => ?_)
  · obtain ⟨s, l, v, ds, wd, rfl, _⟩ := h
    rfl
  · obtain ⟨s, l, v, ds, wd, rfl, hS, iv, ht, hlen, q⟩ := h
    have n9 : (2 : Nat) ^ 8 ≤ 2 ^ 9000 := Nat.pow_le_pow_right (by decide) (by decide)
    refine ⟨_, (pss_cons (ps_set (i := 2) sc__law_turned.nd rfl (Or.inl rfl) (pe_lst pa_nil))
      (pss_cons (ps_for PassesOwn.never rfl (pi_tup (pv 1)) (pg_name (i := 3) sc__law_turned.nd rfl (Or.inl rfl)) (pss_one (ps_if (pw_and (pt_val (pe_callB call_isi (by rfl) E.b_isinstance (by decide +kernel) (pa_cons (pv 3) (pa_cons (pe_ty "tuple" (by rfl) E.b_tuple (by decide +kernel)) pa_nil)))) (pw_and (pt_cmpR op_eq (pe_ix ix_tup (pv 3) pe_int (fun _ _ => rfl)) pe_str (nomark _)) (pw_and (pt_cmpR op_eq (pe_ix ix_tup (pv 3) pe_int (fun _ _ => rfl)) pe_int (nomark _)) (pw_and1 (pt_cmpR op_gt (pe_call G__law_draw (hr.mono (by decide)) (by rfl) g__law_draw kp__law_draw b__law_draw .nil pass0 (pa_cons (pv 0) (pa_cons pe_int pa_nil))) pe_int (nomark _)))))).pt (pss_one (ps_expr (pe_bm PySem.F.plainAttrs_list PySem.F.slot_list_append PySem.F.type_list_append mt_append (pv 2) (pa_cons (pe_tup (pa_cons pe_str (pa_cons (pe_ix ix_list (pe_lst (pa_cons pe_str (pa_cons pe_str (pa_cons pe_str (pa_cons pe_str pa_nil))))) (pe_call G__law_draw (hr.mono (by decide)) (by rfl) g__law_draw kp__law_draw b__law_draw .nil pass0 (pa_cons (pv 0) (pa_cons pe_int pa_nil))) (fun _ _ => rfl)) (pa_cons pe_int pa_nil)))) pa_nil)))) (pss_one (ps_if (pw_and (pt_val (pe_callB call_isi (by rfl) E.b_isinstance (by decide +kernel) (pa_cons (pv 3) (pa_cons (pe_ty "tuple" (by rfl) E.b_tuple (by decide +kernel)) pa_nil)))) (pw_and (pt_cmpR op_eq (pe_ix ix_tup (pv 3) pe_int (fun _ _ => rfl)) pe_str (nomark _)) (pw_and (pt_cmpR op_eq (pe_ix ix_tup (pv 3) pe_int (fun _ _ => rfl)) pe_int (nomark _)) (pw_and1 (pt_cmpR op_gt (pe_call G__law_draw (hr.mono (by decide)) (by rfl) g__law_draw kp__law_draw b__law_draw .nil pass0 (pa_cons (pv 0) (pa_cons pe_int pa_nil))) pe_int (nomark _)))))).pt (pss_one (ps_expr (pe_bm PySem.F.plainAttrs_list PySem.F.slot_list_append PySem.F.type_list_append mt_append (pv 2) (pa_cons (pe_tup (pa_cons pe_str (pa_cons (pe_ix ix_list (pe_lst (pa_cons pe_str (pa_cons pe_str (pa_cons pe_str pa_nil)))) (pe_call G__law_draw (hr.mono (by decide)) (by rfl) g__law_draw kp__law_draw b__law_draw .nil pass0 (pa_cons (pv 0) (pa_cons pe_int pa_nil))) (fun _ _ => rfl)) (pa_cons pe_int pa_nil)))) pa_nil)))) (pss_one (ps_expr (pe_bm PySem.F.plainAttrs_list PySem.F.slot_list_append PySem.F.type_list_append mt_append (pv 2) (pa_cons (pv 3) pa_nil)))))))))
      (pss_one (ps_ret (pe_callTy call_tuple_of (by rfl) E.b_tuple (by decide +kernel) (pa_cons (pv 2) pa_nil)))))), ?_⟩
    cases iv with
    | @tup a xs _ ga ea ia =>
    refine seq_asg ?_
    refine ⟨Nat.zero_le _, fun r nr => ?_⟩
    refine gname (seq_any ?_)
    obtain ⟨os, hos⟩ := hS.at_s
    obtain ⟨ol, hol⟩ := hS.at_l
    have sr : s ≠ r := ne_of_none hos nr
    have lr : l ≠ r := ne_of_none hol nr
    have ar : a ≠ r := ne_of_none ea nr
    have hxl : xs.length = ds.length := ia.len
    refine ⟨_, rfl, a, rfl, ⟨_, SqT.of (by rw [upd_ne ar]; exact ea)⟩, for_tup (K := K) (a := a) (xs := xs) (fun i σ H2 => ∃ (vn : Option V) (ys : List V) (es : List PyData), σ = [some (.ref s), some (.ref a), some (.ref r), vn] ∧ H2 r = some (.lst ys) ∧ ImAll K (fun b => b ≠ s ∧ b ≠ r) H2 ys es ∧ es.map arN = (ds.take i).map arN ∧ (∀ e ∈ es, Nd wd e) ∧ Stm H2 s l ∧ (∀ b o, b ≠ s → H b = some o → H2 b = some o))
      ⟨none, [], [], rfl, upd_same, .nil, rfl, (fun e he => nomatch he), hS.put sr lr, fun b o _ e => by rw [upd_ne (ne_of_none e nr)]; exact e⟩ (fun i σ H2 _ ⟨_, _, _, _, _, _, _, _, _, e⟩ => SqT.of (e _ _ ga ea)) ?_ ?_⟩
    · rintro i y σ H2 hi ⟨vn, ys, es, rfl, h1, h2, h3, h4, h5, h6⟩
      obtain ⟨d, hd, iy⟩ := ImAll.getV ia hi
      have ndd := ht.nd d (List.mem_of_getElem? hd)
      have hi2 : i < ds.length := (List.getElem?_eq_some_iff.mp hd).1
      have hyl : ys.length = es.length := h2.len
      have hel : es.length ≤ 400 := by
        have := congrArg List.length h3
        rw [List.length_map, List.length_map, List.length_take] at this
        omega
      -- a node is put behind
      have put : ∀ (H3 : Hp) (v : V) (e : PyData), But s H2 H3 → Stm H3 s l → Im K (fun b => b ≠ s ∧ b ≠ r) H3 v e → Nd wd e → arN e = arN d →
          ∃ (vn : Option V) (yt : List V) (et : List PyData), [some (.ref s), some (.ref a), some (.ref r), some y] = [some (.ref s), some (.ref a), some (.ref r), vn] ∧ (upd H3 r (.lst (ys ++ [v]))) r = some (.lst yt) ∧ ImAll K (fun b => b ≠ s ∧ b ≠ r) (upd H3 r (.lst (ys ++ [v]))) yt et ∧ et.map arN = (ds.take (i + 1)).map arN ∧ (∀ e ∈ et, Nd wd e) ∧ Stm (upd H3 r (.lst (ys ++ [v]))) s l ∧ (∀ b o, b ≠ s → H b = some o → (upd H3 r (.lst (ys ++ [v]))) b = some o) := by
        intro H3 v e b3 S3 ie ne ea
        have k : ∀ b o, (b ≠ s ∧ b ≠ r) → H3 b = some o → (upd H3 r (.lst (ys ++ [v]))) b = some o := fun b o hb e => by rw [upd_ne hb.2]; exact e
        refine ⟨some y, ys ++ [v], es ++ [e], rfl, upd_same, ImAll.snoc (Im.monoAll (fun b o g x => k b o g (b3 b o g.1 x)) (fun _ g => g) _ _ h2) (Im.mono k (fun _ g => g) _ _ ie), ?_, fun e2 he2 => ?_, S3.put sr lr, fun b o hb x => ?_⟩
        · rw [List.map_append, h3, List.take_add_one, hd, List.map_append, List.map_singleton, ea]
          rfl
        · rcases List.mem_append.mp he2 with z | z
          · exact h4 _ z
          · rw [List.mem_singleton.mp z]; exact ne
        · rw [upd_ne (ne_of_none x nr)]
          exact b3 b o hb (h6 b o hb x)
      refine gname ?_
      have iy2 : Im K (fun b => b ≠ s ∧ b ≠ r) H2 y d := Im.mono2 (fun b o g e => h6 b o g e) (fun b o e g => ⟨g, ne_of_none e nr⟩) _ _ iy
      have hr3 : ∀ H3, But s H2 H3 → H3 r = some (.lst ys) := fun H3 b3 => b3 _ _ sr.symm h1
      have iy3 : ∀ H3, But s H2 H3 → Im K (fun b => b ≠ s ∧ b ≠ r) H3 y d := fun H3 b3 => Im.mono (fun b o g e => b3 b o g.1 e) (fun _ g => g) _ _ iy2
      have b2 := But.refl s H2
      have dy : Dp K H2 y d := Im.dp _ _ iy2
      refine ⟨_, rfl, _, _, _, _, _, rfl, .ty _, tyx_of dy, kit_ty (kitT _), _, rfl, ?_⟩
      have tf : decide (V.str (Str.ofString "v") = V.str (Str.ofString "f")) = false := by decide +kernel
      cases id ndd with
      | v n z1 z2 =>
        cases id dy with
        | tup hs2 ha2 =>
        obtain ⟨v2, hv2, hdv2⟩ := DpAll.get (i := 0) ha2 rfl
        cases hdv2
        refine iteT ⟨_, rfl, _, _, _, _, rfl, rfl, hs2, atI_nat (j := 0) hv2, rfl, _, rfl, ?_⟩
        rw [tf]
        refine iteF ?_
        refine ⟨_, rfl, _, _, _, _, _, rfl, .ty _, tyx_of dy, kit_ty (kitT _), _, rfl, iteT ?_⟩
        refine ⟨_, rfl, _, _, _, _, rfl, rfl, hs2, atI_nat (j := 0) hv2, rfl, _, rfl, ?_⟩
        rw [tf]
        refine iteF ?_
        refine ⟨_, rfl, .inl ⟨rfl, _, SqL.of (hr3 _ b2)⟩, _, rfl, _, _, _, rfl, rfl, hr3 _ b2, small1000 (by omega), ?_⟩
        exact put H2 _ _ b2 h5 (iy3 _ b2) ndd rfl
      | i n z1 z2 =>
        refine iteF ?_
        refine ⟨_, rfl, _, _, _, _, _, rfl, .ty _, tyx_of dy, kit_ty (kitT _), _, rfl, iteF ?_⟩
        refine ⟨_, rfl, .inl ⟨rfl, _, SqL.of (hr3 _ b2)⟩, _, rfl, _, _, _, rfl, rfl, hr3 _ b2, small1000 (by omega), ?_⟩
        exact put H2 _ _ b2 h5 (iy3 _ b2) ndd rfl
      | f x n z0 z1 z2 =>
        cases id dy with
        | tup hs2 ha2 =>
        obtain ⟨v2, hv2, hdv2⟩ := DpAll.get (i := 0) ha2 rfl
        obtain ⟨v3, hv3, hdv3⟩ := DpAll.get (i := 2) ha2 rfl
        cases hdv2
        cases hdv3
        refine iteT ⟨_, rfl, _, _, _, _, rfl, rfl, hs2, atI_nat (j := 0) hv2, rfl, _, rfl, ?_⟩
        rw [decide_eq_true rfl]
        refine iteT ⟨_, rfl, _, _, _, _, rfl, rfl, hs2, atI_nat (j := 2) hv3, rfl, _, rfl, ?_⟩
        by_cases e2 : n = 2
        · subst e2
          rw [decide_eq_true rfl]
          refine iteT ?_
          refine ⟨_, rfl, s, l, 3, rfl, h5, by decide, Nat.lt_of_lt_of_le (by decide) n9, fun r3 H3 _ _ b3 S3 => ⟨_, _, rfl, rfl, _, rfl, ite2 (fun e => ?_) (fun e => ?_)⟩⟩
          · skip
            refine ⟨_, rfl, .inl ⟨rfl, _, SqL.of (hr3 _ b3)⟩, ?_⟩
            refine args1 (tup_of (args1 (const_of (args1 (op_of ?_)))))
            refine lit_lst (K := K) (ds := ([",", ";", "->", "\\+"] : List Str).map PyData.str) ?_ (by decide) H3 _ fun v4 H4 s4 i4 => ?_
            · simp only [List.map_cons, List.map_nil]
              walk_at "lits"
            cases i4 with
            | @lst p4 xs4 _ g4 e4 a4 =>
            obtain ⟨o3, ho3⟩ := S3.at_s
            have np4 : p4 ≠ s := fun z => by rw [z, ho3] at g4; cases g4
            refine ⟨_, rfl, s, l, 4, rfl, S3.keep s4, by decide, Nat.lt_of_lt_of_le (by decide) n9, fun r5 H5 r50 r51 b5 S5 => ?_⟩
            have hr5 : r5.toNat < ([",", ";", "->", "\\+"] : List Str).length := by
              show r5.toNat < 4
              omega
            have hd5 : (([",", ";", "->", "\\+"] : List Str).map PyData.str)[r5.toNat]? = some (.str (([",", ";", "->", "\\+"] : List Str)[r5.toNat]'hr5)) := by
              rw [List.getElem?_map, List.getElem?_eq_getElem hr5]
              rfl
            have ok5 : okName (([",", ";", "->", "\\+"] : List Str)[r5.toNat]'hr5) = true := List.all_eq_true.mp (show ([",", ";", "->", "\\+"] : List Str).all okName = true by decide +kernel) _ (List.getElem_mem hr5)
            generalize ([",", ";", "->", "\\+"] : List Str)[r5.toNat]'hr5 = z5 at hd5 ok5
            obtain ⟨v5, hv5, iv5⟩ := ImAll.get a4 hd5
            cases iv5
            refine ⟨_, _, _, _, rfl, rfl, SqL.of (b5 _ _ np4 e4), at_of (j := r5.toNat) (by omega) hv5, (by show 3 ≤ sizeLine; decide), fun p np => ?_⟩
            have bb : But s H2 H5 := (b3.trans (But.of s4)).trans b5
            have rp : r ≠ p := ne_of_none (hr3 _ bb) np
            obtain ⟨o5, ho5⟩ := S5.at_s
            obtain ⟨l5, hl5⟩ := S5.at_l
            refine ⟨_, _, _, rfl, rfl, by rw [upd_ne rp]; exact hr3 _ bb, small1000 (by omega), ?_⟩
            exact put _ (.ref p) (.tuple [.str "f", .str z5, .int 2]) (bb.trans (But.of (same_upd np))) (S5.put (ne_of_none ho5 np) (ne_of_none hl5 np)) (.tup ⟨(fun z => by rw [z, ho5] at np; cases np), rp.symm⟩ upd_same (.cons (.str _) (.cons (.str _) (.cons (.int _) .nil)))) (.f z5 2 ok5 (by decide) (by decide)) rfl
          · have dy3 : Dp K H3 _ _ := Im.dp _ _ (iy3 H3 b3)
            cases id dy3 with
            | tup hs3 ha3 =>
            obtain ⟨v2', hv2', hdv2'⟩ := DpAll.get (i := 0) ha3 rfl
            obtain ⟨v3', hv3', hdv3'⟩ := DpAll.get (i := 2) ha3 rfl
            cases hdv2'
            cases hdv3'
            refine ⟨_, rfl, _, _, _, _, _, rfl, .ty _, tyx_of dy3, kit_ty (kitT _), _, rfl, iteT ?_⟩
            refine ⟨_, rfl, _, _, _, _, rfl, rfl, hs3, atI_nat (j := 0) hv2', rfl, _, rfl, ?_⟩
            rw [decide_eq_true rfl]
            refine iteT ⟨_, rfl, _, _, _, _, rfl, rfl, hs3, atI_nat (j := 2) hv3', rfl, _, rfl, ?_⟩
            rw [show decide (V.int 2 = V.int 1) = false by decide]
            refine iteF ?_
            refine ⟨_, rfl, .inl ⟨rfl, _, SqL.of (hr3 _ b3)⟩, _, rfl, _, _, _, rfl, rfl, hr3 _ b3, small1000 (by omega), ?_⟩
            exact put H3 _ _ b3 S3 (iy3 _ b3) ndd rfl
        · rw [decide_eq_false (fun z => e2 (V.int.inj z))]
          refine iteF ?_
          refine ⟨_, rfl, _, _, _, _, _, rfl, .ty _, tyx_of dy, kit_ty (kitT _), _, rfl, iteT ?_⟩
          refine ⟨_, rfl, _, _, _, _, rfl, rfl, hs2, atI_nat (j := 0) hv2, rfl, _, rfl, ?_⟩
          rw [decide_eq_true rfl]
          refine iteT ⟨_, rfl, _, _, _, _, rfl, rfl, hs2, atI_nat (j := 2) hv3, rfl, _, rfl, ?_⟩
          by_cases e1 : n = 1
          · subst e1
            rw [decide_eq_true rfl]
            refine iteT ?_
            refine ⟨_, rfl, s, l, 3, rfl, h5, by decide, Nat.lt_of_lt_of_le (by decide) n9, fun r3 H3 _ _ b3 S3 => ⟨_, _, rfl, rfl, _, rfl, ite2 (fun e => ?_) (fun e => ?_)⟩⟩
            · skip
              refine ⟨_, rfl, .inl ⟨rfl, _, SqL.of (hr3 _ b3)⟩, ?_⟩
              refine args1 (tup_of (args1 (const_of (args1 (op_of ?_)))))
              refine lit_lst (K := K) (ds := (["\\+", ",", "call"] : List Str).map PyData.str) ?_ (by decide) H3 _ fun v4 H4 s4 i4 => ?_
              · simp only [List.map_cons, List.map_nil]
                walk_at "lits"
              cases i4 with
              | @lst p4 xs4 _ g4 e4 a4 =>
              obtain ⟨o3, ho3⟩ := S3.at_s
              have np4 : p4 ≠ s := fun z => by rw [z, ho3] at g4; cases g4
              refine ⟨_, rfl, s, l, 3, rfl, S3.keep s4, by decide, Nat.lt_of_lt_of_le (by decide) n9, fun r5 H5 r50 r51 b5 S5 => ?_⟩
              have hr5 : r5.toNat < (["\\+", ",", "call"] : List Str).length := by
                show r5.toNat < 3
                omega
              have hd5 : ((["\\+", ",", "call"] : List Str).map PyData.str)[r5.toNat]? = some (.str ((["\\+", ",", "call"] : List Str)[r5.toNat]'hr5)) := by
                rw [List.getElem?_map, List.getElem?_eq_getElem hr5]
                rfl
              have ok5 : okName ((["\\+", ",", "call"] : List Str)[r5.toNat]'hr5) = true := List.all_eq_true.mp (show (["\\+", ",", "call"] : List Str).all okName = true by decide +kernel) _ (List.getElem_mem hr5)
              generalize (["\\+", ",", "call"] : List Str)[r5.toNat]'hr5 = z5 at hd5 ok5
              obtain ⟨v5, hv5, iv5⟩ := ImAll.get a4 hd5
              cases iv5
              refine ⟨_, _, _, _, rfl, rfl, SqL.of (b5 _ _ np4 e4), at_of (j := r5.toNat) (by omega) hv5, (by show 3 ≤ sizeLine; decide), fun p np => ?_⟩
              have bb : But s H2 H5 := (b3.trans (But.of s4)).trans b5
              have rp : r ≠ p := ne_of_none (hr3 _ bb) np
              obtain ⟨o5, ho5⟩ := S5.at_s
              obtain ⟨l5, hl5⟩ := S5.at_l
              refine ⟨_, _, _, rfl, rfl, by rw [upd_ne rp]; exact hr3 _ bb, small1000 (by omega), ?_⟩
              exact put _ (.ref p) (.tuple [.str "f", .str z5, .int 1]) (bb.trans (But.of (same_upd np))) (S5.put (ne_of_none ho5 np) (ne_of_none hl5 np)) (.tup ⟨(fun z => by rw [z, ho5] at np; cases np), rp.symm⟩ upd_same (.cons (.str _) (.cons (.str _) (.cons (.int _) .nil)))) (.f z5 1 ok5 (by decide) (by decide)) rfl
            · skip
              refine ⟨_, rfl, .inl ⟨rfl, _, SqL.of (hr3 _ b3)⟩, _, rfl, _, _, _, rfl, rfl, hr3 _ b3, small1000 (by omega), ?_⟩
              exact put H3 _ _ b3 S3 (iy3 _ b3) ndd rfl
          · rw [decide_eq_false (fun z => e1 (V.int.inj z))]
            refine iteF ?_
            refine ⟨_, rfl, .inl ⟨rfl, _, SqL.of (hr3 _ b2)⟩, _, rfl, _, _, _, rfl, rfl, hr3 _ b2, small1000 (by omega), ?_⟩
            exact put H2 _ _ b2 h5 (iy3 _ b2) ndd rfl
    · rintro σ H2 ⟨vn, ys, es, rfl, h1, h2, h3, h4, h5, h6⟩
      refine nxp ?_
      refine ⟨_, rfl, _, _, rfl, .inl ⟨SqL.of h1, fun t nt => ?_⟩⟩
      rw [hxl, List.take_of_length_le (Nat.le_refl _)] at h3
      obtain ⟨os2, hos2⟩ := h5.at_s
      obtain ⟨ol2, hol2⟩ := h5.at_l
      refine q _ es _ ⟨cls_map ds es 1 h3 ht.cl, h4⟩ ?_ ((show But s H H2 from h6).trans (But.of (same_upd nt))) (h5.put (ne_of_none hos2 nt) (ne_of_none hol2 nt)) (.tup (SqT.of upd_same) (dp_sameAll (same_upd nt) _ _ (Im.dpAll _ _ h2)))
      have := congrArg List.length h3
      rwa [List.length_map, List.length_map] at this

theorem ok_end_of {f : Addr} {fd : FuncData} (F : Fun K "end_of" "end_of" s_end_of f fd) (E : Bi K mg) (D_arity_of : Has P w K mg base 2 "arity_of" ["node"] (sp_arity_of K)) : FnOk P w K mg base CX0 3 f fd ["nodes", "start"] (sp_end_of K) := by
  obtain ⟨f_arity_of, fd_arity_of, G_arity_of, g_arity_of, kp_arity_of, b_arity_of⟩ := D_arity_of
  refine F.ok sc_end_of (fun vs H Q E h => ?_) (fun cdv A outer s H vs Q E' hr h => ?_)
  · obtain ⟨x, ds, i, k, rfl, _⟩ := h
    rfl
  · obtain ⟨x, ds, i, k, rfl, hd, hn, hc, q⟩ := h
    refine ⟨_, (pss_cons (ps_set (i := 2) sc_end_of.nd rfl (Or.inl rfl) pe_int)
      (pss_cons (ps_set (i := 3) sc_end_of.nd rfl (Or.inl rfl) (pv 1))
      (pss_cons (ps_while PassesOwn.never (pt_cmpR op_gt (pv 2) pe_int (nomark _)) (pss_cons (ps_aug (i := 2) sc_end_of.nd rfl (Or.inl rfl) (pe_op op_sub (pe_call G_arity_of (hr.mono (by decide)) (by rfl) g_arity_of kp_arity_of b_arity_of .nil pass0 (pa_cons (pe_ix ix_tup (pv 0) (pv 3) (fun _ _ => rfl)) pa_nil)) pe_int) ip_add)
      (pss_one (ps_aug (i := 3) sc_end_of.nd rfl (Or.inl rfl) pe_int ip_add))))
      (pss_one (ps_ret (pv 3)))))), ?_⟩
    cases hd with
    | @tup a xs _ hs ha =>
    refine seq_asg (gname (seq_asg ?_))
    refine ⟨_, rfl, ?_⟩
    refine gname (seq_any ?_)
    refine ⟨fun n σ H' => ∃ (m j kk : Nat), σ = [some (.ref a), some (.int (i : Int)), some (.int (m : Int)), some (.int (j : Int))] ∧ H' = H ∧ Cls kk (ds.drop j) ∧ m ≤ kk ∧ j + tk m (ds.drop j) = i + tk 1 (ds.drop i) ∧ n = ds.length - j,
      ⟨_, 1, i, k + 1, rfl, rfl, hc, by omega, rfl, rfl⟩, ?_⟩
    rintro n σ H1 ⟨m, j, kk, rfl, rfl, h1, h2, h3, rfl⟩
    refine ⟨_, rfl, _, _, rfl, rfl, _, rfl, ite2 (fun e => ?_) (fun e => ?_)⟩
    · have hm : 0 < m := by
        have := of_decide_eq_true e
        omega
      cases hl : ds.drop j with
      | nil =>
        rw [hl] at h1
        have : kk = 0 := h1
        omega
      | cons d r =>
        rw [hl] at h1 h3
        have hj : j < ds.length := by
          rcases Nat.lt_or_ge j ds.length with h | h
          · exact h
          · rw [List.drop_of_length_le h] at hl; cases hl
        have hdj : ds[j]? = some d := by
          rw [← List.head?_drop, hl]
          rfl
        have hr : ds.drop (j + 1) = r := by
          rw [← List.drop_drop, hl]
          rfl
        obtain ⟨v, hv, hdv⟩ := DpAll.get ha hdj
        refine ⟨fun σ' H' => ∃ (m' kk' : Nat), σ' = [some (.ref a), some (.int (i : Int)), some (.int (m' : Int)), some (.int ((j + 1 : Nat) : Int))] ∧ H' = H1 ∧ Cls kk' (ds.drop (j + 1)) ∧ m' ≤ kk' ∧ j + 1 + tk m' (ds.drop (j + 1)) = i + tk 1 (ds.drop i),
          fun σ' H' ⟨m', kk', g1, g2, g3, g4, g5⟩ => ⟨ds.length - (j + 1), by omega, m', j + 1, kk', g1, g2, g3, g4, g5, rfl⟩, ?_⟩
        refine ⟨_, rfl, _, rfl, _, rfl, _, _, _, _, rfl, rfl, hs, atI_nat (j := j) hv, v, d, rfl, hdv, hn d (List.mem_of_getElem? hdj), _, _, rfl, rfl, _, _, rfl, rfl, ?_⟩
        refine ⟨_, rfl, _, _, rfl, rfl, ?_⟩
        refine ⟨m - 1 + arN d, kk - 1 + arN d, ?_, rfl, by rw [hr]; exact h1.2, by omega, ?_⟩
        · rw [show ((m - 1 + arN d : Nat) : Int) = (m : Int) + ((arN d : Int) - 1) by omega]
          rfl
        · rw [tk_cons hm] at h3
          rw [hr]
          omega
    · have hm : m = 0 := by
        cases m with
        | zero => rfl
        | succ m => exact absurd (decide_eq_true (by omega)) e
      subst hm
      refine nxp ?_
      refine ⟨_, rfl, ?_⟩
      rw [tk_zero] at h3
      rw [← h3] at q
      exact q

theorem ok__law_leaf {f : Addr} {fd : FuncData} (F : Fun K "_law_leaf" "_law_leaf" s__law_leaf f fd) (E : Bi K mg) (D__law_draw : Has P w K mg base 1 "_law_draw" ["stream", "many"] (sp__law_draw K)) (D__law_name : Has P w K mg base 2 "_law_name" ["stream"] (sp__law_name K)) : FnOk P w K mg base CX0 3 f fd ["stream", "widest"] (sp__law_leaf K) := by
  obtain ⟨f__law_draw, fd__law_draw, G__law_draw, g__law_draw, kp__law_draw, b__law_draw⟩ := D__law_draw
  obtain ⟨f__law_name, fd__law_name, G__law_name, g__law_name, kp__law_name, b__law_name⟩ := D__law_name
  refine F.ok sc__law_leaf (fun vs H Q E h => ?_) (fun cdv A outer s H vs Q E' hr h => ?_)
  · obtain ⟨s, l, wd, rfl, _⟩ := h
    rfl
  · obtain ⟨s, l, wd, rfl, hS, hw, hw2, q⟩ := h
    have n9 : (2 : Nat) ^ 140 ≤ 2 ^ 9000 := Nat.pow_le_pow_right (by decide) (by decide)
    refine ⟨_, (pss_cons (ps_set (i := 2) sc__law_leaf.nd rfl (Or.inl rfl) (pe_call G__law_draw (hr.mono (by decide)) (by rfl) g__law_draw kp__law_draw b__law_draw .nil pass0 (pa_cons (pv 0) (pa_cons pe_int pa_nil))))
      (pss_cons (ps_if (pw_and (pt_cmpR op_lt (pv 2) pe_int (nomark _)) (pw_and1 (pt_cmpR op_gt (pv 1) pe_int (nomark _)))).pt (pss_one (ps_ret (pe_tup (pa_cons pe_str (pa_cons (pe_call G__law_draw (hr.mono (by decide)) (by rfl) g__law_draw kp__law_draw b__law_draw .nil pass0 (pa_cons (pv 0) (pa_cons (pv 1) pa_nil))) pa_nil))))) pss_nil)
      (pss_cons (ps_if (pt_cmpR op_eq (pv 2) pe_int (nomark _)) (pss_one (ps_ret (pe_op op_sub (pe_call G__law_draw (hr.mono (by decide)) (by rfl) g__law_draw kp__law_draw b__law_draw .nil pass0 (pa_cons (pv 0) (pa_cons pe_int pa_nil))) pe_int))) pss_nil)
      (pss_cons (ps_if (pw_and (pt_cmpR op_eq (pv 2) pe_int (nomark _)) (pw_and1 (pt_cmpR op_eq (pe_call G__law_draw (hr.mono (by decide)) (by rfl) g__law_draw kp__law_draw b__law_draw .nil pass0 (pa_cons (pv 0) (pa_cons pe_int pa_nil))) pe_int (nomark _)))).pt (pss_one (ps_ret (pe_op op_sub (pe_call G__law_draw (hr.mono (by decide)) (by rfl) g__law_draw kp__law_draw b__law_draw .nil pass0 (pa_cons (pv 0) (pa_cons (pe_op op_pow pe_int pe_int) pa_nil))) (pe_call G__law_draw (hr.mono (by decide)) (by rfl) g__law_draw kp__law_draw b__law_draw .nil pass0 (pa_cons (pv 0) (pa_cons (pe_op op_pow pe_int pe_int) pa_nil)))))) pss_nil)
      (pss_one (ps_ret (pe_tup (pa_cons pe_str (pa_cons (pe_call G__law_name (hr.mono (by decide)) (by rfl) g__law_name kp__law_name b__law_name .nil pass0 (pa_cons (pv 0) pa_nil)) (pa_cons pe_int pa_nil)))))))))), ?_⟩
    have fin : ∀ H1 : Hp, But s H H1 → Stm H1 s l → ∀ x H2, okName x = true → But s H1 H2 → Stm H2 s l → ∀ p, H2 p = Option.none → Q (.ref p) (upd H2 p (.tup [.str "f", .str x, .int 0])) := by
      intro H1 b1 S1 x H2 hx b2 S2 p np
      obtain ⟨os, hos⟩ := S2.at_s
      obtain ⟨ol, hol⟩ := S2.at_l
      have hp : H p = Option.none := by
        cases e : H p with
        | none => rfl
        | some o =>
          by_cases z : p = s
          · rw [z, hos] at np; cases np
          · rw [b2 _ _ z (b1 _ _ z e)] at np; cases np
      exact q _ (.tuple [.str "f", .str x, .int 0]) _ (.f x 0 hx (by decide) (by decide)) rfl ((b1.trans b2).trans (But.of (same_upd np))) (S2.put (ne_of_none hos np) (ne_of_none hol np)) (.tup hp upd_same (.cons (.str _) (.cons (.str _) (.cons (.int _) .nil))))
    refine seq_asg ?_
    refine ⟨_, rfl, s, l, 5, rfl, hS, by decide, Nat.lt_of_lt_of_le (by decide) n9, fun pick H1 _ _ b1 S1 => ?_⟩
    refine gname (seq_ifN ?_)
    have fresh : ∀ (H2 : Hp), But s H H2 → Stm H2 s l → ∀ p, H2 p = Option.none → H p = Option.none := by
      intro H2 b2 S2 p np
      obtain ⟨os, hos⟩ := S2.at_s
      cases e : H p with
      | none => rfl
      | some o =>
        by_cases z : p = s
        · rw [z, hos] at np; cases np
        · rw [b2 _ _ z e] at np; cases np
    refine ⟨_, rfl, _, _, rfl, rfl, _, rfl, ite2 (fun e => ?_) (fun e => ?_)⟩
    · refine ⟨_, rfl, _, _, rfl, rfl, _, rfl, ite2 (fun e2 => ?_) (fun e2 => absurd (decide_eq_true hw) e2)⟩
      refine ⟨_, rfl, _, rfl, s, l, wd, rfl, S1, hw, Nat.lt_of_lt_of_le (show wd.natAbs < 2 ^ 140 from Nat.lt_of_le_of_lt (show wd.natAbs ≤ 1000 by omega) (by decide)) n9, fun r H2 r0 r1 b2 S2 => ⟨(by show 2 ≤ sizeLine; decide), fun p np => ?_⟩⟩
      obtain ⟨os, hos⟩ := S2.at_s
      obtain ⟨ol, hol⟩ := S2.at_l
      exact q _ (.tuple [.str "v", .int r]) _ (.v r r0 r1) rfl ((b1.trans b2).trans (But.of (same_upd np))) (S2.put (ne_of_none hos np) (ne_of_none hol np)) (.tup (fresh H2 (b1.trans b2) S2 p np) upd_same (.cons (.str _) (.cons (.int _) .nil)))
    · refine iteF (seq_ifN ?_)
      refine ⟨_, rfl, rfl, _, rfl, ite2 (fun e2 => ?_) (fun e2 => ?_)⟩
      · refine ⟨_, rfl, s, l, 10, rfl, S1, by decide, Nat.lt_of_lt_of_le (by decide) n9, fun r H2 r0 r1 b2 S2 => ⟨_, _, rfl, rfl, ?_⟩⟩
        exact q _ (.int (r - 4)) _ (.i _ (by omega) (by omega)) rfl (b1.trans b2) S2 (.int _)
      · refine seq_ifN ?_
        refine ⟨_, rfl, rfl, _, rfl, ite2 (fun e3 => ?_) (fun e3 => ?_)⟩
        · refine ⟨_, rfl, s, l, 4, rfl, S1, by decide, Nat.lt_of_lt_of_le (by decide) n9, fun r H2 r0 r1 b2 S2 => ⟨rfl, _, rfl, ite2 (fun e4 => ?_) (fun e4 => ?_)⟩⟩
          · have h40 : (10 : Int) ^ (40 : Int).toNat = 10 ^ 40 := rfl
            refine ⟨_, rfl, _, _, rfl, rfl, ⟨by decide, by decide, by decide⟩, s, l, _, rfl, S2, by decide, Nat.lt_of_lt_of_le (by decide) n9, fun r3 H3 r30 r31 b3 S3 => ?_⟩
            refine ⟨_, rfl, _, _, rfl, rfl, ⟨by decide, by decide, by decide⟩, s, l, _, rfl, S3, by decide, Nat.lt_of_lt_of_le (by decide) n9, fun r4 H4 r40 r41 b4 S4 => ⟨_, _, rfl, rfl, ?_⟩⟩
            rw [h40] at r31 r41
            exact q _ (.int (r3 - r4)) _ (.i _ (by omega) (by omega)) rfl (((b1.trans b2).trans b3).trans b4) S4 (.int _)
          · refine ⟨_, rfl, s, l, rfl, S2, fun x H3 hx b3 S3 => ⟨(by show 3 ≤ sizeLine; decide), fun p np => fin H2 (b1.trans b2) S2 x H3 hx b3 S3 p np⟩⟩
        · refine iteF ?_
          refine ⟨_, rfl, s, l, rfl, S1, fun x H3 hx b3 S3 => ⟨(by show 3 ≤ sizeLine; decide), fun p np => fin H1 b1 S1 x H3 hx b3 S3 p np⟩⟩

theorem ok_goal_form {f : Addr} {fd : FuncData} (F : Fun K "goal_form" "goal_form" s_goal_form f fd) (E : Bi K mg) (D_is_symbol : Has P w K mg base 1 "is_symbol" ["node"] (sp_is_symbol K)) (D_end_of : Has P w K mg base 3 "end_of" ["nodes", "start"] (sp_end_of K)) : FnOk P w K mg base CX0 4 f fd ["term"] (sp_goal_form K) := by
  obtain ⟨f_is_symbol, fd_is_symbol, G_is_symbol, g_is_symbol, kp_is_symbol, b_is_symbol⟩ := D_is_symbol
  obtain ⟨f_end_of, fd_end_of, G_end_of, g_end_of, kp_end_of, b_end_of⟩ := D_end_of
  obtain ⟨u_CALL_SYMBOL, v_CALL_SYMBOL, e_CALL_SYMBOL, r_CALL_SYMBOL, d_CALL_SYMBOL⟩ := E.c_CALL_SYMBOL
  obtain ⟨u_GOAL_SYMBOLS, v_GOAL_SYMBOLS, e_GOAL_SYMBOLS, r_GOAL_SYMBOLS, d_GOAL_SYMBOLS⟩ := E.c_GOAL_SYMBOLS
  refine F.ok sc_goal_form (fun vs H Q E h => ?_) (fun cdv A outer s H vs Q E' hr h => ?_)
  · obtain ⟨x, ds, rfl, _⟩ := h
    rfl
  · obtain ⟨x, ds, rfl, hd, hn, hc, hlen, q⟩ := h
    refine ⟨_, (pss_cons (ps_set (i := 1) sc_goal_form.nd rfl (Or.inl rfl) (pe_lst pa_nil))
      (pss_cons (ps_set (i := 2) sc_goal_form.nd rfl (Or.inl rfl) pe_int)
      (pss_cons (ps_while PassesOwn.never (pt_cmpR op_lt (pv 2) (pe_callB call_len_seq (by rfl) E.b_len PySem.boot_len (pa_cons (pv 0) pa_nil)) (nomark _)) (pss_cons (ps_set (i := 3) sc_goal_form.nd rfl (Or.inl rfl) (pe_op op_add (pv 2) pe_int))
      (pss_cons (ps_if (pt_not (pt_val (pe_call G_is_symbol (hr.mono (by decide)) (by rfl) g_is_symbol kp_is_symbol b_is_symbol .nil pass0 (pa_cons (pe_ix ix_tup (pv 0) (pv 2) (fun _ _ => rfl)) pa_nil)))) (pss_one (ps_expr (pe_bm PySem.F.plainAttrs_list PySem.F.slot_list_append PySem.F.type_list_append mt_append (pv 1) (pa_cons (pe_glob (by rfl) e_CALL_SYMBOL r_CALL_SYMBOL) pa_nil)))) (pss_one (ps_if (pt_cmpR (op_notInT (units65 hr)) (pe_ix ix_tup (pv 0) (pv 2) (fun _ _ => rfl)) (pe_glob (by rfl) e_GOAL_SYMBOLS r_GOAL_SYMBOLS) (by rfl)) (pss_one (ps_set (i := 3) sc_goal_form.nd rfl (Or.inl rfl) (pe_call G_end_of (hr.mono (by decide)) (by rfl) g_end_of kp_end_of b_end_of .nil pass0 (pa_cons (pv 0) (pa_cons (pv 2) pa_nil))))) pss_nil)))
      (pss_cons (ps_expr (pe_bm PySem.F.plainAttrs_list PySem.F.slot_list_extend PySem.F.type_list_extend mt_extT (pv 1) (pa_cons (pe_slice sl_tupA (pv 0) (po_some (pv 2)) (po_some (pv 3))) pa_nil)))
      (pss_one (ps_set (i := 2) sc_goal_form.nd rfl (Or.inl rfl) (pv 3)))))))
      (pss_one (ps_ret (pe_callTy call_tuple_of (by rfl) E.b_tuple (by decide +kernel) (pa_cons (pv 1) pa_nil))))))), ?_⟩
    cases hd with
    | @tup a xs0 _ hs ha =>
    have hl0 : xs0.length = ds.length := DpAll.len ha
    refine seq_asg ?_
    refine ⟨Nat.zero_le _, fun r nr => ?_⟩
    refine gname (seq_asg (gname (seq_any ?_)))
    refine ⟨fun n σ H' => ∃ (j kk : Nat) (ve : Option V) (xs : List V) (out : List PyData), σ = [some (.ref a), some (.ref r), some (.int (j : Int)), ve] ∧ Same H H' ∧ H' r = some (.lst xs) ∧ DpAll K H xs out ∧ out ++ form (List.replicate kk true) (ds.drop j) = form [true] ds ∧ Cls kk (ds.drop j) ∧ out.length ≤ 2 * j ∧ j ≤ ds.length ∧ n = ds.length - j,
      ⟨_, 0, 1, none, [], [], rfl, same_upd nr, upd_same, .nil, rfl, hc, Nat.le_refl _, Nat.zero_le _, rfl⟩, ?_⟩
    rintro n σ H1 ⟨j, kk, ve, xs, out, rfl, h1, h2, h3, h4, h5, h6, h7, rfl⟩
    have hs1 := same_sqT h1 hs
    have hxl : xs.length = out.length := DpAll.len h3
    refine ⟨_, rfl, _, rfl, a, xs0, rfl, .inr hs1, _, _, rfl, rfl, _, rfl, ite2 (fun e => ?_) (fun e => ?_)⟩
    · have hj : j < ds.length := by
        have := of_decide_eq_true e
        omega
      cases hl : ds.drop j with
      | nil =>
        have := congrArg List.length hl
        rw [List.length_drop, List.length_nil] at this
        omega
      | cons d r' =>
      rw [hl] at h4 h5
      have hdj : ds[j]? = some d := by
        rw [← List.head?_drop, hl]
        rfl
      have hr : ds.drop (j + 1) = r' := by
        rw [← List.drop_drop, hl]
        rfl
      obtain ⟨kp, rfl⟩ : ∃ kp, kk = kp + 1 := ⟨kk - 1, by have := h5.1; omega⟩
      have h5' : Cls (kp + arN d) r' := by
        have := h5.2
        rwa [Nat.add_sub_cancel] at this
      have ndd : NdA d := hn d (List.mem_of_getElem? hdj)
      obtain ⟨v, hv, hdv⟩ := DpAll.get ha hdj
      have e4 : form (List.replicate (kp + 1) true) (d :: r') = (if isSymN d then d :: form (List.replicate (arN d) (true && isGoal d) ++ List.replicate kp true) r' else if true then callN :: d :: form (List.replicate kp true) r' else d :: form (List.replicate kp true) r') := rfl
      rw [e4] at h4
      refine ⟨fun σ' H' => ∃ (j' kk' : Nat) (ve : Option V) (xs : List V) (out : List PyData), σ' = [some (.ref a), some (.ref r), some (.int (j' : Int)), ve] ∧ Same H H' ∧ H' r = some (.lst xs) ∧ DpAll K H xs out ∧ out ++ form (List.replicate kk' true) (ds.drop j') = form [true] ds ∧ Cls kk' (ds.drop j') ∧ out.length ≤ 2 * j' ∧ j' ≤ ds.length ∧ j < j',
        fun σ' H' ⟨j', kk', ve, xs, out, g1, g2, g3, g4, g5, g6, g7, g8, g9⟩ => ⟨ds.length - j', by omega, j', kk', ve, xs, out, g1, g2, g3, g4, g5, g6, g7, g8, rfl⟩, ?_⟩
      -- end = at + 1
      refine seq_asg ?_
      refine ⟨_, rfl, _, _, rfl, rfl, ?_⟩
      refine gname (seq_any ?_)
      have same_put : ∀ ys, Same H (upd H1 r (.lst ys)) := fun ys b o eb => by
        rw [upd_ne (ne_of_none eb nr)]
        exact h1 b o eb
      refine ⟨_, rfl, _, rfl, _, _, _, _, rfl, rfl, hs1, atI_nat (j := j) hv, v, d, rfl, dp_same h1 _ _ hdv, ndd, _, rfl, ?_⟩
      have t1 : (ds.drop j).take (j + 1 - j) = [d] := by
        rw [hl, show j + 1 - j = 1 by omega]
        rfl
      cases hsd : isSymN d with
      | false =>
        rw [hsd] at h4
        rw [arN_nsym hsd, Nat.add_zero] at h5'
        refine iteT ?_
        refine ⟨_, rfl, .inl ⟨rfl, _, SqL.of h2⟩, _, _, _, rfl, rfl, h2, small1000 (by omega), ?_⟩
        refine nxp ?_
        refine seq_any ?_
        refine ⟨_, rfl, .inl ⟨rfl, _, SqL.of upd_same⟩, _, rfl, _, rfl, _, rfl, _, rfl, _, rfl, ?_⟩
        show rSlA _ _ (some (j : Int)) (some ((j + 1 : Nat) : Int)) _ _
        refine slA_nat (i := j) (j := (j + 1)) (same_sqT (same_put _) hs) (by omega) (by omega) fun b H3 s3 hb fr3 => ?_
        refine ⟨r, b, _, _, rfl, rfl, s3 _ _ upd_same, hb, small_of (by rw [List.length_take, List.length_drop]; rw [List.length_append]; show xs.length + 1 + _ ≤ 1000; omega), ?_⟩
        refine nxp (asg1 ?_)
        refine ⟨_, rfl, gname ?_⟩
        refine ⟨j + 1, kp, _, _, (out ++ [callN]) ++ (ds.drop j).take (j + 1 - j), rfl, fun b o eb => by rw [upd_ne (ne_of_none eb nr)]; exact s3 b o (same_put _ b o eb), upd_same, DpAll.app (DpAll.app h3 (.cons (dp_same (none_same H) _ _ d_CALL_SYMBOL) .nil)) (DpAll.taket _ (DpAll.dropt _ ha)), ?_, by rw [hr]; exact h5', ?_, by omega, by omega⟩
        · rw [t1, hr, ← h4, List.append_assoc, List.append_assoc]
          rfl
        · rw [t1, List.length_append, List.length_append]
          show out.length + 1 + 1 ≤ 2 * (j + 1)
          omega
      | true =>
        rw [hsd] at h4
        refine iteF ?_
        refine ⟨_, rfl, _, rfl, _, _, _, _, rfl, rfl, hs1, atI_nat (j := j) hv, d, gsyms, dp_same h1 _ _ hdv, dp_same (none_same H1) _ _ d_GOAL_SYMBOLS, nd_shaped ndd, by decide +kernel, _, rfl, ?_⟩
        show if (!isGoal d) = true then _ else _
        cases hg : isGoal d with
        | true =>
          rw [hg] at h4
          refine iteF (nxp ?_)
          refine seq_any ?_
          refine ⟨_, rfl, .inl ⟨rfl, _, SqL.of h2⟩, _, rfl, _, rfl, _, rfl, _, rfl, _, rfl, ?_⟩
          show rSlA _ _ (some (j : Int)) (some ((j + 1 : Nat) : Int)) _ _
          refine slA_nat (i := j) (j := (j + 1)) (same_sqT h1 hs) (by omega) (by omega) fun b H3 s3 hb fr3 => ?_
          refine ⟨r, b, _, _, rfl, rfl, s3 _ _ h2, hb, small_of (by rw [List.length_take, List.length_drop]; omega), ?_⟩
          refine nxp (asg1 ?_)
          refine ⟨_, rfl, gname ?_⟩
          refine ⟨j + 1, kp + arN d, _, _, out ++ (ds.drop j).take (j + 1 - j), rfl, fun b o eb => by rw [upd_ne (ne_of_none eb nr)]; exact s3 b o (h1 b o eb), upd_same, DpAll.app h3 (DpAll.taket _ (DpAll.dropt _ ha)), ?_, by rw [hr]; exact h5', ?_, by omega, by omega⟩
          · rw [t1, hr, ← h4, List.append_assoc, Nat.add_comm kp, ← List.replicate_append_replicate]
            rfl
          · rw [t1, List.length_append]
            show out.length + 1 ≤ 2 * (j + 1)
            omega
        | false =>
          rw [hg] at h4
          refine iteT (asg1 ?_)
          have etk : tk 1 (ds.drop j) = 1 + tk (arN d) r' := by
            rw [hl, tk_cons (by omega), show 1 - 1 + arN d = arN d by omega]
          have hle := tk_le (ds.drop j) 1
          rw [List.length_drop] at hle
          refine ⟨_, rfl, _, rfl, .ref a, ds, j, kp, rfl, .tup hs1 (dp_sameAll h1 _ _ ha), hn, by rw [hl]; exact h5, gname (nxp ?_)⟩
          generalize hE : j + tk 1 (ds.drop j) = e1
          have hdrop : ds.drop e1 = r'.drop (tk (arN d) r') := by
            rw [← hE, ← List.drop_drop, hl, ← hl, etk, hl, Nat.add_comm, List.drop_succ_cons]
          have htake : (ds.drop j).take (e1 - j) = d :: r'.take (tk (arN d) r') := by
            rw [← hE, etk, hl, show j + (1 + tk (arN d) r') - j = tk (arN d) r' + 1 by omega, List.take_succ_cons]
          refine seq_any ?_
          refine ⟨_, rfl, .inl ⟨rfl, _, SqL.of h2⟩, _, rfl, _, rfl, _, rfl, _, rfl, _, rfl, ?_⟩
          show rSlA _ _ (some (j : Int)) (some (e1 : Int)) _ _
          refine slA_nat (i := j) (j := e1) (same_sqT h1 hs) (by omega) (by omega) fun b H3 s3 hb fr3 => ?_
          refine ⟨r, b, _, _, rfl, rfl, s3 _ _ h2, hb, small_of (by rw [List.length_take, List.length_drop]; omega), ?_⟩
          refine nxp (asg1 ?_)
          refine ⟨_, rfl, gname ?_⟩
          have hcd := cls_drop r' (kp + arN d) (arN d) h5' (by omega)
          rw [Nat.add_sub_cancel] at hcd
          have hfa := form_app r' (List.replicate (arN d) false) (List.replicate kp true) (kp + arN d) h5' (by rw [List.length_replicate]; omega)
          rw [List.length_replicate, form_false] at hfa
          refine ⟨e1, kp, _, _, out ++ (ds.drop j).take (e1 - j), rfl, fun b o eb => by rw [upd_ne (ne_of_none eb nr)]; exact s3 b o (h1 b o eb), upd_same, DpAll.app h3 (DpAll.taket _ (DpAll.dropt _ ha)), ?_, by rw [hdrop]; exact hcd, ?_, by omega, by omega⟩
          · rw [htake, hdrop, ← h4, List.append_assoc, if_pos rfl, Bool.and_false, hfa]
            rfl
          · rw [List.length_append, List.length_take, List.length_drop]
            omega
    · have hj : j = ds.length := by
        have : ¬ ((j : Int) < (xs0.length : Int)) := fun z => e (decide_eq_true z)
        omega
      subst hj
      refine nxp ?_
      rw [List.drop_of_length_le (Nat.le_refl _), form_nil, List.append_nil] at h4
      refine ⟨_, rfl, _, _, rfl, .inl ⟨SqL.of h2, fun t nt => ?_⟩⟩
      refine q _ _ (h1.trans (same_upd nt)) ?_
      rw [← h4]
      exact .tup (SqT.of upd_same) (dp_sameAll (h1.trans (same_upd nt)) _ _ h3)

theorem ok__law_term {f : Addr} {fd : FuncData} (F : Fun K "_law_term" "_law_term" s__law_term f fd) (E : Bi K mg) (D__law_draw : Has P w K mg base 1 "_law_draw" ["stream", "many"] (sp__law_draw K)) (D__law_name : Has P w K mg base 2 "_law_name" ["stream"] (sp__law_name K)) (D__law_leaf : Has P w K mg base 3 "_law_leaf" ["stream", "widest"] (sp__law_leaf K)) : FnOk P w K mg base CX0 4 f fd ["stream", "size", "widest"] (sp__law_term K) := by
  obtain ⟨f__law_draw, fd__law_draw, G__law_draw, g__law_draw, kp__law_draw, b__law_draw⟩ := D__law_draw
  obtain ⟨f__law_name, fd__law_name, G__law_name, g__law_name, kp__law_name, b__law_name⟩ := D__law_name
  obtain ⟨f__law_leaf, fd__law_leaf, G__law_leaf, g__law_leaf, kp__law_leaf, b__law_leaf⟩ := D__law_leaf
  refine F.ok sc__law_term (fun vs H Q E h => ?_) (fun cdv A outer s H vs Q E' hr h => ?_)
  · obtain ⟨s, l, n, wd, rfl, _⟩ := h
    rfl
  · obtain ⟨s, l, n, wd, rfl, hS, hn, hn2, hw, hw2, q⟩ := h
    have n9 : (2 : Nat) ^ 140 ≤ 2 ^ 9000 := Nat.pow_le_pow_right (by decide) (by decide)
    refine ⟨_, (pss_cons (ps_set (i := 3) sc__law_term.nd rfl (Or.inl rfl) (pe_lst pa_nil))
      (pss_cons (ps_set (i := 4) sc__law_term.nd rfl (Or.inl rfl) pe_int)
      (pss_cons (ps_while PassesOwn.never (pt_cmpR op_gt (pv 4) pe_int (nomark _)) (pss_cons (ps_set (i := 4) sc__law_term.nd rfl (Or.inl rfl) (pe_op op_sub (pv 4) pe_int))
      (pss_cons (ps_set (i := 5) sc__law_term.nd rfl (Or.inl rfl) (pe_op op_sub (pe_op op_sub (pe_op op_sub (pv 1) (pe_callB call_len_seq (by rfl) E.b_len PySem.boot_len (pa_cons (pv 3) pa_nil))) (pv 4)) pe_int))
      (pss_one (ps_if (pw_and (pt_cmpR op_gt (pv 5) pe_int (nomark _)) (pw_and1 (pt_cmpR op_gt (pe_call G__law_draw (hr.mono (by decide)) (by rfl) g__law_draw kp__law_draw b__law_draw .nil pass0 (pa_cons (pv 0) (pa_cons pe_int pa_nil))) pe_int (nomark _)))).pt (pss_cons (ps_set (i := 6) sc__law_term.nd rfl (Or.inl rfl) (pe_op op_add pe_int (pe_call G__law_draw (hr.mono (by decide)) (by rfl) g__law_draw kp__law_draw b__law_draw .nil pass0 (pa_cons (pv 0) (pa_cons (pe_callB (call_min2 rfl) (by rfl) E.b_min (by decide +kernel) (pa_cons (pv 5) (pa_cons (pe_op op_add pe_int (pe_op op_mul pe_int (pe_callTy call_int1 (by rfl) E.b_int (by decide +kernel) (pa_cons (pe_cmpR op_eq (pe_call G__law_draw (hr.mono (by decide)) (by rfl) g__law_draw kp__law_draw b__law_draw .nil pass0 (pa_cons (pv 0) (pa_cons pe_int pa_nil))) pe_int (nomark _)) pa_nil)))) pa_nil))) pa_nil)))))
      (pss_cons (ps_set (i := 6) sc__law_term.nd rfl (Or.inl rfl) (pe_callB (call_min2 rfl) (by rfl) E.b_min (by decide +kernel) (pa_cons (pv 6) (pa_cons pe_int pa_nil))))
      (pss_cons (ps_expr (pe_bm PySem.F.plainAttrs_list PySem.F.slot_list_append PySem.F.type_list_append mt_append (pv 3) (pa_cons (pe_tup (pa_cons pe_str (pa_cons (pe_call G__law_name (hr.mono (by decide)) (by rfl) g__law_name kp__law_name b__law_name .nil pass0 (pa_cons (pv 0) pa_nil)) (pa_cons (pv 6) pa_nil)))) pa_nil)))
      (pss_one (ps_set (i := 4) sc__law_term.nd rfl (Or.inl rfl) (pe_op op_add (pv 4) (pv 6))))))) (pss_one (ps_expr (pe_bm PySem.F.plainAttrs_list PySem.F.slot_list_append PySem.F.type_list_append mt_append (pv 3) (pa_cons (pe_call G__law_leaf (hr.mono (by decide)) (by rfl) g__law_leaf kp__law_leaf b__law_leaf .nil pass0 (pa_cons (pv 0) (pa_cons (pv 2) pa_nil))) pa_nil)))))))))
      (pss_one (ps_ret (pe_callTy call_tuple_of (by rfl) E.b_tuple (by decide +kernel) (pa_cons (pv 3) pa_nil))))))), ?_⟩
    refine seq_asg ?_
    refine ⟨Nat.zero_le _, fun r nr => ?_⟩
    refine gname (seq_asg (gname (seq_any ?_)))
    obtain ⟨os, hos⟩ := hS.at_s
    obtain ⟨ol, hol⟩ := hS.at_l
    have sr : s ≠ r := ne_of_none hos nr
    have lr : l ≠ r := ne_of_none hol nr
    refine ⟨fun k σ H' => ∃ (m : Nat) (va vb : Option V) (xs : List V) (ds : List PyData), σ = [some (.ref s), some (.int n), some (.int wd), some (.ref r), some (.int (m : Int)), va, vb] ∧ H' r = some (.lst xs) ∧ ImAll K (fun b => H b = Option.none ∧ b ≠ r) H' xs ds ∧
        (∀ t, Cls m t → Cls 1 (ds ++ t)) ∧ (∀ d ∈ ds, Nd wd d) ∧ (ds.length : Int) + m ≤ n ∧ Stm H' s l ∧ But s H H' ∧ k = n.toNat - ds.length,
      ⟨_, 1, _, _, [], [], rfl, upd_same, .nil, fun t h => h, (fun d hd => nomatch hd), by show (0 : Int) + 1 ≤ n; omega, hS.put sr lr, But.of (same_upd nr), rfl⟩, ?_⟩
    rintro k σ H1 ⟨m, va, vb, xs, ds, rfl, h1, h2, h3, h4, h5, h6, h7, rfl⟩
    have hxl : xs.length = ds.length := h2.len
    refine ⟨_, rfl, _, _, rfl, rfl, _, rfl, ite2 (fun e => ?_) (fun e => ?_)⟩
    · have hm : 0 < m := by
        have := of_decide_eq_true e
        omega
      refine ⟨fun σ' H' => ∃ (m' : Nat) (va vb : Option V) (xs' : List V) (ds' : List PyData), σ' = [some (.ref s), some (.int n), some (.int wd), some (.ref r), some (.int (m' : Int)), va, vb] ∧ H' r = some (.lst xs') ∧ ImAll K (fun b => H b = Option.none ∧ b ≠ r) H' xs' ds' ∧
        (∀ t, Cls m' t → Cls 1 (ds' ++ t)) ∧ (∀ d ∈ ds', Nd wd d) ∧ (ds'.length : Int) + m' ≤ n ∧ Stm H' s l ∧ But s H H' ∧ ds'.length = ds.length + 1,
        fun σ' H' ⟨m', va', vb', xs', ds', g1, g2, g3, g4, g5, g6, g7, g8, g9⟩ => ⟨n.toNat - ds'.length, by omega, m', va', vb', xs', ds', g1, g2, g3, g4, g5, g6, g7, g8, rfl⟩, ?_⟩
      -- missing = missing - 1; room = ..
      refine seq_asg ?_
      refine ⟨_, rfl, _, _, rfl, rfl, ?_⟩
      refine gname (seq_asg ?_)
      refine ⟨_, rfl, _, rfl, _, _, rfl, .inl (SqL.of h1), _, _, rfl, rfl, _, rfl, _, _, rfl, rfl, _, _, rfl, rfl, ?_⟩
      refine gname ?_
      -- a new node is put behind
      have put : ∀ (H2 : Hp) (v : V) (d : PyData), But s H1 H2 → Stm H2 s l → Im K (fun b => H1 b = Option.none) H2 v d → Nd wd d → ∀ (m' : Nat) (z : Int), z = (m' : Int) → m' = m - 1 + arN d → (ds.length : Int) + 1 + m' ≤ n → ∀ va vb,
          ∃ (m'' : Nat) (va' vb' : Option V) (xs' : List V) (ds' : List PyData), [some (.ref s), some (.int n), some (.int wd), some (.ref r), some (.int z), va, vb] = [some (.ref s), some (.int n), some (.int wd), some (.ref r), some (.int (m'' : Int)), va', vb'] ∧ (upd H2 r (.lst (xs ++ [v]))) r = some (.lst xs') ∧ ImAll K (fun b => H b = Option.none ∧ b ≠ r) (upd H2 r (.lst (xs ++ [v]))) xs' ds' ∧
            (∀ t, Cls m'' t → Cls 1 (ds' ++ t)) ∧ (∀ d ∈ ds', Nd wd d) ∧ (ds'.length : Int) + m'' ≤ n ∧ Stm (upd H2 r (.lst (xs ++ [v]))) s l ∧ But s H (upd H2 r (.lst (xs ++ [v]))) ∧ ds'.length = ds.length + 1 := by
        intro H2 v d b2 S2 iv nd m' z hz em hle va vb
        have k1 : ∀ b o, (H b = Option.none ∧ b ≠ r) → H1 b = some o → (upd H2 r (.lst (xs ++ [v]))) b = some o := fun b o g e => by
          rw [upd_ne g.2]
          exact b2 b o (fun z => by rw [z, hos] at g; cases g.1) e
        have k2 : ∀ b o, H1 b = Option.none → H2 b = some o → (upd H2 r (.lst (xs ++ [v]))) b = some o := fun b o g e => by
          rw [upd_ne (fun z => by rw [z, h1] at g; cases g)]
          exact e
        have k3 : ∀ b, H1 b = Option.none → H b = Option.none ∧ b ≠ r := fun b g => by
          refine ⟨?_, fun z => by rw [z, h1] at g; cases g⟩
          cases eh : H b with
          | none => rfl
          | some o =>
            by_cases z : b = s
            · obtain ⟨o1, ho1⟩ := h6.at_s
              rw [z, ho1] at g; cases g
            · rw [h7 _ _ z eh] at g; cases g
        have k4 : ∀ t, Cls m' t → Cls 1 ((ds ++ [d]) ++ t) := fun t ht => by
          rw [List.append_assoc]
          exact h3 _ ⟨hm, by rw [em] at ht; exact ht⟩
        have k5 : ∀ d' ∈ ds ++ [d], Nd wd d' := fun d' hd' => by
          rcases List.mem_append.mp hd' with z | z
          · exact h4 _ z
          · rw [List.mem_singleton.mp z]; exact nd
        have k6 : ((ds ++ [d]).length : Int) + (m' : Int) ≤ n := by
          rw [List.length_append]
          show ((ds.length + 1 : Nat) : Int) + (m' : Int) ≤ n
          omega
        have k7 : But s H (upd H2 r (.lst (xs ++ [v]))) := fun b o hb e => by
          rw [upd_ne (ne_of_none e nr)]
          exact b2 b o hb (h7 b o hb e)
        exact ⟨m', va, vb, xs ++ [v], ds ++ [d], by rw [hz], upd_same, ImAll.snoc (Im.monoAll k1 (fun _ g => g) _ _ h2) (Im.mono k2 k3 _ _ iv), k4, k5, k6, S2.put sr lr, k7, by rw [List.length_append]; rfl⟩
      have hm1 : (m : Int) - 1 = ((m - 1 : Nat) : Int) := by omega
      -- if room > 0 and draw > 0
      refine ⟨_, rfl, _, _, rfl, rfl, _, rfl, ite2 (fun e1 => ?_) (fun e1 => ?_)⟩
      · have hroom : 0 < n - (xs.length : Int) - ((m : Int) - 1) - 1 := of_decide_eq_true e1
        refine ⟨_, rfl, s, l, 3, rfl, h6, by decide, Nat.lt_of_lt_of_le (by decide) n9, fun r1 H2 _ _ b2 S2 => ⟨_, _, rfl, rfl, _, rfl, ite2 (fun e2 => ?_) (fun e2 => ?_)⟩⟩
        · refine seq_asg ?_
          refine ⟨_, rfl, _, rfl, _, rfl, s, l, 8, rfl, S2, by decide, Nat.lt_of_lt_of_le (by decide) n9, fun r2 H3 _ _ b3 S3 => ⟨rfl, .inr ⟨_, rfl, _, _, rfl, rfl, .inl ⟨by decide, by decide⟩, _, _, rfl, rfl, _, _, rfl, ?_⟩⟩⟩
          have hk : (0 : Int) ≤ (if decide (V.int r2 = V.int 0) = true then 1 else 0) ∧ (if decide (V.int r2 = V.int 0) = true then (1 : Int) else 0) ≤ 1 := by split <;> decide
          generalize (if decide (V.int r2 = V.int 0) = true then (1 : Int) else 0) = k at hk
          refine ⟨s, l, _, rfl, S3, by split <;> omega, Nat.lt_of_lt_of_le (show _ < 2 ^ 140 from Nat.lt_of_le_of_lt (show _ ≤ 1000 by split <;> omega) (by decide)) n9, fun r3 H4 r30 r31 b4 S4 => ⟨_, _, rfl, rfl, ?_⟩⟩
          have h3r : 1 + r3 ≤ n - (xs.length : Int) - ((m : Int) - 1) - 1 := by
            split at r31 <;> omega
          refine gname (seq_asg ?_)
          refine ⟨_, rfl, _, _, rfl, ?_⟩
          refine gname (seq_any ?_)
          have har : 1 ≤ (if (8 : Int) < 1 + r3 then 8 else 1 + r3) ∧ (if (8 : Int) < 1 + r3 then 8 else 1 + r3) ≤ 8 ∧ (if (8 : Int) < 1 + r3 then 8 else 1 + r3) ≤ 1 + r3 := by split <;> omega
          have e4 : H4 r = some (.lst xs) := b4 _ _ sr.symm (b3 _ _ sr.symm (b2 _ _ sr.symm h1))
          generalize hga : (if (8 : Int) < 1 + r3 then (8 : Int) else 1 + r3) = ar at har
          obtain ⟨ha1, ha8, har3⟩ := har
          refine ⟨_, rfl, .inl ⟨rfl, _, SqL.of e4⟩, _, rfl, s, l, rfl, S4, fun x H5 hx b5 S5 => ⟨_, rfl, (by show 3 ≤ sizeLine; decide), fun p np => ?_⟩⟩
          have e5 : H5 r = some (.lst xs) := b5 _ _ sr.symm e4
          obtain ⟨os5, hos5⟩ := S5.at_s
          obtain ⟨ol5, hol5⟩ := S5.at_l
          have bb : But s H1 H5 := ((b2.trans b3).trans b4).trans b5
          have fp : H1 p = Option.none := by
            cases eh : H1 p with
            | none => rfl
            | some o =>
              by_cases z : p = s
              · rw [z, hos5] at np; cases np
              · rw [bb _ _ z eh] at np; cases np
          have rp : r ≠ p := ne_of_none e5 np
          refine ⟨_, _, _, rfl, rfl, by rw [upd_ne rp]; exact e5, small1000 (by omega), ?_⟩
          refine nxp (asg1 ?_)
          refine ⟨_, rfl, _, rfl, _, _, rfl, rfl, ?_⟩
          refine gname ?_
          have ea : arN (.tuple [.str "f", .str x, .int ar]) = ar.toNat := rfl
          exact put _ (.ref p) (.tuple [.str "f", .str x, .int ar]) (bb.trans (But.of (same_upd np))) (S5.put (ne_of_none hos5 np) (ne_of_none hol5 np)) (.tup fp upd_same (.cons (.str _) (.cons (.str _) (.cons (.int _) .nil)))) (.f x ar hx (by omega) ha8) (m - 1 + ar.toNat) _ (by omega) rfl (by omega) _ _
        · have e2r : H2 r = some (.lst xs) := b2 _ _ sr.symm h1
          refine ⟨_, rfl, .inl ⟨rfl, _, SqL.of e2r⟩, _, rfl, _, rfl, s, l, wd, rfl, S2, hw, hw2, fun v d H3 nd na b3 S3 iv => ?_⟩
          have fr : ∀ b, H2 b = Option.none → H1 b = Option.none := fun b g => by
            cases eh : H1 b with
            | none => rfl
            | some o =>
              by_cases z : b = s
              · obtain ⟨o1, ho1⟩ := S2.at_s
                rw [z, ho1] at g; cases g
              · rw [b2 _ _ z eh] at g; cases g
          refine ⟨_, _, _, rfl, rfl, b3 _ _ sr.symm e2r, small1000 (by omega), ?_⟩
          exact put H3 v d (b2.trans b3) S3 (Im.mono (fun _ _ _ e => e) fr _ _ iv) nd (m - 1) _ hm1 (by rw [na]; rfl) (by omega) _ _
      · refine iteF ?_
        refine ⟨_, rfl, .inl ⟨rfl, _, SqL.of h1⟩, _, rfl, _, rfl, s, l, wd, rfl, h6, hw, hw2, fun v d H3 nd na b3 S3 iv => ?_⟩
        refine ⟨_, _, _, rfl, rfl, b3 _ _ sr.symm h1, small1000 (by omega), ?_⟩
        exact put H3 v d b3 S3 iv nd (m - 1) _ hm1 (by rw [na]; rfl) (by omega) _ _
    · refine nxp ?_
      have hm : m = 0 := by
        cases m with
        | zero => rfl
        | succ m => exact absurd (decide_eq_true (by omega)) e
      subst hm
      have ht : Term wd ds := ⟨by have := h3 [] rfl; rwa [List.append_nil] at this, h4⟩
      refine ⟨_, rfl, _, _, rfl, .inl ⟨SqL.of h1, fun t nt => ?_⟩⟩
      obtain ⟨os1, hos1⟩ := h6.at_s
      obtain ⟨ol1, hol1⟩ := h6.at_l
      have ft : H t = Option.none := by
        cases eh : H t with
        | none => rfl
        | some o =>
          by_cases z : t = s
          · rw [z, hos1] at nt; cases nt
          · rw [h7 _ _ z eh] at nt; cases nt
      exact q _ ds _ ht (by omega) (h7.trans (But.of (same_upd nt))) (h6.put (ne_of_none hos1 nt) (ne_of_none hol1 nt)) (.tup ft upd_same (Im.monoAll (fun b o _ e => same_upd nt b o e) (fun _ g => g.1) _ _ h2))

theorem ok__law_formN {f : Addr} {fd : FuncData} (F : Fun K "_law_form" "_law_form" s__law_form f fd) (E : Bi K mg) (D__law_end : Has P w K mg base 1 "_law_end" ["term", "at"] (sp__law_end K)) (g__law_form : mg "_law_form" = some (.ref f)) (b__law_form : Binds K fd ["term", "at", "goal"] []) :
    ∀ n, FnOk P w K mg base CX0 (n + 4) f fd ["term", "at", "goal"] (sp__law_formN K n)
  | 0 => by
    refine ⟨fun vs H Q E h => ?_, fun A outer s H args us vs Q E hr he hb hv h => ?_⟩
    · obtain ⟨x, ds, i, k, g, rfl, _⟩ := h
      rfl
    · obtain ⟨x, ds, i, k, g, rfl, hd, hn, hc, hlt, _⟩ := h
      rw [List.drop_of_length_le (by omega)] at hc
      cases hc
  | m + 1 => by
    obtain ⟨f__law_end, fd__law_end, G__law_end, g__law_end, kp__law_end, b__law_end⟩ := D__law_end
    have G__law_form := ok__law_formN F E ⟨f__law_end, fd__law_end, G__law_end, g__law_end, kp__law_end, b__law_end⟩ g__law_form b__law_form m
    have kp__law_form := F.kp
    refine F.ok (k := m + 4) sc__law_form (fun vs H Q E h => ?_) (fun cdv A outer s H vs Q E' hr h => ?_)
    · obtain ⟨x, ds, i, k, g, rfl, _⟩ := h
      rfl
    · obtain ⟨x, ds, i, k, g, rfl, hd, hn, hc, hlt, h400, q⟩ := h
      refine ⟨_, (pss_cons (ps_set (i := 3) sc__law_form.nd rfl (Or.inl rfl) (pe_ix ix_tup (pv 0) (pv 1) (fun _ _ => rfl)))
      (pss_cons (ps_if (pw_or (pt_not (pt_val (pe_callB call_isi (by rfl) E.b_isinstance (by decide +kernel) (pa_cons (pv 3) (pa_cons (pe_ty "tuple" (by rfl) E.b_tuple (by decide +kernel)) pa_nil))))) (pw_or1 (pt_cmpR op_eq (pe_ix ix_tup (pv 3) pe_int (fun _ _ => rfl)) pe_str (nomark _)))).pt (pss_cons (ps_if (pt_val (pv 2)) (pss_one (ps_ret (pe_tup (pa_cons (pe_tup (pa_cons pe_str (pa_cons pe_str (pa_cons pe_int pa_nil)))) (pa_cons (pv 3) pa_nil))))) pss_nil)
      (pss_one (ps_ret (pe_tup (pa_cons (pv 3) pa_nil))))) pss_nil)
      (pss_cons (ps_set (i := 4) sc__law_form.nd rfl (Or.inl rfl) (pe_and (pv 2) (pe_one (pe_cmpR (op_inT (units65 hr)) (pe_slice sl_tupA (pv 3) (po_some pe_int) po_none) (pe_tup (pa_cons (pe_tup (pa_cons pe_str (pa_cons pe_int pa_nil))) (pa_cons (pe_tup (pa_cons pe_str (pa_cons pe_int pa_nil))) (pa_cons (pe_tup (pa_cons pe_str (pa_cons pe_int pa_nil))) (pa_cons (pe_tup (pa_cons pe_str (pa_cons pe_int pa_nil))) pa_nil))))) (by rfl)))))
      (pss_cons (ps_set (i := 5) sc__law_form.nd rfl (Or.inl rfl) (pe_tup (pa_cons (pv 3) pa_nil)))
      (pss_cons (ps_set (i := 1) sc__law_form.nd rfl (Or.inl rfl) (pe_op op_add (pv 1) pe_int))
      (pss_cons (ps_for PassesOwn.never rfl (pi_range1 (by rfl) E.b_range (pa_cons (pe_ix ix_tup (pv 3) pe_int (fun _ _ => rfl)) pa_nil)) (pg_name (i := 6) sc__law_form.nd rfl (Or.inl rfl)) (pss_cons (ps_set (i := 5) sc__law_form.nd rfl (Or.inl rfl) (pe_op op_catT (pv 5) (pe_call G__law_form (hr.mono (by omega)) (by rfl) g__law_form kp__law_form b__law_form .nil pass0 (pa_cons (pv 0) (pa_cons (pv 1) (pa_cons (pv 4) pa_nil))))))
      (pss_one (ps_set (i := 1) sc__law_form.nd rfl (Or.inl rfl) (pe_call G__law_end (hr.mono (by omega)) (by rfl) g__law_end kp__law_end b__law_end .nil pass0 (pa_cons (pv 0) (pa_cons (pv 1) pa_nil)))))))
      (pss_one (ps_ret (pv 5))))))))), ?_⟩
      have hd0 := hd
      cases hd with
      | @tup a xs _ hs ha =>
      cases hl : ds.drop i with
      | nil =>
        rw [hl] at hc
        cases hc
      | cons d r =>
      have hi : i < ds.length := by
        rcases Nat.lt_or_ge i ds.length with h | h
        · exact h
        · rw [List.drop_of_length_le h] at hl; cases hl
      have hdi : ds[i]? = some d := by
        rw [← List.head?_drop, hl]
        rfl
      have hr1 : ds.drop (i + 1) = r := by
        rw [← List.drop_drop, hl]
        rfl
      obtain ⟨v, hv, hdv⟩ := DpAll.get ha hdi
      rw [hl] at hc
      have hc2 : Cls (k + arN d) r := by
        have := hc.2
        rwa [Nat.add_sub_cancel] at this
      have ndd := hn d (List.mem_of_getElem? hdi)
      have hdv0 := hdv
      -- node = term[at]
      refine seq_asg ?_
      refine ⟨_, rfl, _, rfl, _, _, _, _, rfl, rfl, hs, atI_nat (j := i) hv, ?_⟩
      refine gname (seq_ifN ?_)
      refine ⟨_, rfl, _, _, _, _, _, rfl, .ty _, tyx_of hdv, kit_ty (kitT _), _, rfl, ?_⟩
      obtain ⟨wd, nd⟩ := id ndd
      cases nd with
      | v n z1 z2 =>
        have hns : isSymN (.tuple [.str "v", .int n]) = false := rfl
        cases hdv with
        | @tup an xn _ hs2 ha2 =>
          obtain ⟨v2, hv2, hdv2⟩ := DpAll.get (i := 0) ha2 rfl
          cases hdv2
          refine iteF ⟨_, rfl, _, _, _, _, rfl, rfl, hs2, atI_nat (j := 0) hv2, rfl, _, rfl, ?_⟩
          rw [decide_eq_true rfl]
          refine iteT (seq_ifN ?_)
          refine ⟨_, rfl, _, rfl, ?_⟩
          rw [hl, form_nsym hns] at q
          cases g with
          | true =>
            refine iteT ?_
            refine ⟨(by show 3 ≤ sizeLine; decide), fun p np => ⟨_, rfl, (by show 2 ≤ sizeLine; decide), fun p2 np2 => ?_⟩⟩
            have s2 := (same_upd (o := .tup [.str "f", .str "call", .int 1]) np).trans (same_upd (o := .tup [.ref p, .ref an]) np2)
            refine q _ _ s2 (.tup (SqT.of upd_same) (.cons (dp_same (same_upd np2) _ _ (.tup (SqT.of upd_same) (.cons (.str _) (.cons (.str _) (.cons (.int _) .nil))))) (.cons (dp_same s2 _ _ hdv0) .nil)))
          | false =>
            refine iteF ?_
            refine ⟨_, rfl, (by show 1 ≤ sizeLine; decide), fun p np => ?_⟩
            exact q _ _ (same_upd np) (.tup (SqT.of upd_same) (.cons (dp_same (same_upd np) _ _ hdv0) .nil))
      | i n z1 z2 =>
        have hns : isSymN (.int n) = false := rfl
        cases hdv
        refine iteT (iteT (seq_ifN ?_))
        refine ⟨_, rfl, _, rfl, ?_⟩
        rw [hl, form_nsym hns] at q
        cases g with
        | true =>
          refine iteT ?_
          refine ⟨(by show 3 ≤ sizeLine; decide), fun p np => ⟨_, rfl, (by show 2 ≤ sizeLine; decide), fun p2 np2 => ?_⟩⟩
          have s2 := (same_upd (o := .tup [.str "f", .str "call", .int 1]) np).trans (same_upd (o := .tup [.ref p, .int n]) np2)
          refine q _ _ s2 (.tup (SqT.of upd_same) (.cons (dp_same (same_upd np2) _ _ (.tup (SqT.of upd_same) (.cons (.str _) (.cons (.str _) (.cons (.int _) .nil))))) (.cons (dp_same s2 _ _ hdv0) .nil)))
        | false =>
          refine iteF ?_
          refine ⟨_, rfl, (by show 1 ≤ sizeLine; decide), fun p np => ?_⟩
          exact q _ _ (same_upd np) (.tup (SqT.of upd_same) (.cons (dp_same (same_upd np) _ _ hdv0) .nil))
      | f y n z0 z1 z2 =>
        have hsym : isSymN (.tuple [.str "f", .str y, .int n]) = true := rfl
        have har : arN (.tuple [.str "f", .str y, .int n]) = n.toNat := rfl
        rw [hl, form_sym hsym] at q
        rw [har] at q hc2
        cases hdv with
        | @tup an xn _ hs2 ha2 =>
          cases ha2 with
          | @cons v1 xn1 _ _ d1 t1 =>
          cases t1 with
          | @cons v2 xn2 _ _ d2 t2 =>
          cases t2 with
          | @cons v3 xn3 _ _ d3 t3 =>
          cases t3
          cases d1
          cases d2
          cases d3
          refine iteF ⟨_, rfl, _, _, _, _, rfl, rfl, hs2, atI_nat (j := 0) rfl, rfl, _, rfl, ?_⟩
          rw [show decide (V.str (Str.ofString "f") = V.str (Str.ofString "v")) = false by decide +kernel]
          refine iteF (seq_asg ?_)
          -- inner
          refine ⟨_, rfl, _, rfl, ?_⟩
          cases g with
          | true =>
            refine iteT ?_
            refine ⟨_, rfl, _, rfl, _, _, rfl, hs2, (fun z => absurd z.1 (show ¬ HT.sIx 3 0 (some 1) = 0 from by decide)), fun _ p1 np1 => ?_⟩
            rw [cut_from1]
            refine lit_tup (K := K) (ds := lsyms) ?_ (by decide) _ _ fun v6 H6 s6 i6 => ?_
            · unfold lsyms
              walk_at "lits"
            have sH6 := (same_upd (o := .tup [V.str y, V.int n]) np1).trans s6
            refine ⟨.tuple [.str y, .int n], lsyms, .tup (SqT.of (s6 _ _ upd_same)) (.cons (.str _) (.cons (.int _) .nil)), Im.dp _ _ i6, ?_, by decide +kernel, ?_⟩
            · exact tail_shaped ndd
            rw [goal_eq]
            have HS1 := sH6
            generalize hinn : isGoal (.tuple [.str "f", .str y, .int n]) = inn at q ⊢
            -- nodes = (node,); at = at + 1
            refine gname (seq_asg ?_)
            refine ⟨_, rfl, (by show 1 ≤ sizeLine; decide), fun p np => ?_⟩
            refine gname (seq_asg ?_)
            refine ⟨_, rfl, _, _, rfl, rfl, ?_⟩
            refine gname (seq_any ?_)
            have sP := HS1.trans (same_upd (o := .tup [.ref an]) np)
            refine ⟨_, rfl, _, _, _, _, rfl, rfl, same_sqT sP hs2, atI_nat (j := 2) rfl, n, rfl, by omega, by omega, ?_⟩
            refine for_range (fun j σ H2 => ∃ (nv : V) (vk : Option V), σ = [some (.ref a), some (.int ((i + 1 + tk j r : Nat) : Int)), some (.bl true), some (.ref an), some (.bl inn), some nv, vk] ∧ Same H H2 ∧ Dp K H2 nv (.tuple (.tuple [.str "f", .str y, .int n] :: form (List.replicate j (true && inn)) (r.take (tk j r)))))
              ⟨.ref p, none, by rw [tk_zero]; rfl, sP, ?_⟩ ?_ ?_
            · rw [tk_zero]
              exact .tup (SqT.of upd_same) (.cons (dp_same sP _ _ hdv0) .nil)
            · rintro j σ H2 hj ⟨nv, vk, rfl, s2, dn⟩
              have hcd := cls_drop r (k + n.toNat) j hc2 (by omega)
              have hdr : ds.drop (i + 1 + tk j r) = r.drop (tk j r) := by rw [← List.drop_drop, hr1]
              obtain ⟨k2, hk2⟩ : ∃ k2, k + n.toNat - j = k2 + 1 := ⟨k + n.toNat - j - 1, by omega⟩
              rw [hk2, ← hdr] at hcd
              have hlf := form_len (r.take (tk j r)) (List.replicate j (true && inn))
              have hrl : r.length ≤ 400 := by
                rw [← hr1, List.length_drop]
                omega
              have htl : (r.take (tk j r)).length ≤ 400 := by
                rw [List.length_take]
                omega
              refine gname (seq_asg ?_)
              refine ⟨_, rfl, _, rfl, _, rfl, _, rfl, .ref a, ds, i + 1 + tk j r, k2, inn, rfl, dp_same s2 _ _ hd0, hn, hcd, by omega, h400, fun v4 H4 s4 d4 => ?_⟩
              refine cat_dp (dp_same s4 _ _ dn) d4 (List.cons_ne_nil _ _) ?_ fun v5 H5 s5 d5 => ?_
              · have h9 := form_len ((ds.drop (i + 1 + tk j r)).take (tk 1 (ds.drop (i + 1 + tk j r)))) [inn]
                have h10 : ((ds.drop (i + 1 + tk j r)).take (tk 1 (ds.drop (i + 1 + tk j r)))).length ≤ r.length - tk j r := by
                  rw [List.length_take, hdr, List.length_drop]
                  omega
                have h11 : (r.take (tk j r)).length ≤ tk j r := by
                  rw [List.length_take]
                  omega
                rw [List.length_cons]
                omega
              refine gname (asg1 ?_)
              refine ⟨_, rfl, _, rfl, .ref a, ds, i + 1 + tk j r, k2, rfl, dp_same ((s2.trans s4).trans s5) _ _ hd0, hn, hcd, ?_⟩
              refine gname ⟨v5, some (.int (0 + (j : Int))), ?_, (s2.trans s4).trans s5, ?_⟩
              · have e6 : i + 1 + tk j r + tk 1 (ds.drop (i + 1 + tk j r)) = i + 1 + tk (j + 1) r := by rw [tk_add r j 1, hdr]; omega
                rw [← e6]
                rfl
              · have e7 : form (List.replicate (j + 1) (true && inn)) (r.take (tk (j + 1) r)) = form (List.replicate j (true && inn)) (r.take (tk j r)) ++ form [inn] ((r.drop (tk j r)).take (tk 1 (r.drop (tk j r)))) := form_more r j (k + n.toNat) _ hc2 (by omega)
                rw [e7, ← List.cons_append, ← hdr]
                exact d5
            · rintro σ H2 ⟨nv, vk, rfl, s2, dn⟩
              refine nxp ?_
              refine ⟨_, rfl, ?_⟩
              exact q _ _ s2 dn
          | false =>
            refine iteF ?_
            have HS1 := Same.refl H
            generalize hinn : isGoal (.tuple [.str "f", .str y, .int n]) = inn at q ⊢
            -- nodes = (node,); at = at + 1
            refine gname (seq_asg ?_)
            refine ⟨_, rfl, (by show 1 ≤ sizeLine; decide), fun p np => ?_⟩
            refine gname (seq_asg ?_)
            refine ⟨_, rfl, _, _, rfl, rfl, ?_⟩
            refine gname (seq_any ?_)
            have sP := HS1.trans (same_upd (o := .tup [.ref an]) np)
            refine ⟨_, rfl, _, _, _, _, rfl, rfl, same_sqT sP hs2, atI_nat (j := 2) rfl, n, rfl, by omega, by omega, ?_⟩
            refine for_range (fun j σ H2 => ∃ (nv : V) (vk : Option V), σ = [some (.ref a), some (.int ((i + 1 + tk j r : Nat) : Int)), some (.bl false), some (.ref an), some (.bl false), some nv, vk] ∧ Same H H2 ∧ Dp K H2 nv (.tuple (.tuple [.str "f", .str y, .int n] :: form (List.replicate j (false && inn)) (r.take (tk j r)))))
              ⟨.ref p, none, by rw [tk_zero]; rfl, sP, ?_⟩ ?_ ?_
            · rw [tk_zero]
              exact .tup (SqT.of upd_same) (.cons (dp_same sP _ _ hdv0) .nil)
            · rintro j σ H2 hj ⟨nv, vk, rfl, s2, dn⟩
              have hcd := cls_drop r (k + n.toNat) j hc2 (by omega)
              have hdr : ds.drop (i + 1 + tk j r) = r.drop (tk j r) := by rw [← List.drop_drop, hr1]
              obtain ⟨k2, hk2⟩ : ∃ k2, k + n.toNat - j = k2 + 1 := ⟨k + n.toNat - j - 1, by omega⟩
              rw [hk2, ← hdr] at hcd
              have hlf := form_len (r.take (tk j r)) (List.replicate j (false && inn))
              have hrl : r.length ≤ 400 := by
                rw [← hr1, List.length_drop]
                omega
              have htl : (r.take (tk j r)).length ≤ 400 := by
                rw [List.length_take]
                omega
              refine gname (seq_asg ?_)
              refine ⟨_, rfl, _, rfl, _, rfl, _, rfl, .ref a, ds, i + 1 + tk j r, k2, false, rfl, dp_same s2 _ _ hd0, hn, hcd, by omega, h400, fun v4 H4 s4 d4 => ?_⟩
              refine cat_dp (dp_same s4 _ _ dn) d4 (List.cons_ne_nil _ _) ?_ fun v5 H5 s5 d5 => ?_
              · have h9 := form_len ((ds.drop (i + 1 + tk j r)).take (tk 1 (ds.drop (i + 1 + tk j r)))) [false]
                have h10 : ((ds.drop (i + 1 + tk j r)).take (tk 1 (ds.drop (i + 1 + tk j r)))).length ≤ r.length - tk j r := by
                  rw [List.length_take, hdr, List.length_drop]
                  omega
                have h11 : (r.take (tk j r)).length ≤ tk j r := by
                  rw [List.length_take]
                  omega
                rw [List.length_cons]
                omega
              refine gname (asg1 ?_)
              refine ⟨_, rfl, _, rfl, .ref a, ds, i + 1 + tk j r, k2, rfl, dp_same ((s2.trans s4).trans s5) _ _ hd0, hn, hcd, ?_⟩
              refine gname ⟨v5, some (.int (0 + (j : Int))), ?_, (s2.trans s4).trans s5, ?_⟩
              · have e6 : i + 1 + tk j r + tk 1 (ds.drop (i + 1 + tk j r)) = i + 1 + tk (j + 1) r := by rw [tk_add r j 1, hdr]; omega
                rw [← e6]
                rfl
              · have e7 : form (List.replicate (j + 1) (false && inn)) (r.take (tk (j + 1) r)) = form (List.replicate j (false && inn)) (r.take (tk j r)) ++ form [false] ((r.drop (tk j r)).take (tk 1 (r.drop (tk j r)))) := form_more r j (k + n.toNat) _ hc2 (by omega)
                rw [e7, ← List.cons_append, ← hdr]
                exact d5
            · rintro σ H2 ⟨nv, vk, rfl, s2, dn⟩
              refine nxp ?_
              refine ⟨_, rfl, ?_⟩
              exact q _ _ s2 dn
theorem ok__law_form {f : Addr} {fd : FuncData} (F : Fun K "_law_form" "_law_form" s__law_form f fd) (E : Bi K mg) (D__law_end : Has P w K mg base 1 "_law_end" ["term", "at"] (sp__law_end K)) (g__law_form : mg "_law_form" = some (.ref f)) (b__law_form : Binds K fd ["term", "at", "goal"] []) :
    FnOk P w K mg base CX0 45 f fd ["term", "at", "goal"] (sp__law_form K) := ok__law_formN F E D__law_end g__law_form b__law_form 41

theorem ok_law {f : Addr} {fd : FuncData} (F : Fun K "law" "law" s_law f fd) (E : Bi K mg) (D__law_stream : Has P w K mg base 1 "_law_stream" ["script"] (sp__law_stream K)) (D__law_turned : Has P w K mg base 2 "_law_turned" ["stream", "term"] (sp__law_turned K)) (D__law_term : Has P w K mg base 4 "_law_term" ["stream", "size", "widest"] (sp__law_term K)) (D__law_draw : Has P w K mg base 1 "_law_draw" ["stream", "many"] (sp__law_draw K)) (D__law_form : Has P w K mg base 45 "_law_form" ["term", "at", "goal"] (sp__law_form K)) (D_goal_form : Has P w K mg base 4 "goal_form" ["term"] (sp_goal_form K)) : FnOk P w K mg base CX0 47 f fd ["script"] (sp_law K) := by
  obtain ⟨f__law_stream, fd__law_stream, G__law_stream, g__law_stream, kp__law_stream, b__law_stream⟩ := D__law_stream
  obtain ⟨f__law_turned, fd__law_turned, G__law_turned, g__law_turned, kp__law_turned, b__law_turned⟩ := D__law_turned
  obtain ⟨f__law_term, fd__law_term, G__law_term, g__law_term, kp__law_term, b__law_term⟩ := D__law_term
  obtain ⟨f__law_draw, fd__law_draw, G__law_draw, g__law_draw, kp__law_draw, b__law_draw⟩ := D__law_draw
  obtain ⟨f__law_form, fd__law_form, G__law_form, g__law_form, kp__law_form, b__law_form⟩ := D__law_form
  obtain ⟨f_goal_form, fd_goal_form, G_goal_form, g_goal_form, kp_goal_form, b_goal_form⟩ := D_goal_form
  refine F.ok sc_law (fun vs H Q E h => ?_) (fun cdv A outer s H vs Q E' hr h => ?_)
  · obtain ⟨a, ns, rfl, _⟩ := h
    rfl
  · obtain ⟨a, ns, rfl, hS, hl, q⟩ := h
    have n9 : (2 : Nat) ^ 8 ≤ 2 ^ 9000 := Nat.pow_le_pow_right (by decide) (by decide)
    refine ⟨_, (pss_cons (ps_set (i := 1) sc_law.nd rfl (Or.inl rfl) (pe_call G__law_stream (hr.mono (by decide)) (by rfl) g__law_stream kp__law_stream b__law_stream .nil pass0 (pa_cons (pv 0) pa_nil)))
      (pss_cons (ps_set (i := 2) sc_law.nd rfl (Or.inl rfl) (pe_call G__law_turned (hr.mono (by decide)) (by rfl) g__law_turned kp__law_turned b__law_turned .nil pass0 (pa_cons (pv 1) (pa_cons (pe_call G__law_term (hr.mono (by decide)) (by rfl) g__law_term kp__law_term b__law_term .nil pass0 (pa_cons (pv 1) (pa_cons (pe_op op_add pe_int (pe_call G__law_draw (hr.mono (by decide)) (by rfl) g__law_draw kp__law_draw b__law_draw .nil pass0 (pa_cons (pv 1) (pa_cons pe_int pa_nil)))) (pa_cons pe_int pa_nil)))) pa_nil))))
      (pss_cons (ps_set (i := 3) sc_law.nd rfl (Or.inl rfl) (pe_call G__law_form (hr.mono (by decide)) (by rfl) g__law_form kp__law_form b__law_form .nil pass0 (pa_cons (pv 2) (pa_cons pe_int (pa_cons pe_bl pa_nil)))))
      (pss_cons (ps_if (pw_or (pt_cmpR (op_neD hr.units) (pe_call G_goal_form (hr.mono (by decide)) (by rfl) g_goal_form kp_goal_form b_goal_form .nil pass0 (pa_cons (pv 2) pa_nil)) (pv 3) (nomark _)) (pw_or1 (pt_cmpR (op_neD hr.units) (pe_call G_goal_form (hr.mono (by decide)) (by rfl) g_goal_form kp_goal_form b_goal_form .nil pass0 (pa_cons (pv 3) pa_nil)) (pv 3) (nomark _)))).pt (pss_one (ps_ret pe_bl)) pss_nil)
      (pss_one (ps_ret (pe_and (pe_cmpR (op_eqD hr.units) (pe_call G_goal_form (hr.mono (by decide)) (by rfl) g_goal_form kp_goal_form b_goal_form .nil pass0 (pa_cons (pe_tup (pa_cons (pe_tup (pa_cons pe_str (pa_cons pe_int pa_nil))) pa_nil)) pa_nil)) (pe_tup (pa_cons (pe_tup (pa_cons pe_str (pa_cons pe_str (pa_cons pe_int pa_nil)))) (pa_cons (pe_tup (pa_cons pe_str (pa_cons pe_int pa_nil))) pa_nil))) (nomark _)) (pe_one (pe_cmpR (op_eqD hr.units) (pe_call G_goal_form (hr.mono (by decide)) (by rfl) g_goal_form kp_goal_form b_goal_form .nil pass0 (pa_cons (pe_tup (pa_cons pe_int pa_nil)) pa_nil)) (pe_tup (pa_cons (pe_tup (pa_cons pe_str (pa_cons pe_str (pa_cons pe_int pa_nil)))) (pa_cons pe_int pa_nil))) (nomark _)))))))))), ?_⟩
    refine seq_asg ?_
    refine ⟨_, rfl, a, ns, rfl, hS, hl, fun s l H1 hs hl1 s1 St1 => ?_⟩
    refine gname (seq_asg ?_)
    -- term = _law_turned(stream, _law_term(stream, 1 + draw, 4))
    refine ⟨_, rfl, _, rfl, _, rfl, s, l, 20, rfl, St1, by decide, Nat.lt_of_lt_of_le (by decide) n9, fun n H2 n0 n1 b2 S2 => ⟨_, _, rfl, rfl, ?_⟩⟩
    refine ⟨s, l, 1 + n, 4, rfl, S2, by omega, by omega, by decide, by decide, fun v ds H3 ht hlen b3 S3 iv => ?_⟩
    obtain ⟨o2, ho2⟩ := S2.at_s
    refine ⟨s, l, v, ds, 4, rfl, S3, Im.mono (fun _ _ _ e => e) (fun b hb => fun z => by rw [z, ho2] at hb; cases hb) _ _ iv, ht, by omega, fun v' es H4 ht4 hlen4 b4 S4 d4 => ?_⟩
    refine gname (seq_asg ?_)
    have hnd : ∀ d ∈ es, NdA d := fun d hd => ⟨4, ht4.nd d hd⟩
    -- due
    refine ⟨_, rfl, v', es, 0, 0, true, rfl, d4, hnd, ht4.cl, by omega, by omega, fun v5 H5 s5 d5 => ?_⟩
    have efull : (es.drop 0).take (tk 1 (es.drop 0)) = es := by
      rw [List.drop_zero]
      exact take_full es 1 ht4.cl
    rw [efull] at d5
    have hfn := form_nd es [true] hnd
    have hfc := form_cls es [true] ht4.cl
    have hfl := form_len es [true]
    refine gname (seq_ifN ?_)
    -- goal_form(term) != due or goal_form(due) != due
    refine ⟨_, rfl, v', es, rfl, dp_same s5 _ _ d4, hnd, ht4.cl, by omega, fun v6 H6 s6 d6 => ?_⟩
    refine ⟨_, rfl, _, _, d6, dp_same s6 _ _ d5, tup_shaped hfn, tup_shaped hfn, _, rfl, ?_⟩
    rw [tup_eqv hfn]
    refine iteF ?_
    refine ⟨_, rfl, v5, _, rfl, dp_same s6 _ _ d5, hfn, hfc, by omega, fun v7 H7 s7 d7 => ?_⟩
    rw [form_twice] at d7
    refine ⟨_, rfl, _, _, d7, dp_same (s6.trans s7) _ _ d5, tup_shaped hfn, tup_shaped hfn, _, rfl, ?_⟩
    rw [tup_eqv hfn]
    refine iteF ?_
    -- the two last ones
    have nv3 : ∀ d ∈ [PyData.tuple [.str "v", .int 3]], NdA d := fun d hd => ⟨4, by rw [List.mem_singleton.mp hd]; exact .v 3 (by decide) (by decide)⟩
    have n7 : ∀ d ∈ [PyData.int 7], NdA d := fun d hd => ⟨4, by rw [List.mem_singleton.mp hd]; exact .i 7 (by decide) (by decide)⟩
    have nv4 : ∀ d ∈ [callN, PyData.tuple [.str "v", .int 3]], NdA d := form_nd [PyData.tuple [.str "v", .int 3]] [true] nv3
    have n8 : ∀ d ∈ [callN, PyData.int 7], NdA d := form_nd [PyData.int 7] [true] n7
    refine args_and ?_
    refine litA_cons (K := K) (d := .tuple [.tuple [.str "v", .int 3]]) (ds := []) ?_ litA_nil H7 _ fun vs H8 s8 i8 => ?_
    · walk_at "lits"
    cases i8 with
    | @cons v8 _ _ _ i8 j8 =>
    cases j8
    refine ⟨v8, _, rfl, Im.dp _ _ i8, nv3, ⟨by decide, rfl⟩, by decide, fun v9 H9 s9 d9 => ?_⟩
    refine lit_tup (K := K) (ds := [callN, .tuple [.str "v", .int 3]]) ?_ (by decide) H9 _ fun va Ha sa ia => ?_
    · unfold callN
      walk_at "lits"
    refine ⟨_, _, dp_same sa _ _ d9, Im.dp _ _ ia, tup_shaped nv4, tup_shaped nv4, _, rfl, ?_⟩
    rw [show PyData.eqv (.tuple (form [true] [.tuple [.str "v", .int 3]])) (.tuple [callN, .tuple [.str "v", .int 3]]) = true from tup_eqv nv4]
    refine iteT ?_
    refine op_of (call_of ?_)
    refine litA_cons (K := K) (d := .tuple [.int 7]) (ds := []) ?_ litA_nil Ha _ fun vs Hb sb ib => ?_
    · walk_at "lits"
    cases ib with
    | @cons v8 _ _ _ ib jb =>
    cases jb
    refine ⟨v8, _, rfl, Im.dp _ _ ib, n7, ⟨by decide, rfl⟩, by decide, fun vc Hc sc dc => ?_⟩
    refine lit_tup (K := K) (ds := [callN, .int 7]) ?_ (by decide) Hc _ fun vd Hd sd id1 => ?_
    · unfold callN
      walk_at "lits"
    refine ⟨_, _, dp_same sd _ _ dc, Im.dp _ _ id1, tup_shaped n8, tup_shaped n8, ?_⟩
    rw [show PyData.eqv (.tuple (form [true] [.int 7])) (.tuple [callN, .int 7]) = true from tup_eqv n8]
    exact q _

end
/-! ### the end -/
theorem all_mk {l : PySem.W.OpenLaw} {w : World} {K : PySem.W.Frag} {h : Heap} {mg : Str → Option Value} {fa f1 f2 f3 f4 f5 f6 f7 f8 f9 f10 f11 f12 f13 : Addr} (X : K.In h) (G : h.Ns mainGlobals mg) (hfa : mg "law" = some (.ref fa))
    {od1 an1 od2 an2 od3 an3 od4 an4 od5 an5 od6 an6 od7 an7 od8 an8 od9 an9 od10 an10 od11 an11 od12 an12 od13 an13 : Option Addr} {sl1 sl2 sl3 sl4 sl5 sl6 sl7 sl8 sl9 sl10 sl11 sl12 sl13 : Array (Option Value)} {oc1 kV1 dc1 pm1 cd1 ct1 oc2 kV2 dc2 pm2 cd2 ct2 oc3 kV3 dc3 pm3 cd3 ct3 oc4 kV4 dc4 pm4 cd4 ct4 oc5 kV5 dc5 pm5 cd5 ct5 oc6 kV6 dc6 pm6 cd6 ct6 oc7 kV7 dc7 pm7 cd7 ct7 oc8 kV8 dc8 pm8 cd8 ct8 oc9 kV9 dc9 pm9 cd9 ct9 oc10 kV10 dc10 pm10 cd10 ct10 oc11 kV11 dc11 pm11 cd11 ct11 oc12 kV12 dc12 pm12 cd12 ct12 oc13 kV13 dc13 pm13 cd13 ct13 : Value}

    (a1 : PySem.W.nsIn K mainGlobals "is_symbol" = some (some (.ref f1))) (l1 : K.lookup f1 = some ⟨oc1, od1, .func (PySem.W.fnOf "is_symbol" "is_symbol" (defArgs s_is_symbol) (defBody s_is_symbol) (defScope s_is_symbol) .none kV1 dc1 pm1 an1 cd1 ct1), sl1⟩) (c1 : PySem.W.codeIn K cd1 "is_symbol" = true) (k1 : PySem.W.keepIn K (.ref f1) = true)
    (a2 : PySem.W.nsIn K mainGlobals "arity_of" = some (some (.ref f2))) (l2 : K.lookup f2 = some ⟨oc2, od2, .func (PySem.W.fnOf "arity_of" "arity_of" (defArgs s_arity_of) (defBody s_arity_of) (defScope s_arity_of) .none kV2 dc2 pm2 an2 cd2 ct2), sl2⟩) (c2 : PySem.W.codeIn K cd2 "arity_of" = true) (k2 : PySem.W.keepIn K (.ref f2) = true)
    (a3 : PySem.W.nsIn K mainGlobals "end_of" = some (some (.ref f3))) (l3 : K.lookup f3 = some ⟨oc3, od3, .func (PySem.W.fnOf "end_of" "end_of" (defArgs s_end_of) (defBody s_end_of) (defScope s_end_of) .none kV3 dc3 pm3 an3 cd3 ct3), sl3⟩) (c3 : PySem.W.codeIn K cd3 "end_of" = true) (k3 : PySem.W.keepIn K (.ref f3) = true)
    (a4 : PySem.W.nsIn K mainGlobals "goal_form" = some (some (.ref f4))) (l4 : K.lookup f4 = some ⟨oc4, od4, .func (PySem.W.fnOf "goal_form" "goal_form" (defArgs s_goal_form) (defBody s_goal_form) (defScope s_goal_form) .none kV4 dc4 pm4 an4 cd4 ct4), sl4⟩) (c4 : PySem.W.codeIn K cd4 "goal_form" = true) (k4 : PySem.W.keepIn K (.ref f4) = true)
    (a5 : PySem.W.nsIn K mainGlobals "_law_stream" = some (some (.ref f5))) (l5 : K.lookup f5 = some ⟨oc5, od5, .func (PySem.W.fnOf "_law_stream" "_law_stream" (defArgs s__law_stream) (defBody s__law_stream) (defScope s__law_stream) .none kV5 dc5 pm5 an5 cd5 ct5), sl5⟩) (c5 : PySem.W.codeIn K cd5 "_law_stream" = true) (k5 : PySem.W.keepIn K (.ref f5) = true)
    (a6 : PySem.W.nsIn K mainGlobals "_law_draw" = some (some (.ref f6))) (l6 : K.lookup f6 = some ⟨oc6, od6, .func (PySem.W.fnOf "_law_draw" "_law_draw" (defArgs s__law_draw) (defBody s__law_draw) (defScope s__law_draw) .none kV6 dc6 pm6 an6 cd6 ct6), sl6⟩) (c6 : PySem.W.codeIn K cd6 "_law_draw" = true) (k6 : PySem.W.keepIn K (.ref f6) = true)
    (a7 : PySem.W.nsIn K mainGlobals "_law_name" = some (some (.ref f7))) (l7 : K.lookup f7 = some ⟨oc7, od7, .func (PySem.W.fnOf "_law_name" "_law_name" (defArgs s__law_name) (defBody s__law_name) (defScope s__law_name) .none kV7 dc7 pm7 an7 cd7 ct7), sl7⟩) (c7 : PySem.W.codeIn K cd7 "_law_name" = true) (k7 : PySem.W.keepIn K (.ref f7) = true)
    (a8 : PySem.W.nsIn K mainGlobals "_law_leaf" = some (some (.ref f8))) (l8 : K.lookup f8 = some ⟨oc8, od8, .func (PySem.W.fnOf "_law_leaf" "_law_leaf" (defArgs s__law_leaf) (defBody s__law_leaf) (defScope s__law_leaf) .none kV8 dc8 pm8 an8 cd8 ct8), sl8⟩) (c8 : PySem.W.codeIn K cd8 "_law_leaf" = true) (k8 : PySem.W.keepIn K (.ref f8) = true)
    (a9 : PySem.W.nsIn K mainGlobals "_law_term" = some (some (.ref f9))) (l9 : K.lookup f9 = some ⟨oc9, od9, .func (PySem.W.fnOf "_law_term" "_law_term" (defArgs s__law_term) (defBody s__law_term) (defScope s__law_term) .none kV9 dc9 pm9 an9 cd9 ct9), sl9⟩) (c9 : PySem.W.codeIn K cd9 "_law_term" = true) (k9 : PySem.W.keepIn K (.ref f9) = true)
    (a10 : PySem.W.nsIn K mainGlobals "_law_end" = some (some (.ref f10))) (l10 : K.lookup f10 = some ⟨oc10, od10, .func (PySem.W.fnOf "_law_end" "_law_end" (defArgs s__law_end) (defBody s__law_end) (defScope s__law_end) .none kV10 dc10 pm10 an10 cd10 ct10), sl10⟩) (c10 : PySem.W.codeIn K cd10 "_law_end" = true) (k10 : PySem.W.keepIn K (.ref f10) = true)
    (a11 : PySem.W.nsIn K mainGlobals "_law_turned" = some (some (.ref f11))) (l11 : K.lookup f11 = some ⟨oc11, od11, .func (PySem.W.fnOf "_law_turned" "_law_turned" (defArgs s__law_turned) (defBody s__law_turned) (defScope s__law_turned) .none kV11 dc11 pm11 an11 cd11 ct11), sl11⟩) (c11 : PySem.W.codeIn K cd11 "_law_turned" = true) (k11 : PySem.W.keepIn K (.ref f11) = true)
    (a12 : PySem.W.nsIn K mainGlobals "_law_form" = some (some (.ref f12))) (l12 : K.lookup f12 = some ⟨oc12, od12, .func (PySem.W.fnOf "_law_form" "_law_form" (defArgs s__law_form) (defBody s__law_form) (defScope s__law_form) .none kV12 dc12 pm12 an12 cd12 ct12), sl12⟩) (c12 : PySem.W.codeIn K cd12 "_law_form" = true) (k12 : PySem.W.keepIn K (.ref f12) = true)
    (a13 : PySem.W.nsIn K mainGlobals "law" = some (some (.ref f13))) (l13 : K.lookup f13 = some ⟨oc13, od13, .func (PySem.W.fnOf "law" "law" (defArgs s_law) (defBody s_law) (defScope s_law) .none kV13 dc13 pm13 an13 cd13 ct13), sl13⟩) (c13 : PySem.W.codeIn K cd13 "law" = true) (k13 : PySem.W.keepIn K (.ref f13) = true)
    (z0 : PySem.W.nsIn K mainGlobals "abs" = some none)
    (z1 : PySem.W.nsIn K mainGlobals "int" = some none)
    (z2 : PySem.W.nsIn K mainGlobals "isinstance" = some none)
    (z3 : PySem.W.nsIn K mainGlobals "len" = some none)
    (z4 : PySem.W.nsIn K mainGlobals "list" = some none)
    (z5 : PySem.W.nsIn K mainGlobals "min" = some none)
    (z6 : PySem.W.nsIn K mainGlobals "range" = some none)
    (z7 : PySem.W.nsIn K mainGlobals "tuple" = some none)
    {kt2 : Tok} {kt3 : Tok} {kt4 : Tok} {ka1 : Addr} {kd1 : Option Addr} {kn1 : Nat} {ks1 : Array (Option Value)}
    (y0 : PySem.W.nsIn K mainGlobals "CALL_SYMBOL" = some (some (.ref ka1)))
    (kh1 : K.lookup ka1 = some ⟨.type "tuple", kd1, .seq #[.str "f" kt2, .str "call" kt3, .int 1 kt4] kn1, ks1⟩)
    {kt7 : Tok} {kt8 : Tok} {kt9 : Tok} {ka6 : Addr} {kd6 : Option Addr} {kn6 : Nat} {ks6 : Array (Option Value)} {kt11 : Tok} {kt12 : Tok} {kt13 : Tok} {ka10 : Addr} {kd10 : Option Addr} {kn10 : Nat} {ks10 : Array (Option Value)} {kt15 : Tok} {kt16 : Tok} {kt17 : Tok} {ka14 : Addr} {kd14 : Option Addr} {kn14 : Nat} {ks14 : Array (Option Value)} {kt19 : Tok} {kt20 : Tok} {kt21 : Tok} {ka18 : Addr} {kd18 : Option Addr} {kn18 : Nat} {ks18 : Array (Option Value)} {ka5 : Addr} {kd5 : Option Addr} {kn5 : Nat} {ks5 : Array (Option Value)}
    (y1 : PySem.W.nsIn K mainGlobals "GOAL_SYMBOLS" = some (some (.ref ka5)))
    (kh6 : K.lookup ka6 = some ⟨.type "tuple", kd6, .seq #[.str "f" kt7, .str "," kt8, .int 2 kt9] kn6, ks6⟩)
    (kh10 : K.lookup ka10 = some ⟨.type "tuple", kd10, .seq #[.str "f" kt11, .str ";" kt12, .int 2 kt13] kn10, ks10⟩)
    (kh14 : K.lookup ka14 = some ⟨.type "tuple", kd14, .seq #[.str "f" kt15, .str "->" kt16, .int 2 kt17] kn14, ks14⟩)
    (kh18 : K.lookup ka18 = some ⟨.type "tuple", kd18, .seq #[.str "f" kt19, .str "\\+" kt20, .int 1 kt21] kn18, ks18⟩)
    (kh5 : K.lookup ka5 = some ⟨.type "tuple", kd5, .seq #[.ref ka6, .ref ka10, .ref ka14, .ref ka18] kn5, ks5⟩)
    : ∃ fd : FuncData, (∀ (s : Shared) (v : Value), BindsTo s fd ⟨[v], []⟩ [("script", v)]) ∧ ∀ base : Heap, K.In base → base.Ns mainGlobals mg → FnOk l.prog w K mg base CX0 47 fa fd ["script"] (sp_law K) := by
  have e := hfa.symm.trans (PySem.W.mg_of X G a13)
  cases e
  have F1 := fun_mk (st := s_is_symbol) l1 c1 k1
  have b1 := F1.binds (ps := ["node"]) fun _ _ _ _ _ _ us hl => match us, hl with | [_], _ => rfl
  have F2 := fun_mk (st := s_arity_of) l2 c2 k2
  have b2 := F2.binds (ps := ["node"]) fun _ _ _ _ _ _ us hl => match us, hl with | [_], _ => rfl
  have F3 := fun_mk (st := s_end_of) l3 c3 k3
  have b3 := F3.binds (ps := ["nodes", "start"]) fun _ _ _ _ _ _ us hl => match us, hl with | [_, _], _ => rfl
  have F4 := fun_mk (st := s_goal_form) l4 c4 k4
  have b4 := F4.binds (ps := ["term"]) fun _ _ _ _ _ _ us hl => match us, hl with | [_], _ => rfl
  have F5 := fun_mk (st := s__law_stream) l5 c5 k5
  have b5 := F5.binds (ps := ["script"]) fun _ _ _ _ _ _ us hl => match us, hl with | [_], _ => rfl
  have F6 := fun_mk (st := s__law_draw) l6 c6 k6
  have b6 := F6.binds (ps := ["stream", "many"]) fun _ _ _ _ _ _ us hl => match us, hl with | [_, _], _ => rfl
  have F7 := fun_mk (st := s__law_name) l7 c7 k7
  have b7 := F7.binds (ps := ["stream"]) fun _ _ _ _ _ _ us hl => match us, hl with | [_], _ => rfl
  have F8 := fun_mk (st := s__law_leaf) l8 c8 k8
  have b8 := F8.binds (ps := ["stream", "widest"]) fun _ _ _ _ _ _ us hl => match us, hl with | [_, _], _ => rfl
  have F9 := fun_mk (st := s__law_term) l9 c9 k9
  have b9 := F9.binds (ps := ["stream", "size", "widest"]) fun _ _ _ _ _ _ us hl => match us, hl with | [_, _, _], _ => rfl
  have F10 := fun_mk (st := s__law_end) l10 c10 k10
  have b10 := F10.binds (ps := ["term", "at"]) fun _ _ _ _ _ _ us hl => match us, hl with | [_, _], _ => rfl
  have F11 := fun_mk (st := s__law_turned) l11 c11 k11
  have b11 := F11.binds (ps := ["stream", "term"]) fun _ _ _ _ _ _ us hl => match us, hl with | [_, _], _ => rfl
  have F12 := fun_mk (st := s__law_form) l12 c12 k12
  have b12 := F12.binds (ps := ["term", "at", "goal"]) fun _ _ _ _ _ _ us hl => match us, hl with | [_, _, _], _ => rfl
  have F13 := fun_mk (st := s_law) l13 c13 k13
  have E : Bi K mg := ⟨PySem.W.mg_none_of X G z0, PySem.W.mg_none_of X G z1, PySem.W.mg_none_of X G z2, PySem.W.mg_none_of X G z3, PySem.W.mg_none_of X G z4, PySem.W.mg_none_of X G z5, PySem.W.mg_none_of X G z6, PySem.W.mg_none_of X G z7, ⟨_, _, PySem.W.mg_of X G y0, (relRef _), (kt_of kh1 (by show 3 ≤ 1000; decide) (.cons (relStr _ _) (.cons (relStr _ _) (.cons (relInt _ _) .nil))) (.cons (.str _) (.cons (.str _) (.cons (.int _) .nil))))⟩, ⟨_, _, PySem.W.mg_of X G y1, (relRef _), (kt_of kh5 (by show 4 ≤ 1000; decide) (.cons (relRef _) (.cons (relRef _) (.cons (relRef _) (.cons (relRef _) .nil)))) (.cons (kt_of kh6 (by show 3 ≤ 1000; decide) (.cons (relStr _ _) (.cons (relStr _ _) (.cons (relInt _ _) .nil))) (.cons (.str _) (.cons (.str _) (.cons (.int _) .nil)))) (.cons (kt_of kh10 (by show 3 ≤ 1000; decide) (.cons (relStr _ _) (.cons (relStr _ _) (.cons (relInt _ _) .nil))) (.cons (.str _) (.cons (.str _) (.cons (.int _) .nil)))) (.cons (kt_of kh14 (by show 3 ≤ 1000; decide) (.cons (relStr _ _) (.cons (relStr _ _) (.cons (relInt _ _) .nil))) (.cons (.str _) (.cons (.str _) (.cons (.int _) .nil)))) (.cons (kt_of kh18 (by show 3 ≤ 1000; decide) (.cons (relStr _ _) (.cons (relStr _ _) (.cons (relInt _ _) .nil))) (.cons (.str _) (.cons (.str _) (.cons (.int _) .nil)))) .nil)))))⟩⟩
  refine ⟨PySem.W.fnOf "law" "law" (defArgs s_law) (defBody s_law) (defScope s_law) .none kV13 dc13 pm13 an13 cd13 ct13, fun s v => .of_eq rfl, fun base _ _ => ?_⟩
  have D1 : Has l.prog w K mg base 1 "is_symbol" ["node"] (sp_is_symbol K) := ⟨_, _, ok_is_symbol F1 E , PySem.W.mg_of X G a1, k1, b1⟩
  have D5 : Has l.prog w K mg base 1 "_law_stream" ["script"] (sp__law_stream K) := ⟨_, _, ok__law_stream F5 E , PySem.W.mg_of X G a5, k5, b5⟩
  have D6 : Has l.prog w K mg base 1 "_law_draw" ["stream", "many"] (sp__law_draw K) := ⟨_, _, ok__law_draw F6 E , PySem.W.mg_of X G a6, k6, b6⟩
  have D10 : Has l.prog w K mg base 1 "_law_end" ["term", "at"] (sp__law_end K) := ⟨_, _, ok__law_end F10 E , PySem.W.mg_of X G a10, k10, b10⟩
  have D2 : Has l.prog w K mg base 2 "arity_of" ["node"] (sp_arity_of K) := ⟨_, _, ok_arity_of F2 E D1, PySem.W.mg_of X G a2, k2, b2⟩
  have D7 : Has l.prog w K mg base 2 "_law_name" ["stream"] (sp__law_name K) := ⟨_, _, ok__law_name F7 E D6, PySem.W.mg_of X G a7, k7, b7⟩
  have D11 : Has l.prog w K mg base 2 "_law_turned" ["stream", "term"] (sp__law_turned K) := ⟨_, _, ok__law_turned F11 E D6, PySem.W.mg_of X G a11, k11, b11⟩
  have D3 : Has l.prog w K mg base 3 "end_of" ["nodes", "start"] (sp_end_of K) := ⟨_, _, ok_end_of F3 E D2, PySem.W.mg_of X G a3, k3, b3⟩
  have D8 : Has l.prog w K mg base 3 "_law_leaf" ["stream", "widest"] (sp__law_leaf K) := ⟨_, _, ok__law_leaf F8 E D6 D7, PySem.W.mg_of X G a8, k8, b8⟩
  have D4 : Has l.prog w K mg base 4 "goal_form" ["term"] (sp_goal_form K) := ⟨_, _, ok_goal_form F4 E D1 D3, PySem.W.mg_of X G a4, k4, b4⟩
  have D9 : Has l.prog w K mg base 4 "_law_term" ["stream", "size", "widest"] (sp__law_term K) := ⟨_, _, ok__law_term F9 E D6 D7 D8, PySem.W.mg_of X G a9, k9, b9⟩
  have D12 : Has l.prog w K mg base 45 "_law_form" ["term", "at", "goal"] (sp__law_form K) := ⟨_, _, ok__law_form F12 E D10 (PySem.W.mg_of X G a12) b12, PySem.W.mg_of X G a12, k12, b12⟩
  exact ok_law F13 E D5 D11 D9 D6 D12 D4
end My
open PySem PySem.W PyProof.Rows
set_option maxRecDepth 100000 in
set_option maxHeartbeats 0 in
theorem PySem.Challenge.cw_hornbook_k00_goal_form_holds : PySem.Challenge.rw_hornbook_k00_goal_form.Holds := by
  w_on; o_law; k_head; (case hw => w_witness2)
  k_fill
  refine L2.walk_of (l := PySem.Challenge.rw_hornbook_k00_goal_form) (n := 63) (k := 47) (x := "script") (CX := fun _ => L2.CX0) (sp := fun w => My.sp_law _) rfl (by decide) rfl ⟨rfl, by decide, by decide⟩ (fun w h Y => PySem.W.kIn_of Y) ?F (fun _ _ a ns hl _ hS => ⟨a, ns, rfl, hS, hl, fun _ => rfl⟩) (fun _ _ _ _ _ h => h)
  case F =>
    intro w mg fa h KX G hmg
    refine' My.all_mk KX G hmg ?a1 ?l1 ?c1 ?k1 ?a2 ?l2 ?c2 ?k2 ?a3 ?l3 ?c3 ?k3 ?a4 ?l4 ?c4 ?k4 ?a5 ?l5 ?c5 ?k5 ?a6 ?l6 ?c6 ?k6 ?a7 ?l7 ?c7 ?k7 ?a8 ?l8 ?c8 ?k8 ?a9 ?l9 ?c9 ?k9 ?a10 ?l10 ?c10 ?k10 ?a11 ?l11 ?c11 ?k11 ?a12 ?l12 ?c12 ?k12 ?a13 ?l13 ?c13 ?k13 ?z0 ?z1 ?z2 ?z3 ?z4 ?z5 ?z6 ?z7 ?y0 ?kh1 ?y1 ?kh6 ?kh10 ?kh14 ?kh18 ?kh5
    (case a1 => k_is)
    (case l1 => k_is)
    (case c1 => k_is)
    (case k1 => k_is)
    (case a2 => k_is)
    (case l2 => k_is)
    (case c2 => k_is)
    (case k2 => k_is)
    (case a3 => k_is)
    (case l3 => k_is)
    (case c3 => k_is)
    (case k3 => k_is)
    (case a4 => k_is)
    (case l4 => k_is)
    (case c4 => k_is)
    (case k4 => k_is)
    (case a5 => k_is)
    (case l5 => k_is)
    (case c5 => k_is)
    (case k5 => k_is)
    (case a6 => k_is)
    (case l6 => k_is)
    (case c6 => k_is)
    (case k6 => k_is)
    (case a7 => k_is)
    (case l7 => k_is)
    (case c7 => k_is)
    (case k7 => k_is)
    (case a8 => k_is)
    (case l8 => k_is)
    (case c8 => k_is)
    (case k8 => k_is)
    (case a9 => k_is)
    (case l9 => k_is)
    (case c9 => k_is)
    (case k9 => k_is)
    (case a10 => k_is)
    (case l10 => k_is)
    (case c10 => k_is)
    (case k10 => k_is)
    (case a11 => k_is)
    (case l11 => k_is)
    (case c11 => k_is)
    (case k11 => k_is)
    (case a12 => k_is)
    (case l12 => k_is)
    (case c12 => k_is)
    (case k12 => k_is)
    (case a13 => k_is)
    (case l13 => k_is)
    (case c13 => k_is)
    (case k13 => k_is)
    (case z0 => k_is)
    (case z1 => k_is)
    (case z2 => k_is)
    (case z3 => k_is)
    (case z4 => k_is)
    (case z5 => k_is)
    (case z6 => k_is)
    (case z7 => k_is)
    (case y0 => k_is)
    (case kh1 => k_is)
    (case y1 => k_is)
    (case kh5 => k_is)
    (case kh18 => k_is)
    (case kh14 => k_is)
    (case kh10 => k_is)
    (case kh6 => k_is)
