import PyProof.Rows.All
import Wide.All
import OpenK.AllK
import Wide.FinOn
import HandS.ForMost
import HandS.IsInst
import HandS.Wide
import HandS.Codes
import HandS.Style
import HandS.TupLe
import HandS.TupAny
import HandS.EndBits
import HandS.Walk
import HandS.Zip
import KE.LtData
import PySem.Challenge.RW_hornbook_k02_is_term
set_option Elab.async false
set_option linter.all false
set_option maxRecDepth 100000
set_option maxHeartbeats 4000000
set_option exponentiation.threshold 10000
namespace My
open PySem PySem.Spec PyProof.Rows L2
/-- a def of the text that keeps a promise, as its callers want it -/
def Has (P : Program) (w : World) (K : PySem.W.Frag) (mg : Str → Option Value) (base : Heap) (k : Nat) (x : Str) (ps : List Str) (sp : Sp) : Prop :=
  ∃ (f : Addr) (fd : FuncData), FnOk P w K mg base CX0 k f fd ps sp ∧ mg x = some (.ref f) ∧ PySem.W.keepIn K (.ref f) = true ∧ Binds K fd ps []
theorem same_upd {H : Hp} {p : Addr} {o : HO} (h : H p = none) : Same H (upd H p o) := fun b x e => by
  rw [upd_ne (ne_of_none e h)]
  exact e
/-- all but the object at s is as it was -/
def But (s : Addr) (H H' : Hp) : Prop := ∀ b o, b ≠ s → H b = some o → H' b = some o
theorem But.refl (s : Addr) (H : Hp) : But s H H := fun _ _ _ e => e
theorem But.trans {s : Addr} {H H1 H2 : Hp} (a : But s H H1) (b : But s H1 H2) : But s H H2 := fun c o hc e => b c o hc (a c o hc e)
theorem But.of {s : Addr} {H H' : Hp} (a : Same H H') : But s H H' := fun b o _ e => a b o e
theorem But.put {s : Addr} {H : Hp} {o : HO} : But s H (upd H s o) := fun b u hb e => by rw [upd_ne hb]; exact e
/-! ### what a value is -/
mutual
inductive Im (K : PySem.W.Frag) (G : Addr → Prop) (H : Hp) : V → PyData → Prop
  | non : Im K G H .non .none
  | bl (b : Bool) : Im K G H (.bl b) (.bool b)
  | int (i : Int) : Im K G H (.int i) (.int i)
  | str (x : Str) : Im K G H (.str x) (.str x)
  | lst {a : Addr} {xs : List V} {ds : List PyData} : G a → H a = some (.lst xs) → ImAll K G H xs ds → Im K G H (.ref a) (.list ds)
  | tup {a : Addr} {xs : List V} {ds : List PyData} : G a → H a = some (.tup xs) → ImAll K G H xs ds → Im K G H (.ref a) (.tuple ds)
inductive ImAll (K : PySem.W.Frag) (G : Addr → Prop) (H : Hp) : List V → List PyData → Prop
  | nil : ImAll K G H [] []
  | cons {v : V} {vs : List V} {d : PyData} {ds : List PyData} : Im K G H v d → ImAll K G H vs ds → ImAll K G H (v :: vs) (d :: ds)
end
section
variable {K : PySem.W.Frag} {G G' : Addr → Prop} {H H' : Hp}
mutual
theorem Im.mono (hH : ∀ b o, G b → H b = some o → H' b = some o) (hG : ∀ b, G b → G' b) : ∀ (d : PyData) (v : V), Im K G H v d → Im K G' H' v d
  | .none, _, h => by cases h; exact .non
  | .bool b, _, h => by cases h; exact .bl b
  | .int i, _, h => by cases h; exact .int i
  | .str x, _, h => by cases h; exact .str x
  | .list ds, _, h => by
    cases h with
    | lst g e ha => exact .lst (hG _ g) (hH _ _ g e) (Im.monoAll hH hG ds _ ha)
  | .tuple ds, _, h => by
    cases h with
    | tup g e ha => exact .tup (hG _ g) (hH _ _ g e) (Im.monoAll hH hG ds _ ha)
  | .dict _, _, h => by cases h
theorem Im.monoAll (hH : ∀ b o, G b → H b = some o → H' b = some o) (hG : ∀ b, G b → G' b) : ∀ (ds : List PyData) (vs : List V), ImAll K G H vs ds → ImAll K G' H' vs ds
  | [], _, h => by cases h; exact .nil
  | d :: ds, _, h => by
    cases h with
    | cons h1 h2 => exact .cons (Im.mono hH hG d _ h1) (Im.monoAll hH hG ds _ h2)
end
mutual
theorem Im.dp : ∀ (d : PyData) (v : V), Im K G H v d → Dp K H v d
  | .none, _, h => by cases h; exact .non
  | .bool b, _, h => by cases h; exact .bl b
  | .int i, _, h => by cases h; exact .int i
  | .str x, _, h => by cases h; exact .str x
  | .list ds, _, h => by
    cases h with
    | lst g e ha => exact .lst (SqL.of e) (Im.dpAll ds _ ha)
  | .tuple ds, _, h => by
    cases h with
    | tup g e ha => exact .tup (SqT.of e) (Im.dpAll ds _ ha)
  | .dict _, _, h => by cases h
theorem Im.dpAll : ∀ (ds : List PyData) (vs : List V), ImAll K G H vs ds → DpAll K H vs ds
  | [], _, h => by cases h; exact .nil
  | d :: ds, _, h => by
    cases h with
    | cons h1 h2 => exact .cons (Im.dp d _ h1) (Im.dpAll ds _ h2)
end
theorem ImAll.len : ∀ {vs : List V} {ds : List PyData}, ImAll K G H vs ds → vs.length = ds.length
  | _, _, .nil => rfl
  | _, _, .cons _ t => congrArg (· + 1) (ImAll.len t)
theorem ImAll.get : ∀ {vs : List V} {ds : List PyData} {i : Nat} {d : PyData}, ImAll K G H vs ds → ds[i]? = some d → ∃ v, vs[i]? = some v ∧ Im K G H v d
  | _, _, _, _, .nil, e => by simp at e
  | _, _, 0, _, .cons r _, e => by simp at e; subst e; exact ⟨_, rfl, r⟩
  | _, _, i + 1, _, .cons _ t, e => by
    obtain ⟨u, h1, h2⟩ := ImAll.get (i := i) t (by simpa using e)
    exact ⟨u, by simpa using h1, h2⟩
theorem ImAll.getV : ∀ {vs : List V} {ds : List PyData} {i : Nat} {v : V}, ImAll K G H vs ds → vs[i]? = some v → ∃ d, ds[i]? = some d ∧ Im K G H v d
  | _, _, _, _, .nil, e => by simp at e
  | _, _, 0, _, .cons r _, e => by simp at e; subst e; exact ⟨_, rfl, r⟩
  | _, _, i + 1, _, .cons _ t, e => by
    obtain ⟨u, h1, h2⟩ := ImAll.getV (i := i) t (by simpa using e)
    exact ⟨u, by simpa using h1, h2⟩
theorem ImAll.snoc : ∀ {vs : List V} {ds : List PyData} {v : V} {d : PyData}, ImAll K G H vs ds → Im K G H v d → ImAll K G H (vs ++ [v]) (ds ++ [d])
  | _, _, _, _, .nil, r => .cons r .nil
  | _, _, _, _, .cons q t, r => .cons q (ImAll.snoc t r)
theorem ImAll.app : ∀ {vs : List V} {ds : List PyData} {us : List V} {es : List PyData}, ImAll K G H vs ds → ImAll K G H us es → ImAll K G H (vs ++ us) (ds ++ es)
  | _, _, _, _, .nil, r => r
  | _, _, _, _, .cons q t, r => .cons q (ImAll.app t r)
end
section
variable {K : PySem.W.Frag} {H : Hp}
theorem DpAll.len : ∀ {vs : List V} {ds : List PyData}, DpAll K H vs ds → vs.length = ds.length
  | _, _, .nil => rfl
  | _, _, .cons _ t => congrArg (· + 1) (DpAll.len t)
theorem DpAll.get : ∀ {vs : List V} {ds : List PyData} {i : Nat} {d : PyData}, DpAll K H vs ds → ds[i]? = some d → ∃ v, vs[i]? = some v ∧ Dp K H v d
  | _, _, _, _, .nil, e => by simp at e
  | _, _, 0, _, .cons r _, e => by simp at e; subst e; exact ⟨_, rfl, r⟩
  | _, _, i + 1, _, .cons _ t, e => by
    obtain ⟨u, h1, h2⟩ := DpAll.get (i := i) t (by simpa using e)
    exact ⟨u, by simpa using h1, h2⟩
/-- the name of a value's class -/
def tyN : PyData → String
  | .none => "NoneType" | .bool _ => "bool" | .int _ => "int" | .str _ => "str" | .list _ => "list" | .tuple _ => "tuple" | .dict _ => "dict"
theorem tyx_of : ∀ {x : V} {d : PyData}, Dp K H x d → TyX K H x (.type (tyN d))
  | _, _, .non => .base .non
  | _, _, .bl b => .base (.bl b)
  | _, _, .int i => .base (.int i)
  | _, _, .str x => .base (.str x)
  | _, _, .lst h _ => by
    rcases h with (h | ⟨o, h⟩) | ⟨o, its, n, hk, hc, _⟩
    · exact .base (.lst h)
    · exact .base (.frz h)
    · exact .kList hk hc
  | _, _, .tup h _ => by
    rcases h with (h | ⟨o, h⟩) | ⟨o, its, n, hk, hc, _⟩
    · exact .base (.tup h)
    · exact .fTuple h
    · exact .kTuple hk hc
def isI : PyData → Bool
  | .int _ => true | .bool _ => true | _ => false
def isB : PyData → Bool
  | .bool _ => true | _ => false
def isS : PyData → Bool
  | .str _ => true | _ => false
def isT : PyData → Bool
  | .tuple _ => true | _ => false
def isL : PyData → Bool
  | .list _ => true | _ => false
theorem kitI (d : PyData) : kitB (tyN d) "int" = some (isI d) := by cases d <;> (show kitB _ "int" = _; simp only [tyN, isI]; decide +kernel)
theorem kitBo (d : PyData) : kitB (tyN d) "bool" = some (isB d) := by cases d <;> (show kitB _ "bool" = _; simp only [tyN, isB]; decide +kernel)
theorem kitS (d : PyData) : kitB (tyN d) "str" = some (isS d) := by cases d <;> (show kitB _ "str" = _; simp only [tyN, isS]; decide +kernel)
theorem kitT (d : PyData) : kitB (tyN d) "tuple" = some (isT d) := by cases d <;> (show kitB _ "tuple" = _; simp only [tyN, isT]; decide +kernel)
theorem kitL (d : PyData) : kitB (tyN d) "list" = some (isL d) := by cases d <;> (show kitB _ "list" = _; simp only [tyN, isL]; decide +kernel)
theorem isi_int {x : V} {d : PyData} {Q : VK} (h : Dp K H x d) (q : Q (.bl (isI d)) H) : rIsi K [x, .ty "int"] H Q := ⟨x, .ty "int", _, _, _, rfl, .ty _, tyx_of h, kit_ty (kitI d), q⟩
theorem isi_bool {x : V} {d : PyData} {Q : VK} (h : Dp K H x d) (q : Q (.bl (isB d)) H) : rIsi K [x, .ty "bool"] H Q := ⟨x, .ty "bool", _, _, _, rfl, .ty _, tyx_of h, kit_ty (kitBo d), q⟩
theorem isi_str {x : V} {d : PyData} {Q : VK} (h : Dp K H x d) (q : Q (.bl (isS d)) H) : rIsi K [x, .ty "str"] H Q := ⟨x, .ty "str", _, _, _, rfl, .ty _, tyx_of h, kit_ty (kitS d), q⟩
theorem isi_tup {x : V} {d : PyData} {Q : VK} (h : Dp K H x d) (q : Q (.bl (isT d)) H) : rIsi K [x, .ty "tuple"] H Q := ⟨x, .ty "tuple", _, _, _, rfl, .ty _, tyx_of h, kit_ty (kitT d), q⟩
theorem isi_list {x : V} {d : PyData} {Q : VK} (h : Dp K H x d) (q : Q (.bl (isL d)) H) : rIsi K [x, .ty "list"] H Q := ⟨x, .ty "list", _, _, _, rfl, .ty _, tyx_of h, kit_ty (kitL d), q⟩
end
/-! ### the stream of draws -/
structure Stm (H : Hp) (s l : Addr) : Prop where
  ex : ∃ (a b m : Int) (ns : List Int), H s = some (.lst [.ref l, .int a, .int b, .int m]) ∧ H l = some (.lst (ns.map V.int)) ∧ ns.length ≤ 63 ∧ 0 ≤ a ∧ 0 ≤ b ∧ 0 ≤ m ∧ m < 2147483647
theorem Stm.keep {H H' : Hp} {s l : Addr} (h : Stm H s l) (e : Same H H') : Stm H' s l := by
  obtain ⟨a, b, m, ns, h1, h2, r⟩ := h.ex
  exact ⟨a, b, m, ns, e _ _ h1, e _ _ h2, r⟩
/-- another object is changed -/
theorem Stm.put {H : Hp} {s l r : Addr} {o : HO} (h : Stm H s l) (h1 : s ≠ r) (h2 : l ≠ r) : Stm (upd H r o) s l := by
  obtain ⟨a, b, m, ns, e1, e2, q⟩ := h.ex
  exact ⟨a, b, m, ns, by rw [upd_ne h1]; exact e1, by rw [upd_ne h2]; exact e2, q⟩
theorem Stm.at_s {H : Hp} {s l : Addr} (h : Stm H s l) : ∃ o, H s = some o := by
  obtain ⟨a, b, m, ns, e1, e2, q⟩ := h.ex
  exact ⟨_, e1⟩
theorem Stm.at_l {H : Hp} {s l : Addr} (h : Stm H s l) : ∃ o, H l = some o := by
  obtain ⟨a, b, m, ns, e1, e2, q⟩ := h.ex
  exact ⟨_, e2⟩
/-- a constant of the module -/
def GV (mg : Str → Option Value) (x : Str) (v : V) : Prop := ∃ u, mg x = some u ∧ RelV v u
theorem pe_gC {X : Cx} {x : Str} {v : V} {pos : Pos} (hg : Gl X x) (h : GV X.mg x v) (hd : (x == ("__debug__" : Str)) = false := by decide) : PE X (.Name x pos) (tC v) := by
  obtain ⟨u, e, r⟩ := h
  exact pe_glob hg e r hd

/-! ### 'a' * 40 -/
section
variable {X : Cx}
theorem op_mulS : OpR X (binaryOp .Mult) (fun x y H Q => ∃ z i, x = .str z ∧ y = .int i ∧ MulOk z i ∧ Q (.str (Txt.mul z i)) H) := by
  intro pins s σ H x y v u Q I rx ry h
  obtain ⟨z, i, rfl, rfl, hk, q⟩ := h
  obtain ⟨t, rfl⟩ := rx
  obtain ⟨t', rfl⟩ := ry
  exact SB.mul hk fun t2 k => ⟨.str _, H, I.tok k, ⟨_, rfl⟩, q⟩
end
/-! ### data written out: each part of it is new -/
section
variable {K : PySem.W.Frag}
/-- an expression that makes data and changes nothing else -/
def Lit (K : PySem.W.Frag) (σ : L2.St) (t : TE) (d : PyData) : Prop := ∀ (H : Hp) (Q : VK), (∀ v H', Same H H' → Im K (fun b => H b = Option.none) H' v d → Q v H') → t σ H Q
def LitA (K : PySem.W.Frag) (σ : L2.St) (t : TA) (ds : List PyData) : Prop := ∀ (H : Hp) (Q : List V → Hp → Prop), (∀ vs H', Same H H' → ImAll K (fun b => H b = Option.none) H' vs ds → Q vs H') → t σ H Q
variable {σ : L2.St}
theorem lit_int {i : Int} : Lit K σ (tC (.int i)) (.int i) := fun H Q h => h _ H (Same.refl H) (.int i)
theorem lit_str {x : Str} : Lit K σ (tC (.str x)) (.str x) := fun H Q h => h _ H (Same.refl H) (.str x)
theorem lit_bl {b : Bool} : Lit K σ (tC (.bl b)) (.bool b) := fun H Q h => h _ H (Same.refl H) (.bl b)
theorem lit_non : Lit K σ (tC .non) .none := fun H Q h => h _ H (Same.refl H) .non
theorem litA_nil : LitA K σ tNil [] := fun H Q h => h _ H (Same.refl H) .nil
theorem litA_cons {t : TE} {ta : TA} {d : PyData} {ds : List PyData} (h1 : Lit K σ t d) (h2 : LitA K σ ta ds) : LitA K σ (tCons t ta) (d :: ds) := fun H Q h =>
  h1 H _ fun v H1 s1 i1 => h2 H1 _ fun vs H2 s2 i2 => h _ H2 (s1.trans s2) (.cons (Im.mono (fun b o _ e => s2 b o e) (fun _ e => e) _ _ i1) (Im.monoAll (fun _ _ _ e => e) (fun b e => s1.free e) _ _ i2))
theorem lit_tup {ta : TA} {ds : List PyData} (h1 : LitA K σ ta ds) (hz : ds.length ≤ sizeLine) : Lit K σ (tTup ta) (.tuple ds) := fun H Q h =>
  h1 H _ fun vs H1 s1 i1 => ⟨by rw [i1.len]; exact hz, fun p np => h _ _ (s1.trans (same_upd np)) (.tup (s1.free np) upd_same (Im.monoAll (fun b o _ e => same_upd np b o e) (fun _ e => e) _ _ i1))⟩
theorem lit_lst {ta : TA} {ds : List PyData} (h1 : LitA K σ ta ds) (hz : ds.length ≤ sizeLine) : Lit K σ (tLst ta) (.list ds) := fun H Q h =>
  h1 H _ fun vs H1 s1 i1 => ⟨by rw [i1.len]; exact hz, fun p np => h _ _ (s1.trans (same_upd np)) (.lst (s1.free np) upd_same (Im.monoAll (fun b o _ e => same_upd np b o e) (fun _ e => e) _ _ i1))⟩
/-- what is an int -/
theorem lit_neg {t : TE} {i : Int} (h1 : Lit K σ t (.int i)) : Lit K σ (tUn (rU fun i => .int (-i)) t) (.int (-i)) := fun H Q h =>
  h1 H _ fun v H1 s1 i1 => by
    cases i1
    exact ⟨_, rfl, h _ H1 s1 (.int _)⟩
theorem lit_sub {t u : TE} {i j : Int} (h1 : Lit K σ t (.int i)) (h2 : Lit K σ u (.int j)) : Lit K σ (tOp (rI0 fun i j => .int (i - j)) t u) (.int (i - j)) := fun H Q h =>
  h1 H _ fun v H1 s1 i1 => h2 H1 _ fun v2 H2 s2 i2 => by
    cases i1
    cases i2
    exact ⟨_, _, rfl, rfl, h _ H2 (s1.trans s2) (.int _)⟩
theorem lit_pow {t u : TE} {i j : Int} (h1 : Lit K σ t (.int i)) (h2 : Lit K σ u (.int j)) (hc : CPow i j) : Lit K σ (tOp (rI CPow fun i j => .int (i ^ j.toNat)) t u) (.int (i ^ j.toNat)) := fun H Q h =>
  h1 H _ fun v H1 s1 i1 => h2 H1 _ fun v2 H2 s2 i2 => by
    cases i1
    cases i2
    exact ⟨_, _, rfl, rfl, hc, h _ H2 (s1.trans s2) (.int _)⟩
theorem lit_mulS {t u : TE} {z : Str} {j : Int} (h1 : Lit K σ t (.str z)) (h2 : Lit K σ u (.int j)) (hc : MulOk z j) : Lit K σ (tOp (fun x y H Q => ∃ z i, x = .str z ∧ y = .int i ∧ MulOk z i ∧ Q (.str (Txt.mul z i)) H) t u) (.str (Txt.mul z j)) := fun H Q h =>
  h1 H _ fun v H1 s1 i1 => h2 H1 _ fun v2 H2 s2 i2 => by
    cases i1
    cases i2
    exact ⟨_, _, rfl, rfl, hc, h _ H2 (s1.trans s2) (.str _)⟩
end
section
variable {X : Cx} {pos : Pos}
/-- a built-in class as a value -/
theorem pe_ty {x : Str} (n : String) (hg : Gl X x) (hm : X.mg x = Option.none) (hv : bootBuiltins x = some (.type n)) (hn : x ≠ "__name__" := by decide) (hd : (x == ("__debug__" : Str)) = false := by decide) : PE X (.Name x pos) (tC (.ty n)) :=
  pe_bltn hg hm hv rfl hn hd
end
section
variable {K : PySem.W.Frag} {H H' : Hp}
theorem same_sqT {a : Addr} {xs : List V} (e : Same H H') (h : SqT K H a xs) : SqT K H' a xs := by
  rcases h with (h | ⟨o, h⟩) | h
  · exact .inl (.inl (e _ _ h))
  · exact .inl (.inr ⟨o, e _ _ h⟩)
  · exact .inr h
mutual
theorem dp_same (e : Same H H') : ∀ (d : PyData) (v : V), Dp K H v d → Dp K H' v d
  | .none, _, h => by cases h; exact .non
  | .bool b, _, h => by cases h; exact .bl b
  | .int i, _, h => by cases h; exact .int i
  | .str x, _, h => by cases h; exact .str x
  | .list ds, _, h => by
    cases h with
    | lst g ha => exact .lst (e.seq g) (dp_sameAll e ds _ ha)
  | .tuple ds, _, h => by
    cases h with
    | tup g ha => exact .tup (same_sqT e g) (dp_sameAll e ds _ ha)
  | .dict _, _, h => by cases h
theorem dp_sameAll (e : Same H H') : ∀ (ds : List PyData) (vs : List V), DpAll K H vs ds → DpAll K H' vs ds
  | [], _, h => by cases h; exact .nil
  | d :: ds, _, h => by
    cases h with
    | cons h1 h2 => exact .cons (dp_same e d _ h1) (dp_sameAll e ds _ h2)
end
end
theorem small_of {n : Nat} (h : n ≤ 1000) : n ≤ sizeLine := Nat.le_of_lt (small1000 h)
theorem seq_asg {te : TE} {g : TG} {u : TS} {D : Ends} {σ : L2.St} {H : Hp} (h : te σ H fun x H1 => g x σ H1 (u D)) : tSeq (tAsg te g) u D σ H := h
theorem gname {i : Nat} {v : V} {σ : L2.St} {H : Hp} {Q : L2.St → Hp → Prop} (h : Q (σ.set i (some v)) H) : gName i v σ H Q := h
theorem nxp {N : L2.St → Hp → Prop} {R : VK} {B C : L2.St → Hp → Prop} {σ : L2.St} {H : Hp} (h : N σ H) : ({ nx := N, rt := R, bk := B, ct := C } : Ends).nx σ H := h
theorem seq_if {c : TT} {t t2 : TS} {u : TS} {D : Ends} {σ : L2.St} {H : Hp} (h : c σ H fun b H1 => if b = true then t { D with nx := u D } σ H1 else t2 { D with nx := u D } σ H1) : tSeq (tIfS c t t2) u D σ H := h
theorem seq_ifN {c : TT} {t : TS} {u : TS} {D : Ends} {σ : L2.St} {H : Hp} (h : c σ H fun b H1 => if b = true then t { D with nx := u D } σ H1 else u D σ H1) : tSeq (tIfS c t tNext) u D σ H := h
theorem seq_any {t : TS} {u : TS} {D : Ends} {σ : L2.St} {H : Hp} (h : t { D with nx := u D } σ H) : tSeq t u D σ H := h
theorem asg1 {te : TE} {g : TG} {D : Ends} {σ : L2.St} {H : Hp} (h : te σ H fun x H1 => g x σ H1 D.nx) : tAsg te g D σ H := h
section
variable {K : PySem.W.Frag} {G G' : Addr → Prop} {H H' : Hp}
mutual
theorem Im.mono2 (hH : ∀ b o, G b → H b = some o → H' b = some o) (hG : ∀ b o, H b = some o → G b → G' b) : ∀ (d : PyData) (v : V), Im K G H v d → Im K G' H' v d
  | .none, _, h => by cases h; exact .non
  | .bool b, _, h => by cases h; exact .bl b
  | .int i, _, h => by cases h; exact .int i
  | .str x, _, h => by cases h; exact .str x
  | .list ds, _, h => by
    cases h with
    | lst g e ha => exact .lst (hG _ _ e g) (hH _ _ g e) (Im.mono2All hH hG ds _ ha)
  | .tuple ds, _, h => by
    cases h with
    | tup g e ha => exact .tup (hG _ _ e g) (hH _ _ g e) (Im.mono2All hH hG ds _ ha)
  | .dict _, _, h => by cases h
theorem Im.mono2All (hH : ∀ b o, G b → H b = some o → H' b = some o) (hG : ∀ b o, H b = some o → G b → G' b) : ∀ (ds : List PyData) (vs : List V), ImAll K G H vs ds → ImAll K G' H' vs ds
  | [], _, h => by cases h; exact .nil
  | d :: ds, _, h => by
    cases h with
    | cons h1 h2 => exact .cons (Im.mono2 hH hG d _ h1) (Im.mono2All hH hG ds _ h2)
end
end
theorem join_set {c : Prop} [Decidable c] {v : V} {i : Nat} {u : TS} {D : Ends} {σ : L2.St} {H : Hp} (P : L2.St → Prop) (h : ∀ σ2, P σ2 → u D σ2 H) (h1 : c → P (σ.set i (some v))) (h2 : ¬ c → P σ) :
    if c then tAsg (tC v) (gName i) { D with nx := u D } σ H else u D σ H := by
  by_cases hc : c
  · rw [if_pos hc]
    exact h _ (h1 hc)
  · rw [if_neg hc]
    exact h _ (h2 hc)
/-- a constant tuple of the module, by its data -/
def GC (K : PySem.W.Frag) (mg : Str → Option Value) (x : Str) (d : PyData) : Prop := ∃ (u : Value) (v : V), mg x = some u ∧ RelV v u ∧ Dp K (fun _ => Option.none) v d
theorem none_same (H : Hp) : Same (fun _ => Option.none) H := fun _ _ e => nomatch e
theorem kt_of {K : PySem.W.Frag} {a : Addr} {its : Array Value} {n : Nat} {dd : Option Addr} {sl : Array (Option Value)} {xs : List V} {ds : List PyData} (h : K.lookup a = some ⟨.type "tuple", dd, .seq its n, sl⟩) (hz : its.size ≤ 1000) (hv : Vals xs its.toList) (ha : DpAll K (fun _ => Option.none) xs ds) :
    Dp K (fun _ => Option.none) (.ref a) (.tuple ds) := .tup (.inr ⟨_, its, n, h, rfl, rfl, Nat.le_trans hz (by decide), hv⟩) ha
/-! ### list.extend(tuple) -/
section
open Builtin
theorem extT (l b : Addr) (xs ys : Array Value) (n k : Nat) (dd : Option Addr) (sl : Array (Option Value)) (hlong : ¬(!xs.isEmpty && Builtin.List.listTooLong (xs.size + ys.size)) = true) (h1 : xs.size ≤ sizeLine) (h2 : xs.size + ys.size ≤ sizeLine + 1) :
    Meets (Builtin.«list.extend» ⟨[.ref l, .ref b], []⟩) (fun _ R s => s.heap.get? l = some { cls := .type "list", dict := none, data := .seq xs n, slots := #[] } ∧ s.heap.get? b = some { cls := .type "tuple", dict := dd, data := .seq ys k, slots := sl } ∧ R (.ok (.ret Value.none)) { s with heap := s.heap.update l (Obj.mapSeq fun x => x ++ ys), toks := s.toks }) := by
  refine .of_wp fun prog w A R s h => ?_
  obtain ⟨hp, g, d, tk, os⟩ := s
  obtain ⟨ea, eb, q⟩ := h
  have i1 := AutoSeq1.idx_int
  have i2 := AutoSeq1.sub_tuple_tuple
  have i3 := AutoSeq1.sub_list_list
  have i4 := AutoSeq1.sub_tuple_list
  have i5 := AutoSeq1.sub_list_tuple
  have hz : (xs ++ ys).size ≤ sizeLine + 1 := by rw [Array.size_append]; exact h2
  wp_walk using (wpAny_updateSeq ea rfl (hz := h1) (_hz' := hz)), AutoSeq1.wpAny_loadPart' ea, AutoSeq1.wpAny_loadPart' eb
  exact ⟨_, rfl, q⟩
end
section
variable {X : Cx}
def rExtT (K : PySem.W.Frag) : V → List V → Hp → VK → Prop := fun x vs H Q => ∃ l b xs zs, x = .ref l ∧ vs = [.ref b] ∧ H l = some (.lst xs) ∧ SqT K H b zs ∧ xs.length + zs.length ≤ sizeLine ∧ Q .non (upd H l (.lst (xs ++ zs)))
theorem mt_extT : MtR X "list.extend" (rExtT X.K) := by
  intro pins s σ H x vs v us Q I rx rv h
  obtain ⟨l, b, xs, zs, rfl, rfl, hH, hB, hz, q⟩ := h
  cases rx
  obtain ⟨u, rfl, ru⟩ := rv.one
  cases ru
  obtain ⟨z, its, n, r, hl, e⟩ := I.lstM hH
  obtain ⟨its2, r2, ⟨⟨oc, od, dt, sl⟩, e2, ec, k2, ed⟩, _⟩ := I.tuple hB
  simp only at ec ed
  subst ec ed
  have z1 := r.length
  have z2 := r2.length
  have hsz : its.toArray.size + its2.toArray.size ≤ sizeLine := by rw [List.size_toArray, List.size_toArray]; omega
  have nl : ¬ (!its.toArray.isEmpty && Builtin.List.listTooLong (its.toArray.size + its2.toArray.size)) = true := by
    rw [notLongL hsz, Bool.and_false]
    exact Bool.false_ne_true
  refine call_meets F.slot_list_extend ⟨_, e, rfl⟩ F.entry_list_extend (F.args_list_extend_2 _ _) (extT l b its.toArray its2.toArray n k2 od sl nl (by rw [List.size_toArray]; omega) (by omega)) ⟨e, e2, ?_⟩
  refine ⟨.non, _, I.lset (its' := its ++ its2) hH e (by simp) (r.append r2) ?_, rfl, q⟩
  rw [List.length_append]
  omega
/-! ### x in (a, b, ..), data of any depth -/
def rInT (K : PySem.W.Frag) : R2 := fun x y H Q => ∃ d ds, Dp K H x d ∧ Dp K H y (.tuple ds) ∧ SeqAt.shaped d = true ∧ SeqAt.shaped (.tuple ds) = true ∧ Q (.bl (ds.any fun z => PyData.eqv z d)) H
def rNotInT (K : PySem.W.Frag) : R2 := fun x y H Q => ∃ d ds, Dp K H x d ∧ Dp K H y (.tuple ds) ∧ SeqAt.shaped d = true ∧ SeqAt.shaped (.tuple ds) = true ∧ Q (.bl (!ds.any fun z => PyData.eqv z d)) H
theorem op_inT (hu : X.A.units + 65 < cLine) : OpR X (compareOp .In) (rInT X.K) := by
  intro pins s σ H x y v u Q I rx ry h
  obtain ⟨d, ds, hd, he, sd, se, q⟩ := h
  obtain ⟨as, r1⟩ := Dp.reads I d x v hd rx
  obtain ⟨bs, r2⟩ := Dp.reads I (.tuple ds) y u he ry
  exact SeqAt.in_tuple_reads r2 r1 (SeqAt.canLay_of_shaped se) (SeqAt.canLay_of_shaped sd) (room_in_shaped sd hu) ⟨.bl _, H, I, rfl, q⟩
theorem op_notInT (hu : X.A.units + 65 < cLine) : OpR X (compareOp .NotIn) (rNotInT X.K) := by
  intro pins s σ H x y v u Q I rx ry h
  obtain ⟨d, ds, hd, he, sd, se, q⟩ := h
  obtain ⟨as, r1⟩ := Dp.reads I d x v hd rx
  obtain ⟨bs, r2⟩ := Dp.reads I (.tuple ds) y u he ry
  exact SeqAt.notIn_tuple_reads r2 r1 (SeqAt.canLay_of_shaped se) (SeqAt.canLay_of_shaped sd) (room_in_shaped sd hu) ⟨.bl _, H, I, rfl, q⟩
theorem units65 {k : Nat} {A : Around} (r : Room k A) : A.units + 65 < cLine := by
  have := r.un
  omega
end
section
variable {K : PySem.W.Frag} {H : Hp}
theorem DpAll.dropt : ∀ {xs : List V} {ds : List PyData} (n : Nat), DpAll K H xs ds → DpAll K H (xs.drop n) (ds.drop n)
  | _, _, 0, r => r
  | _, _, _ + 1, .nil => .nil
  | _, _, n + 1, .cons _ t => DpAll.dropt n t
theorem DpAll.taket : ∀ {xs : List V} {ds : List PyData} (n : Nat), DpAll K H xs ds → DpAll K H (xs.take n) (ds.take n)
  | _, _, 0, _ => .nil
  | _, _, _ + 1, .nil => .nil
  | _, _, n + 1, .cons r t => .cons r (DpAll.taket n t)
theorem DpAll.app : ∀ {xs ys : List V} {ds es : List PyData}, DpAll K H xs ds → DpAll K H ys es → DpAll K H (xs ++ ys) (ds ++ es)
  | _, _, _, _, .nil, r => r
  | _, _, _, _, .cons q t, r => .cons q (DpAll.app t r)
theorem DpAll.getV : ∀ {vs : List V} {ds : List PyData} {i : Nat} {v : V}, DpAll K H vs ds → vs[i]? = some v → ∃ d, ds[i]? = some d ∧ Dp K H v d
  | _, _, _, _, .nil, e => by simp at e
  | _, _, 0, _, .cons r _, e => by simp at e; subst e; exact ⟨_, rfl, r⟩
  | _, _, i + 1, _, .cons _ t, e => by
    obtain ⟨u, h1, h2⟩ := DpAll.getV (i := i) t (by simpa using e)
    exact ⟨u, by simpa using h1, h2⟩
end
/-- a part of a tuple, also the whole -/
theorem cut_nat (xs : List V) (i j : Nat) (h1 : i ≤ xs.length) (h2 : j ≤ xs.length) : cutV xs (some (i : Int)) (some (j : Int)) = (xs.drop i).take (j - i) := by
  unfold cutV
  rw [HT.sIx_nat, HT.sIx_nat, Nat.min_eq_left h1, Nat.min_eq_left h2]
theorem slA_nat {K : PySem.W.Frag} {H : Hp} {a : Addr} {xs : List V} {i j : Nat} {Q : VK} (hs : SqT K H a xs) (h1 : i ≤ xs.length) (h2 : j ≤ xs.length) (h : ∀ b H', Same H H' → SqT K H' b ((xs.drop i).take (j - i)) → (∀ c, H c = Option.none → c ≠ b → H' c = Option.none) → Q (.ref b) H') :
    rSlA K (.ref a) (some (i : Int)) (some (j : Int)) H Q := by
  refine ⟨a, xs, rfl, hs, fun z => ?_, fun z p np => ?_⟩
  · rw [HT.sIx_nat, HT.sIx_nat, Nat.min_eq_left h1, Nat.min_eq_left h2] at z
    refine h a H (Same.refl H) ?_ fun _ e _ => e
    rw [z.1, z.2, List.drop_zero, Nat.sub_zero, List.take_length]
    exact hs
  · rw [cut_nat xs i j h1 h2]
    exact h p _ (same_upd np) (SqT.of upd_same) fun c e hc => by rw [upd_ne hc]; exact e
theorem cat_dp {K : PySem.W.Frag} {H : Hp} {x y : V} {ds es : List PyData} {Q : VK} (hx : Dp K H x (.tuple ds)) (hy : Dp K H y (.tuple es)) (hne : ds ≠ []) (hz : ds.length + es.length ≤ 1000) (h : ∀ v H', Same H H' → Dp K H' v (.tuple (ds ++ es)) → Q v H') : rCatT K x y H Q := by
  cases hx with
  | @tup a xs _ sx ax =>
  cases hy with
  | @tup b ys _ sy ay =>
  have lx := DpAll.len ax
  have ly := DpAll.len ay
  refine ⟨a, b, xs, ys, rfl, rfl, sx, sy, fun z => ?_, small_of (by omega), fun z => ?_, fun z p np => ?_⟩
  · rw [z] at lx
    exact hne (List.eq_nil_of_length_eq_zero lx.symm)
  · subst z
    cases ay
    rw [List.append_nil] at h
    exact h _ H (Same.refl H) (.tup sx ax)
  · exact h _ _ (same_upd np) (.tup (SqT.of upd_same) (dp_sameAll (same_upd np) _ _ (DpAll.app ax ay)))
theorem cut_from1 (v : V) (xs : List V) : cutV (v :: xs) (some 1) Option.none = xs := by
  unfold cutV
  rw [show (some (1 : Int)) = some ((1 : Nat) : Int) from rfl, HT.sIx_nat, HT.sIx_none, List.length_cons, Nat.min_eq_left (by omega), List.drop_succ_cons, List.drop_zero, Nat.add_sub_cancel]
  exact List.take_length
section
variable {σ : L2.St} {H : Hp}
theorem args1 {t : TE} {ta : TA} {Q : List V → Hp → Prop} (h : t σ H fun x H1 => ta σ H1 fun xs H2 => Q (x :: xs) H2) : tCons t ta σ H Q := h
theorem tup_of {ta : TA} {Q : VK} (h : ta σ H fun xs H1 => xs.length ≤ sizeLine ∧ ∀ p, H1 p = Option.none → Q (.ref p) (upd H1 p (.tup xs))) : tTup ta σ H Q := h
theorem const_of {v : V} {Q : VK} (h : Q v H) : tC v σ H Q := h
theorem op_of {r : R2} {ta tb : TE} {Q : VK} (h : ta σ H fun x H1 => tb σ H1 fun y H2 => r x y H2 Q) : tOp r ta tb σ H Q := h
theorem nil_of {Q : List V → Hp → Prop} (h : Q [] H) : tNil σ H Q := h
end
section
variable {σ : L2.St} {H : Hp}
theorem call_of {sp : Sp} {dvs : List V} {E : XK} {t : TA} {Q : VK} (h : t σ H fun vs H1 => sp (vs ++ dvs) H1 Q E) : tCall sp dvs E t σ H Q := h
theorem args_and {r : R2} {sp : Sp} {dvs : List V} {E : XK} {t : TA} {tb tc : TE} {D : Ends} (h : t σ H fun vs H1 => sp (vs ++ dvs) H1 (fun x H1 => tb σ H1 fun y H2 => r x y H2 fun x H1 => ∃ c, x = .bl c ∧ if c = true then tc σ H1 D.rt else D.rt (.bl false) H1) E) : tRet (tAndV (tOp r (tCall sp dvs E t) tb) tc) D σ H := h
end
theorem relStr (x : Str) (t : Tok) : RelV (.str x) (.str x t) := ⟨_, rfl⟩
theorem relInt (i : Int) (t : Tok) : RelV (.int i) (.int i t) := ⟨_, rfl⟩
theorem relRef (a : Addr) : RelV (.ref a) (.ref a) := rfl
/-! ### a < b of data whose places are alike -/
section
variable {X : Cx}
def rLtD (K : PySem.W.Frag) : R2 := fun x y H Q => ∃ d e, Dp K H x d ∧ Dp K H y e ∧ PySem.W.alike d e = true ∧ d ≠ .none ∧ d.depth ≤ 8 ∧ Q (.bl (PySem.W.dataLt d e)) H
theorem op_ltD (hu : X.A.units + 64 < cLine) : OpR X (compareOp .Lt) (rLtD X.K) := by
  intro pins s σ H x y v u Q I rx ry h
  obtain ⟨d, e, hd, he, ha, hn, hz, q⟩ := h
  obtain ⟨as, r1⟩ := Dp.reads I d x v hd rx
  obtain ⟨bs, r2⟩ := Dp.reads I e y u he ry
  have R := PySem.W.rcLt_alike d e X.A s v u as bs r1 r2 ha hn (Nat.lt_of_le_of_lt (Nat.add_le_add_left (Nat.le_trans (Nat.min_le_left _ _) (Nat.le_trans hz (by decide : 8 ≤ 64))) _) hu)
  have z : wpAny (model X.prog X.w) X.A (compareOp .Lt v u) (EP X pins σ Q) X.xe s := R X.prog X.w X.xe (EP X pins σ Q) ⟨.bl _, H, I, rfl, q⟩
  exact z
end
/-! ### zip of two tuples -/
theorem walk_zipT {K : PySem.W.Frag} {a b : Addr} {xs ys : List V} {n : Nat} (hn : n = min xs.length ys.length) : Walk (RZ.ItzT K a b) n (fun H => SqT K H a xs ∧ SqT K H b ys) (YPair (fun i => xs[i]?) (fun i => ys[i]?)) := by
  subst hn
  refine ⟨fun i H hi q => ?_, fun H q => ⟨xs, ys, q.1, q.2, by omega⟩, fun i H v H' hi q y => ?_⟩
  · have h1 : i < xs.length := by omega
    have h2 : i < ys.length := by omega
    exact ⟨xs, ys, _, _, q.1, q.2, List.getElem?_eq_getElem h1, List.getElem?_eq_getElem h2⟩
  · obtain ⟨T, x, y, e1, e2, e3, e4, e5⟩ := y
    exact ⟨T, x, y, e1, e2, e3, e4 xs q.1, e5 ys q.2⟩
/-! ### () + t -/
section
open Builtin
theorem addE (l b : Addr) (xs ys : Array Value) (n k : Nat) (dd dd2 : Option Addr) (sl sl2 : Array (Option Value)) (he : xs.isEmpty = true) :
    Meets (Builtin.«tuple.__add__» ⟨[.ref l, .ref b], []⟩) (fun _ R s => s.heap.get? l = some { cls := .type "tuple", dict := dd, data := .seq xs n, slots := sl } ∧ s.heap.get? b = some { cls := .type "tuple", dict := dd2, data := .seq ys k, slots := sl2 } ∧ R (.ok (.ret (Value.ref b))) s) := by
  refine .of_wp fun prog w A R s h => ?_
  obtain ⟨hp, g, d, tk, os⟩ := s
  obtain ⟨ea, eb, q⟩ := h
  have i1 := AutoSeq1.idx_int
  have i2 := AutoSeq1.sub_tuple_tuple
  have i3 := AutoSeq1.sub_list_list
  have i4 := AutoSeq1.sub_tuple_list
  have i5 := AutoSeq1.sub_list_tuple
  wp_walk using AutoSeq1.wpAny_loadPart' ea, AutoSeq1.wpAny_loadPart' eb
  exact ⟨_, rfl, q⟩
end
section
variable {X : Cx}
def rCatA (K : PySem.W.Frag) : R2 := fun x y H Q => ∃ a b xs ys, x = .ref a ∧ y = .ref b ∧ SqT K H a xs ∧ SqT K H b ys ∧ xs.length + ys.length ≤ sizeLine ∧ (xs = [] → Q (.ref b) H) ∧ (ys = [] → Q (.ref a) H) ∧ ∀ p, H p = Option.none → Q (.ref p) (upd H p (.tup (xs ++ ys)))
theorem op_catA : OpR X (binaryOp .Add) (rCatA X.K) := by
  intro pins s σ H x y v u Q I rx ry h
  obtain ⟨a, b, xs, ys, rfl, rfl, ha, hb, hz, q1, q2, q3⟩ := h
  by_cases hx : xs = []
  · subst hx
    cases rx
    cases ry
    obtain ⟨its, r1, p1, _⟩ := I.tuple ha
    obtain ⟨its2, r2, p2, _⟩ := I.tuple hb
    cases r1
    obtain ⟨⟨oc, od, dt, sl⟩, e1, c1, n, d1⟩ := p1
    obtain ⟨⟨oc2, od2, dt2, sl2⟩, e2, c2, n2, d2⟩ := p2
    simp only at c1 d1 c2 d2
    subst c1 d1 c2 d2
    exact concat_meets ⟨_, e1, rfl⟩ ⟨_, e2, rfl⟩ noFill_tuple_add seq_tuple_add PySem.F.slot_tuple_add PySem.F.entry_tuple_add (PySem.F.args_tuple_add_2 _ _)
      (addE a b #[] its2.toArray n n2 od od2 sl sl2 rfl) ⟨e1, e2, ⟨.ref b, H, I, rfl, q1 rfl⟩⟩
  · exact op_catT pins s σ H (.ref a) (.ref b) v u Q I rx ry ⟨a, b, xs, ys, rfl, rfl, ha, hb, hx, hz, q2, fun _ p np => q3 p np⟩
end
section
variable {K : PySem.W.Frag} {G : Addr → Prop} {H : Hp}
theorem ImAll.dropt : ∀ {xs : List V} {ds : List PyData} (n : Nat), ImAll K G H xs ds → ImAll K G H (xs.drop n) (ds.drop n)
  | _, _, 0, r => r
  | _, _, _ + 1, .nil => .nil
  | _, _, n + 1, .cons _ t => ImAll.dropt n t
theorem ImAll.taket : ∀ {xs : List V} {ds : List PyData} (n : Nat), ImAll K G H xs ds → ImAll K G H (xs.take n) (ds.take n)
  | _, _, 0, _ => .nil
  | _, _, _ + 1, .nil => .nil
  | _, _, n + 1, .cons r t => .cons r (ImAll.taket n t)
theorem im_new {xs : List V} {ds : List PyData} {p : Addr} (np : H p = Option.none) (ia : ImAll K G H xs ds) : Im K (fun b => G b ∨ H b = Option.none) (upd H p (.tup xs)) (.ref p) (.tuple ds) :=
  .tup (.inr np) upd_same (Im.monoAll (fun b o _ e => same_upd np b o e) (fun _ g => .inl g) _ _ ia)
theorem im_cut {x : V} {ds es : List PyData} {lo hi : Option Int} {Q : VK} (iv : Im K G H x (.tuple ds)) (hc : ∀ xs : List V, ImAll K G H xs ds → ImAll K G H (cutV xs lo hi) es) (h : ∀ v H', Same H H' → (∀ b, G b ∨ H b = Option.none → G b ∨ H b = Option.none) → Im K (fun b => G b ∨ H b = Option.none) H' v (.tuple es) → Q v H') : rSlA K x lo hi H Q := by
  cases iv with
  | @tup a xs _ g e ia =>
  refine ⟨a, xs, rfl, SqT.of e, fun z => ?_, fun z p np => ?_⟩
  · have hw : cutV xs lo hi = xs := by
      unfold cutV
      rw [z.1, z.2, List.drop_zero, Nat.sub_zero, List.take_length]
    have := hc xs ia
    rw [hw] at this
    exact h _ H (Same.refl H) (fun _ q => q) (.tup (.inl g) e (Im.monoAll (fun _ _ _ e => e) (fun _ g => .inl g) _ _ this))
  · exact h _ _ (same_upd np) (fun _ q => q) (im_new np (hc xs ia))
theorem im_take {x : V} {ds : List PyData} {k : Nat} {Q : VK} (iv : Im K G H x (.tuple ds)) (hk : k ≤ ds.length) (h : ∀ v H', Same H H' → Im K (fun b => G b ∨ H b = Option.none) H' v (.tuple (ds.take k)) → Q v H') : rSlA K x Option.none (some (k : Int)) H Q :=
  im_cut iv (fun xs ia => by
    unfold cutV
    rw [HT.sIx_none, HT.sIx_nat, Nat.min_eq_left (by rw [ia.len]; exact hk), List.drop_zero, Nat.sub_zero]
    exact ImAll.taket _ ia) fun v H' s _ i => h v H' s i
theorem im_drop {x : V} {ds : List PyData} {k : Nat} {Q : VK} (iv : Im K G H x (.tuple ds)) (hk : k ≤ ds.length) (h : ∀ v H', Same H H' → Im K (fun b => G b ∨ H b = Option.none) H' v (.tuple (ds.drop k)) → Q v H') : rSlA K x (some (k : Int)) Option.none H Q :=
  im_cut iv (fun xs ia => by
    unfold cutV
    rw [HT.sIx_none, HT.sIx_nat, Nat.min_eq_left (by rw [ia.len]; exact hk), List.take_of_length_le (by rw [List.length_drop]; exact Nat.le_refl _)]
    exact ImAll.dropt _ ia) fun v H' s _ i => h v H' s i
theorem im_cat {x y : V} {ds es : List PyData} {Q : VK} (iv : Im K G H x (.tuple ds)) (iw : Im K G H y (.tuple es)) (hz : ds.length + es.length ≤ 1000) (h : ∀ v H', Same H H' → Im K (fun b => G b ∨ H b = Option.none) H' v (.tuple (ds ++ es)) → Q v H') : rCatA K x y H Q := by
  have w1 := Im.mono (G' := fun b => G b ∨ H b = Option.none) (fun _ _ _ e => e) (fun _ g => .inl g) _ _ iv
  have w2 := Im.mono (G' := fun b => G b ∨ H b = Option.none) (fun _ _ _ e => e) (fun _ g => .inl g) _ _ iw
  cases iv with
  | @tup a xs _ g e ia =>
  cases iw with
  | @tup b ys _ g2 e2 ib =>
  have l1 := ia.len
  have l2 := ib.len
  refine ⟨a, b, xs, ys, rfl, rfl, SqT.of e, SqT.of e2, small_of (by omega), fun z => ?_, fun z => ?_, fun p np => ?_⟩
  · subst z
    cases ia
    exact h _ H (Same.refl H) w2
  · subst z
    cases ib
    rw [List.append_nil] at h
    exact h _ H (Same.refl H) w1
  · exact h _ _ (same_upd np) (im_new np (ImAll.app ia ib))
end
end My

namespace My
open PySem PySem.Spec PyProof.Rows L2
/-! ### the text -/
def topS (i : Nat) : Stmt := PySem.Challenge.pw_hornbook_k02_is_term.main.body.getD i (.Pass ⟨0, 0, 0, 0⟩)
abbrev s_is_integer : Stmt := topS 5
abbrev N_is_integer : List Str := ["value"]
theorem sc_is_integer : FnScope N_is_integer ["value"] (defScope s_is_integer) := ⟨rfl, rfl, rfl, by decide +kernel, rfl, by decide +kernel, by decide +kernel⟩
abbrev s_is_bounded : Stmt := topS 6
abbrev N_is_bounded : List Str := ["value"]
theorem sc_is_bounded : FnScope N_is_bounded ["value"] (defScope s_is_bounded) := ⟨rfl, rfl, rfl, by decide +kernel, rfl, by decide +kernel, by decide +kernel⟩
abbrev s_is_name : Stmt := topS 7
abbrev N_is_name : List Str := ["value", "letter"]
theorem sc_is_name : FnScope N_is_name ["value"] (defScope s_is_name) := ⟨rfl, rfl, rfl, by decide +kernel, rfl, by decide +kernel, by decide +kernel⟩
abbrev s_is_arity : Stmt := topS 8
abbrev N_is_arity : List Str := ["value"]
theorem sc_is_arity : FnScope N_is_arity ["value"] (defScope s_is_arity) := ⟨rfl, rfl, rfl, by decide +kernel, rfl, by decide +kernel, by decide +kernel⟩
abbrev s_is_symbol : Stmt := topS 9
abbrev N_is_symbol : List Str := ["node"]
theorem sc_is_symbol : FnScope N_is_symbol ["node"] (defScope s_is_symbol) := ⟨rfl, rfl, rfl, by decide +kernel, rfl, by decide +kernel, by decide +kernel⟩
abbrev s_arity_of : Stmt := topS 10
abbrev N_arity_of : List Str := ["node"]
theorem sc_arity_of : FnScope N_arity_of ["node"] (defScope s_arity_of) := ⟨rfl, rfl, rfl, by decide +kernel, rfl, by decide +kernel, by decide +kernel⟩
abbrev s_is_node : Stmt := topS 11
abbrev N_is_node : List Str := ["value"]
theorem sc_is_node : FnScope N_is_node ["value"] (defScope s_is_node) := ⟨rfl, rfl, rfl, by decide +kernel, rfl, by decide +kernel, by decide +kernel⟩
abbrev s_is_term : Stmt := topS 12
abbrev N_is_term : List Str := ["value", "missing", "node"]
theorem sc_is_term : FnScope N_is_term ["value"] (defScope s_is_term) := ⟨rfl, rfl, rfl, by decide +kernel, rfl, by decide +kernel, by decide +kernel⟩
abbrev s__law_stream : Stmt := topS 14
abbrev N__law_stream : List Str := ["script", "mixed", "cell"]
theorem sc__law_stream : FnScope N__law_stream ["script"] (defScope s__law_stream) := ⟨rfl, rfl, rfl, by decide +kernel, rfl, by decide +kernel, by decide +kernel⟩
abbrev s__law_draw : Stmt := topS 15
abbrev N__law_draw : List Str := ["stream", "many", "value"]
theorem sc__law_draw : FnScope N__law_draw ["stream", "many"] (defScope s__law_draw) := ⟨rfl, rfl, rfl, by decide +kernel, rfl, by decide +kernel, by decide +kernel⟩
abbrev s__law_value : Stmt := topS 16
abbrev N__law_value : List Str := ["stream", "rows"]
theorem sc__law_value : FnScope N__law_value ["stream"] (defScope s__law_value) := ⟨rfl, rfl, rfl, by decide +kernel, rfl, by decide +kernel, by decide +kernel⟩
abbrev s__law_whole : Stmt := topS 17
abbrev N__law_whole : List Str := ["value"]
theorem sc__law_whole : FnScope N__law_whole ["value"] (defScope s__law_whole) := ⟨rfl, rfl, rfl, by decide +kernel, rfl, by decide +kernel, by decide +kernel⟩
abbrev s__law_arity : Stmt := topS 18
abbrev N__law_arity : List Str := ["value"]
theorem sc__law_arity : FnScope N__law_arity ["value"] (defScope s__law_arity) := ⟨rfl, rfl, rfl, by decide +kernel, rfl, by decide +kernel, by decide +kernel⟩
abbrev s_law : Stmt := topS 19
abbrev N_law : List Str := ["script", "stream", "good", "rows", "k", "missing", "due", "row", "arity", "actual", "fixed", "count"]
theorem sc_law : FnScope N_law ["script"] (defScope s_law) := ⟨rfl, rfl, rfl, by decide +kernel, rfl, by decide +kernel, by decide +kernel⟩
/-- names that the top leaves to the built-ins, and its constants -/
structure Bi (K : PySem.W.Frag) (mg : Str → Option Value) : Prop where
  b_abs : mg "abs" = Option.none
  b_all : mg "all" = Option.none
  b_bool : mg "bool" = Option.none
  b_int : mg "int" = Option.none
  b_isinstance : mg "isinstance" = Option.none
  b_len : mg "len" = Option.none
  b_list : mg "list" = Option.none
  b_max : mg "max" = Option.none
  b_ord : mg "ord" = Option.none
  b_range : mg "range" = Option.none
  b_str : mg "str" = Option.none
  b_tuple : mg "tuple" = Option.none
  c_MOST_NAME : GV mg "MOST_NAME" (.int 40)
  c_MOST_ARITY : GV mg "MOST_ARITY" (.int 8)
  c_INTEGER_BOUND : GV mg "INTEGER_BOUND" (.int 10000000000000000000000000000000000000000)
  c_PERCENT : GV mg "PERCENT" (.int 37)

/-! ### the mathematics: what each def gives -/
def big : Int := 10000000000000000000000000000000000000000
def isInteger : PyData → Bool
  | .int _ => true | _ => false
def isBounded : PyData → Bool
  | .int i => decide ((if i < 0 then -i else i) < big) | _ => false
def okSign (c : Nat) : Bool := (!decide ([c] < [32])) && (!decide ([126] < [c])) && (!decide ((c : Int) = 37))
def isName : PyData → Bool
  | .str x => decide ((1 : Int) ≤ x.length) && decide ((x.length : Int) ≤ 40) && x.cps.toList.all okSign | _ => false
def isArity : PyData → Bool
  | .int i => decide (0 ≤ i) && decide (i ≤ 8) | _ => false
def geZ : PyData → Bool
  | .int i => decide (0 ≤ i) | _ => false
def isNode : PyData → Bool
  | .int i => isBounded (.int i)
  | .tuple [a, b] => a.eqv (.str "v") && isInteger b && geZ b
  | .tuple [a, b, c] => a.eqv (.str "f") && isName b && isArity c
  | _ => false
def isSym : PyData → Bool
  | .tuple [_, _, _] => true | _ => false
def arityOf : PyData → Int
  | .tuple [_, _, c] => (match c with | .int n => n | _ => 0) | _ => 0
/-- every part can be compared -/
def okD : PyData → Bool
  | .tuple ds => ds.all SeqAt.shaped && ds.all (fun d => match d with | .str x => decide (x.length ≤ 100) | _ => true) | _ => true
def termGo : Int → List PyData → Bool
  | m, [] => decide (m = 0)
  | m, d :: ds => if m = 0 ∨ isNode d = false then false else termGo (m + (arityOf d - 1)) ds
def isTerm : PyData → Bool
  | .tuple ds => termGo 1 ds | _ => false
def lawName : PyData → Bool
  | .str x => decide ((1 : Int) ≤ x.length) && decide ((x.length : Int) ≤ 40) && !decide (10 ∈ x.cps.toList) | _ => false
def lawArity : PyData → Int
  | .int i => if decide (-((10 : Int) ^ (40 : Int).toNat) < i) = true ∧ decide (i < (10 : Int) ^ (40 : Int).toNat) = true then 0 else -1
  | .tuple [a, b] => if (a.eqv (.str "v") = true ∧ isInteger b = true) ∧ geZ b = true then 0 else -1
  | .tuple [a, b, c] => if (a.eqv (.str "f") = true ∧ lawName b = true) ∧ isArity c = true then (match c with | .int n => n | _ => 0) else -1
  | _ => -1
/-! ### small facts -/
theorem tup_cases {d : PyData} (hn : isNode d = true) (ht : isT d = true) : (∃ a b, d = .tuple [a, b] ∧ a.eqv (.str "v") = true) ∨ ∃ a b c, d = .tuple [a, b, c] ∧ a.eqv (.str "f") = true ∧ isArity c = true := by
  cases d with
  | tuple ds =>
    rcases ds with _ | ⟨a, _ | ⟨b, _ | ⟨c, _ | ⟨e, r⟩⟩⟩⟩
    · exact absurd hn Bool.false_ne_true
    · exact absurd hn Bool.false_ne_true
    · have h : (a.eqv (.str "v") && isInteger b && geZ b) = true := hn
      simp only [Bool.and_eq_true] at h
      exact .inl ⟨a, b, rfl, h.1.1⟩
    · have h : (a.eqv (.str "f") && isName b && isArity c) = true := hn
      simp only [Bool.and_eq_true] at h
      exact .inr ⟨a, b, c, rfl, h.1.1, h.2⟩
    · exact absurd hn Bool.false_ne_true
  | _ => cases ht
theorem eqv_str {a : PyData} {z : Str} (h : a.eqv (.str z) = true) : a = .str z := by
  cases a with
  | str s =>
    have h3 : (s == z) = true := by simpa only [PyData.eqv] using h
    rw [beq_iff_eq.mp h3]
  | _ => simp only [PyData.eqv, Bool.false_eq_true] at h
theorem first_of {d : PyData} (hn : isNode d = true) (ht : isT d = true) : ∃ a r, ∃ s : Str, d = .tuple (a :: r) ∧ a = .str s ∧ isSym d = decide (V.str s = V.str "f") := by
  rcases tup_cases hn ht with ⟨a, b, rfl, h⟩ | ⟨a, b, c, rfl, h, _⟩
  · exact ⟨a, _, _, rfl, eqv_str h, (by decide +kernel : false = decide (V.str ("v" : Str) = V.str "f"))⟩
  · exact ⟨a, _, _, rfl, eqv_str h, (by decide +kernel : true = decide (V.str ("f" : Str) = V.str "f"))⟩
theorem third_of {d : PyData} (hn : isNode d = true) (hs : isSym d = true) : ∃ a b n, d = .tuple [a, b, .int n] := by
  have ht : isT d = true := by cases d <;> first | rfl | cases hs
  rcases tup_cases hn ht with ⟨a, b, rfl, h⟩ | ⟨a, b, c, rfl, h, h2⟩
  · cases hs
  · obtain ⟨n, rfl⟩ : ∃ n, c = .int n := by
      cases c <;> first | exact ⟨_, rfl⟩ | cases h2
    exact ⟨_, _, _, rfl⟩
theorem arity0 {d : PyData} (hs : ¬ isSym d = true) : arityOf d = 0 := by
  match d with
  | .tuple [_, _, _] => exact absurd rfl hs
  | .none => rfl
  | .bool _ => rfl
  | .int _ => rfl
  | .str _ => rfl
  | .list _ => rfl
  | .dict _ => rfl
  | .tuple [] => rfl
  | .tuple [_] => rfl
  | .tuple [_, _] => rfl
  | .tuple (_ :: _ :: _ :: _ :: _) => rfl
theorem okD_at {ds : List PyData} {i : Nat} {d : PyData} (h : okD (.tuple ds) = true) (e : ds[i]? = some d) : SeqAt.shaped d = true := by
  have h2 : (ds.all SeqAt.shaped && ds.all (fun d => match d with | .str x => decide (x.length ≤ 100) | _ => true)) = true := h
  rw [Bool.and_eq_true] at h2
  exact List.all_eq_true.mp h2.1 d (List.mem_of_getElem? e)
theorem okD_str {ds : List PyData} {i : Nat} {d : PyData} (h : okD (.tuple ds) = true) (e : ds[i]? = some d) : ∀ z, d = .str z → z.length ≤ 100 := by
  have h2 : (ds.all SeqAt.shaped && ds.all (fun d => match d with | .str x => decide (x.length ≤ 100) | _ => true)) = true := h
  rw [Bool.and_eq_true] at h2
  have h3 := List.all_eq_true.mp h2.2 d (List.mem_of_getElem? e)
  intro z ez
  subst ez
  exact of_decide_eq_true h3
/-! ### the promises -/
def sp_is_integer (K : PySem.W.Frag) : Sp := fun vs H Q _ => ∃ (x : V) (d : PyData), vs = [x] ∧ Dp K H x d ∧ Q (.bl (isInteger d)) H
def sp_is_bounded (K : PySem.W.Frag) : Sp := fun vs H Q _ => ∃ (x : V) (d : PyData), vs = [x] ∧ Dp K H x d ∧ Q (.bl (isBounded d)) H
def sp_is_name (K : PySem.W.Frag) : Sp := fun vs H Q _ => ∃ (x : V) (d : PyData), vs = [x] ∧ Dp K H x d ∧ (∀ z, d = .str z → z.length ≤ 100) ∧ ∀ H', Same H H' → Q (.bl (isName d)) H'
def sp_is_arity (K : PySem.W.Frag) : Sp := fun vs H Q _ => ∃ (x : V) (d : PyData), vs = [x] ∧ Dp K H x d ∧ Q (.bl (isArity d)) H
def sp_is_symbol (K : PySem.W.Frag) : Sp := fun vs H Q _ => ∃ (x : V) (d : PyData), vs = [x] ∧ Dp K H x d ∧ isNode d = true ∧ Q (.bl (isSym d)) H
def sp_arity_of (K : PySem.W.Frag) : Sp := fun vs H Q _ => ∃ (x : V) (d : PyData), vs = [x] ∧ Dp K H x d ∧ isNode d = true ∧ Q (.int (arityOf d)) H
def sp_is_node (K : PySem.W.Frag) : Sp := fun vs H Q _ => ∃ (x : V) (d : PyData), vs = [x] ∧ Dp K H x d ∧ okD d = true ∧ ∀ H', Same H H' → Q (.bl (isNode d)) H'
def sp_is_term (K : PySem.W.Frag) : Sp := fun vs H Q _ => ∃ (x : V) (d : PyData), vs = [x] ∧ Dp K H x d ∧ (∀ ds, d = .tuple ds → ∀ e ∈ ds, okD e = true) ∧ ∀ H', Same H H' → Q (.bl (isTerm d)) H'
def sp__law_stream (K : PySem.W.Frag) : Sp := fun vs H Q _ => ∃ (a : Addr) (ns : List Int), vs = [.ref a] ∧ SqL K H a (ns.map V.int) ∧ ns.length ≤ 63 ∧ ∀ s l H', H s = Option.none → H l = Option.none → Same H H' → Stm H' s l → Q (.ref s) H'
def sp__law_draw (K : PySem.W.Frag) : Sp := fun vs H Q _ => ∃ (s l : Addr) (n : Int), vs = [.ref s, .int n] ∧ Stm H s l ∧ 0 < n ∧ n.natAbs < 2 ^ 9000 ∧ ∀ r H', 0 ≤ r → r < n → But s H H' → Stm H' s l → Q (.int r) H'
def sp__law_whole (K : PySem.W.Frag) : Sp := fun vs H Q _ => ∃ (x : V) (d : PyData), vs = [x] ∧ Dp K H x d ∧ Q (.bl (isInteger d)) H
def sp__law_arity (K : PySem.W.Frag) : Sp := fun vs H Q _ => ∃ (x : V) (d : PyData), vs = [x] ∧ Dp K H x d ∧ okD d = true ∧ Q (.int (lawArity d)) H
def m0 : List PyData := [.int (0 : Int), .int (7 : Int), .int (-(7 : Int)), .int ((10 : Int) ^ ((40 : Int)).toNat), .int ((1 : Int) - ((10 : Int) ^ ((40 : Int)).toNat)), .tuple [.str "v", .int (0 : Int)], .tuple [.str "v", .int ((10 : Int) ^ ((50 : Int)).toNat)], .tuple [.str "v", .int (-(1 : Int))], .tuple [.str "v", .bool true], .tuple [.str "v"], .tuple [.str "f", .str "a", .int (0 : Int)]]
def m1 : List PyData := [.tuple [.str "f", .str "g", .int (1 : Int)], .tuple [.str "f", .str "h", .int (2 : Int)], .tuple [.str "f", .str "[]", .int (0 : Int)], .tuple [.str "f", .str (Txt.mul "a" (40 : Int)), .int (0 : Int)], .tuple [.str "f", .str (Txt.mul "a" (41 : Int)), .int (0 : Int)], .tuple [.str "f", .str "", .int (0 : Int)]]
def m2 : List PyData := [.tuple [.str "f", .str "a", .int (9 : Int)], .tuple [.str "f", .str "a", .int (8 : Int)], .tuple [.str "f", .str "a", .int (-(1 : Int))], .tuple [.str "f", .str "a", .bool false], .tuple [.str "f", .int (3 : Int), .int (0 : Int)], .tuple [.str "g", .str "a", .int (0 : Int)]]
def m3 : List PyData := [.tuple [.str "f", .str "a\nb", .int (0 : Int)], .tuple [.str "f", .str "a"], .tuple [.str "v", .int (0 : Int), .int (0 : Int)], .bool true, .none, .str "a", .list [.str "v", .int (0 : Int)], .tuple [.str "f", .str "a", .none], .tuple []]
def m4 : List PyData := [.tuple [.str "v", .none], .tuple [.str "v", .bool false], .tuple [.str "f", .str "a", .bool true], .tuple [.list [], .int (0 : Int)], .int (-((10 : Int) ^ ((41 : Int)).toNat))]
def m5 : List PyData := [.int (-((10 : Int) ^ ((40 : Int)).toNat)), .tuple [.str "f", .str "a", .int (0 : Int), .int (7 : Int)], .tuple [.str "f", .bool true, .int (0 : Int)], .tuple [.str "v", .int (0 : Int), .str "x"], .tuple [.str "v", .str "x"], .tuple [.bool true, .str "a", .int (0 : Int)]]
def menu : List PyData := ((((m0 ++ m1) ++ m2) ++ m3) ++ m4) ++ m5
def goods : List PyData := [.int (0 : Int), .tuple [.str "v", .int (0 : Int)], .tuple [.str "f", .str "a", .int (0 : Int)], .tuple [.str "f", .str "g", .int (1 : Int)], .tuple [.str "f", .str "h", .int (2 : Int)], .tuple [.str "v", .int (3 : Int)], .int (-(5 : Int))]
def sp__law_value (K : PySem.W.Frag) : Sp := fun vs H Q _ => ∃ s l, vs = [.ref s] ∧ Stm H s l ∧ ∀ v d H', d ∈ menu → But s H H' → Stm H' s l → Im K (fun b => H b = Option.none) H' v d → Q v H'
def sp_law (K : PySem.W.Frag) : Sp := fun vs H Q _ => ∃ (a : Addr) (ns : List Int), vs = [.ref a] ∧ SqL K H a (ns.map V.int) ∧ ns.length ≤ 63 ∧ ∀ H', Q (.bl true) H'
/-! ### the law's data -/
def agree (d : PyData) : Bool := (isNode d == decide (0 ≤ lawArity d)) && (!isNode d || decide (arityOf d = lawArity d)) && okD d && decide (-1 ≤ lawArity d)
def rowA : PyData := .tuple [.str "f", .str "a", .int 0]
theorem goods_agree : goods.all agree = true := by decide +kernel
theorem menu_agree : menu.all agree = true := by decide +kernel
structure Good (d : PyData) : Prop where
  nd : isNode d = decide (0 ≤ lawArity d)
  ar : isNode d = true → arityOf d = lawArity d
  ok : okD d = true
  ge : -1 ≤ lawArity d
theorem good_of {d : PyData} (h : agree d = true) : Good d := by
  unfold agree at h
  simp only [Bool.and_eq_true, beq_iff_eq, Bool.or_eq_true, Bool.not_eq_true', decide_eq_true_eq] at h
  obtain ⟨⟨⟨h1, h2⟩, h3⟩, h4⟩ := h
  exact ⟨h1, fun e => h2.elim (fun z => by rw [e] at z; cases z) id, h3, h4⟩
theorem good_goods {d : PyData} (h : d ∈ goods) : Good d := good_of (List.all_eq_true.mp goods_agree d h)
theorem good_menu {d : PyData} (h : d ∈ menu) : Good d := good_of (List.all_eq_true.mp menu_agree d h)
theorem good_rowA : Good rowA := good_of (by decide +kernel)
def step1 (p : Int × Bool) (d : PyData) : Int × Bool := (p.1 - 1 + lawArity d, if p.1 = 0 ∨ lawArity d < 0 then false else p.2)
def step2 (p : Int × Bool) (d : PyData) : Int × Bool := (p.1 - 1 + (if lawArity d > 0 then lawArity d else 0), if p.1 = 0 then false else p.2)
theorem fold1_false : ∀ (ds : List PyData) (m : Int), (ds.foldl step1 (m, false)).2 = false
  | [], _ => rfl
  | d :: ds, m => by
    have e : step1 (m, false) d = (m - 1 + lawArity d, false) := by unfold step1; simp
    rw [List.foldl_cons, e]
    exact fold1_false ds _
theorem fold2_false : ∀ (ds : List PyData) (m : Int), (ds.foldl step2 (m, false)).2 = false
  | [], _ => rfl
  | d :: ds, m => by
    have e : step2 (m, false) d = (m - 1 + (if lawArity d > 0 then lawArity d else 0), false) := by unfold step2; simp
    rw [List.foldl_cons, e]
    exact fold2_false ds _
theorem go1 : ∀ (ds : List PyData) (m : Int), (∀ d ∈ ds, Good d) → termGo m ds = ((ds.foldl step1 (m, true)).2 && decide ((ds.foldl step1 (m, true)).1 = 0))
  | [], m, _ => by
    unfold termGo
    simp only [List.foldl_nil, Bool.true_and]
    exact decide_eq_decide.mpr Iff.rfl
  | d :: ds, m, hg => by
    have g := hg d List.mem_cons_self
    have ih := go1 ds (m - 1 + lawArity d) fun e he => hg e (List.mem_cons_of_mem _ he)
    unfold termGo
    rw [List.foldl_cons]
    by_cases h : m = 0 ∨ lawArity d < 0
    · have e : step1 (m, true) d = (m - 1 + lawArity d, false) := by unfold step1; rw [if_pos h]
      have e2 : m = 0 ∨ isNode d = false := h.imp id fun z => by rw [g.nd]; exact decide_eq_false (by omega)
      rw [if_pos e2, e, fold1_false]
      rfl
    · have e : step1 (m, true) d = (m - 1 + lawArity d, true) := by unfold step1; rw [if_neg h]
      have hn : isNode d = true := by rw [g.nd]; exact decide_eq_true (by omega)
      have e2 : ¬ (m = 0 ∨ isNode d = false) := fun z => z.elim (fun z => h (.inl z)) fun z => by rw [hn] at z; cases z
      rw [if_neg e2, e, g.ar hn, show m + (lawArity d - 1) = m - 1 + lawArity d by omega]
      exact ih
theorem go2 : ∀ (ds : List PyData) (m : Int) (f : Bool), (∀ d ∈ ds, Good d) → (f && ds.all (fun d => decide (0 ≤ lawArity d)) && (ds.foldl step2 (m, true)).2 && decide ((ds.foldl step2 (m, true)).1 = 0)) = (f && termGo m ds)
  | [], m, f, _ => by
    unfold termGo
    simp only [List.foldl_nil, List.all_nil, Bool.and_true]
    exact congrArg (f && ·) (decide_eq_decide.mpr Iff.rfl)
  | d :: ds, m, f, hg => by
    have g := hg d List.mem_cons_self
    have ih := go2 ds (m - 1 + (if lawArity d > 0 then lawArity d else 0)) f fun e he => hg e (List.mem_cons_of_mem _ he)
    unfold termGo
    rw [List.foldl_cons, List.all_cons]
    by_cases h : m = 0
    · have e : step2 (m, true) d = (m - 1 + (if lawArity d > 0 then lawArity d else 0), false) := by unfold step2; rw [if_pos h]
      rw [if_pos (Or.inl h), e, fold2_false]
      simp
    · have e : step2 (m, true) d = (m - 1 + (if lawArity d > 0 then lawArity d else 0), true) := by unfold step2; rw [if_neg h]
      rw [e]
      by_cases hn : isNode d = true
      · have h0 : 0 ≤ lawArity d := by rw [g.nd] at hn; exact of_decide_eq_true hn
        have e2 : ¬ (m = 0 ∨ isNode d = false) := fun z => z.elim h fun z => by rw [hn] at z; cases z
        have e3 : (if lawArity d > 0 then lawArity d else 0) = lawArity d := by split <;> omega
        rw [if_neg e2, decide_eq_true h0, Bool.true_and, g.ar hn, show m + (lawArity d - 1) = m - 1 + lawArity d by omega]
        rw [e3] at ih ⊢
        exact ih
      · have h0 : ¬ 0 ≤ lawArity d := fun z => hn (by rw [g.nd]; exact decide_eq_true z)
        rw [if_pos (Or.inr (by cases hh : isNode d <;> first | rfl | exact absurd hh hn)), decide_eq_false h0]
        simp
theorem fold1_snoc (f : Int × Bool → PyData → Int × Bool) {ds : List PyData} {i : Nat} {d : PyData} (h : ds[i]? = some d) (p : Int × Bool) : (ds.take (i + 1)).foldl f p = f ((ds.take i).foldl f p) d := by
  rw [List.take_add_one, h, List.foldl_append]
  rfl
structure LawW (K : PySem.W.Frag) (s l g r : Addr) (gs : List V) (H : Hp) (xs : List V) (ds : List PyData) : Prop where
  st : Stm H s l
  gd : H g = some (.lst gs)
  ga : ImAll K (fun b => b ≠ s ∧ b ≠ r) H gs goods
  ro : H r = some (.lst xs)
  ra : ImAll K (fun b => b ≠ s ∧ b ≠ r) H xs ds
  mem : ∀ d ∈ ds, Good d
  sr : s ≠ r
  gs_ : g ≠ s
  gr : g ≠ r
  lr : l ≠ r
theorem LawW.keep {K : PySem.W.Frag} {s l g r : Addr} {gs : List V} {H H' : Hp} {xs : List V} {ds : List PyData} (w : LawW K s l g r gs H xs ds) (b : But s H H') (st : Stm H' s l) : LawW K s l g r gs H' xs ds :=
  ⟨st, b _ _ w.gs_ w.gd, Im.monoAll (fun c o g e => b c o g.1 e) (fun _ e => e) _ _ w.ga, b _ _ w.sr.symm w.ro, Im.monoAll (fun c o g e => b c o g.1 e) (fun _ e => e) _ _ w.ra, w.mem, w.sr, w.gs_, w.gr, w.lr⟩
theorem LawW.same {K : PySem.W.Frag} {s l g r : Addr} {gs : List V} {H H' : Hp} {xs : List V} {ds : List PyData} (w : LawW K s l g r gs H xs ds) (b : Same H H') : LawW K s l g r gs H' xs ds := w.keep (But.of b) (w.st.keep b)
theorem LawW.push {K : PySem.W.Frag} {s l g r : Addr} {gs : List V} {H : Hp} {xs : List V} {ds : List PyData} {v : V} {d : PyData} (w : LawW K s l g r gs H xs ds) (iv : Im K (fun b => b ≠ s ∧ b ≠ r) H v d) (hd : Good d) : LawW K s l g r gs (upd H r (.lst (xs ++ [v]))) (xs ++ [v]) (ds ++ [d]) := by
  have k : ∀ b o, (b ≠ s ∧ b ≠ r) → H b = some o → (upd H r (.lst (xs ++ [v]))) b = some o := fun b o hb e => by rw [upd_ne hb.2]; exact e
  refine ⟨w.st.put w.sr w.lr, by rw [upd_ne w.gr]; exact w.gd, Im.monoAll k (fun _ e => e) _ _ w.ga, upd_same, ImAll.snoc (Im.monoAll k (fun _ e => e) _ _ w.ra) (Im.mono k (fun _ e => e) _ _ iv), fun e he => ?_, w.sr, w.gs_, w.gr, w.lr⟩
  rcases List.mem_append.mp he with h | h
  · exact w.mem e h
  · rw [List.mem_singleton.mp h]; exact hd
theorem LawW.dps {K : PySem.W.Frag} {s l g r : Addr} {gs : List V} {H : Hp} {xs : List V} {ds : List PyData} (w : LawW K s l g r gs H xs ds) : DpAll K H xs ds := Im.dpAll _ _ w.ra

local macro_rules | `(tactic| walk_at "lits") => `(tactic| repeat' (first | exact lit_int | exact lit_str | exact lit_bl | exact lit_non | exact litA_nil | refine litA_cons ?_ ?_ | refine lit_tup ?_ (by decide) | refine lit_lst ?_ (by decide) | refine lit_neg ?_ | refine lit_sub ?_ ?_ | refine lit_pow ?_ ?_ ⟨by decide, by decide, by decide⟩ | refine lit_mulS ?_ ?_ ⟨by decide, by decide, by decide⟩))
section
variable {P : Program} {w : World} {K : PySem.W.Frag} {mg : Str → Option Value} {base : Heap}
theorem ok_is_integer {f : Addr} {fd : FuncData} (F : Fun K "is_integer" "is_integer" s_is_integer f fd) (E : Bi K mg)  : FnOk P w K mg base CX0 1 f fd ["value"] (sp_is_integer K) := by
  refine F.ok sc_is_integer (fun vs H Q E h => ?_) (fun cdv A outer s H vs Q E' hr h => ?_)
  · obtain ⟨x, d, rfl, _⟩ := h
    rfl
  · obtain ⟨x, d, rfl, hd, q⟩ := h
    refine ⟨_, (pss_one (ps_ret (pe_and (pe_callB call_isi (by rfl) E.b_isinstance (by decide +kernel) (pa_cons (pv 0) (pa_cons (pe_ty "int" (by rfl) E.b_int (by decide +kernel)) pa_nil))) (pe_one (pe_not (pe_callB call_isi (by rfl) E.b_isinstance (by decide +kernel) (pa_cons (pv 0) (pa_cons (pe_ty "bool" (by rfl) E.b_bool (by decide +kernel)) pa_nil)))))))), ?_⟩
    refine ⟨x, rfl, _, _, _, _, _, rfl, .ty _, tyx_of hd, kit_ty (kitI _), _, rfl, ite2 (fun e => ?_) (fun e => ?_)⟩
    · refine ⟨x, rfl, _, _, _, _, _, rfl, .ty _, tyx_of hd, kit_ty (kitBo _), _, rfl, ?_⟩
      have e2 : isInteger d = (!isB d) := by cases d <;> first | rfl | cases e
      rw [e2] at q
      exact q
    · have e2 : isInteger d = false := by cases d <;> first | rfl | exact absurd rfl e
      rw [e2] at q
      exact q

theorem ok_is_name {f : Addr} {fd : FuncData} (F : Fun K "is_name" "is_name" s_is_name f fd) (E : Bi K mg)  : FnOk P w K mg base CX0 1 f fd ["value"] (sp_is_name K) := by
  refine F.ok sc_is_name (fun vs H Q E h => ?_) (fun cdv A outer s H vs Q E' hr h => ?_)
  · obtain ⟨x, d, rfl, _⟩ := h
    rfl
  · obtain ⟨x, d, rfl, hd, hz, q⟩ := h
    refine ⟨_, (pss_cons (ps_if (pw_or (pt_not (pt_val (pe_callB call_isi (by rfl) E.b_isinstance (by decide +kernel) (pa_cons (pv 0) (pa_cons (pe_ty "str" (by rfl) E.b_str (by decide +kernel)) pa_nil))))) (pw_or1 (pt_not (pt_chain op_le op_le pe_int (pe_callB call_len_str (by rfl) E.b_len PySem.boot_len (pa_cons (pv 0) pa_nil)) (pe_gC (by rfl) E.c_MOST_NAME))))).pt (pss_one (ps_ret pe_bl)) pss_nil)
      (pss_one (ps_ret (pe_callB (cr_all rfl) (by rfl) E.b_all (by decide +kernel) (pa_cons (pe_lc (own := [("letter", 1)]) (g := gName 1) (tt := tYes) rfl sc_is_name.nd (pi_str (pv 0)) (blkOk_by (N := N_is_name) (sc := defScope s_is_name) (by decide +kernel)) (fun _ _ _ _ _ => pg_name (i := 1) sc_is_name.nd rfl (Or.inl rfl)) (fun _ _ _ _ _ => pts_nil) (fun _ _ _ _ _ => (pe_and (pe_chain op_le_str op_le_str pe_str (pv 1) pe_str) (pe_one (pe_cmpR op_ne (pe_callB call_ord (by rfl) E.b_ord (by decide +kernel) (pa_cons (pv 1) pa_nil)) (pe_gC (by rfl) E.c_PERCENT) (nomark _)))))) pa_nil))))), ?_⟩
    refine ⟨x, rfl, _, _, _, _, _, rfl, .ty _, tyx_of hd, kit_ty (kitS _), _, rfl, ?_⟩
    by_cases es : isS d = true
    · obtain ⟨z, rfl⟩ : ∃ z, d = .str z := by cases d <;> first | exact ⟨_, rfl⟩ | cases es
      cases hd
      have hz100 := hz z rfl
      have h32 : (Str.ofString " ").cps.toList = [32] := by decide +kernel
      have h126 : (Str.ofString "~").cps.toList = [126] := by decide +kernel
      have en : isName (.str z) = (decide ((1 : Int) ≤ z.length) && decide ((z.length : Int) ≤ 40) && z.cps.toList.all okSign) := rfl
      refine iteF ⟨_, rfl, _, rfl, Nat.le_of_lt (small1000 (by omega)), _, _, rfl, rfl, _, rfl, ite2 (fun e => ?_) (fun e => ?_)⟩
      · refine ⟨_, _, rfl, rfl, _, rfl, ?_⟩
        by_cases e1 : decide ((z.length : Int) ≤ 40) = true
        · rw [e1]
          refine iteF ⟨_, rfl, z, rfl, fun D hD => lc_it walk_str (fun i H' => H' = upd H D (.lst ((z.cps.toList.take i).map fun c => V.bl (okSign c)))) rfl (fun _ _ _ _ => trivial) ?_ ?_⟩
          · rintro i x H1 H2 hi rfl ⟨rfl, c, hc, rfl⟩
            have hlt : i < z.cps.toList.length := by simpa using hi
            have hget : z.cps.toList[i]? = some c := by simpa using hc
            have fin : ∀ b : Bool, b = okSign c → ∃ acc, (upd H D (.lst ((z.cps.toList.take i).map fun c => V.bl (okSign c)))) D = some (.lst acc) ∧ acc.length < sizeLine ∧
                upd (upd H D (.lst ((z.cps.toList.take i).map fun c => V.bl (okSign c)))) D (.lst (acc ++ [V.bl b])) = upd H D (.lst ((z.cps.toList.take (i + 1)).map fun c => V.bl (okSign c))) := by
              intro b hb
              refine ⟨_, upd_same, ?_, ?_⟩
              · rw [List.length_map, List.length_take]
                exact Nat.lt_of_le_of_lt (Nat.min_le_right _ _) (small1000 (by simpa using (show z.cps.size ≤ 1000 from by have : z.length = z.cps.size := rfl; omega)))
              · rw [upd_upd, List.take_add_one, hget, List.map_append, hb]
                rfl
            refine ⟨rfl, _, rfl, _, _, rfl, rfl, _, rfl, ite2 (fun e2 => ?_) (fun e2 => ?_)⟩
            · refine ⟨_, _, rfl, rfl, _, rfl, ite2 (fun e3 => ?_) (fun e3 => ?_)⟩
              · refine ⟨_, rfl, _, rfl, rfl, rfl, ?_⟩
                refine fin _ ?_
                unfold okSign
                rw [h32] at e2
                rw [h126] at e3
                rw [show (!decide ([c] < [32])) = true from e2, show (!decide ([126] < [c])) = true from e3, Bool.true_and, Bool.true_and]
                congr 1
                exact decide_eq_decide.mpr ⟨fun h => V.int.inj h, fun h => congrArg V.int h⟩
              · refine fin _ ?_
                unfold okSign
                rw [h126] at e3
                rw [show (!decide ([126] < [c])) = false from Bool.eq_false_iff.mpr e3, Bool.and_false]
                rfl
            · refine ⟨_, rfl, iteF (fin _ ?_)⟩
              unfold okSign
              rw [h32] at e2
              rw [show (!decide ([c] < [32])) = false from Bool.eq_false_iff.mpr e2]
              rfl
          · rintro H1 rfl
            refine ⟨D, z.cps.toList.map okSign, rfl, SqL.of (by rw [upd_same, List.take_of_length_le (by simp), List.map_map]; rfl), ?_⟩
            have q2 := q (upd H D (.lst ((z.cps.toList.take z.cps.size).map fun c => V.bl (okSign c)))) (same_upd hD)
            rw [en, show decide ((1 : Int) ≤ z.length) = true from e, e1] at q2
            rw [List.all_map]
            exact q2
        · have q2 := q H (Same.refl H)
          rw [en, Bool.eq_false_iff.mpr e1, Bool.and_false] at q2
          rw [Bool.eq_false_iff.mpr e1]
          exact iteT q2
      · refine ⟨_, rfl, iteT ?_⟩
        have q2 := q H (Same.refl H)
        rw [en, show decide ((1 : Int) ≤ z.length) = false from Bool.eq_false_iff.mpr e] at q2
        exact q2
    · have e2 : isName d = false := by cases d <;> first | rfl | exact absurd rfl es
      have q2 := q H (Same.refl H)
      rw [e2] at q2
      rw [Bool.eq_false_iff.mpr es]
      exact iteT (iteT q2)

theorem ok_is_symbol {f : Addr} {fd : FuncData} (F : Fun K "is_symbol" "is_symbol" s_is_symbol f fd) (E : Bi K mg)  : FnOk P w K mg base CX0 1 f fd ["node"] (sp_is_symbol K) := by
  refine F.ok sc_is_symbol (fun vs H Q E h => ?_) (fun cdv A outer s H vs Q E' hr h => ?_)
  · obtain ⟨x, d, rfl, _⟩ := h
    rfl
  · obtain ⟨x, d, rfl, hd, hn, q⟩ := h
    refine ⟨_, (pss_one (ps_ret (pe_and (pe_callB call_isi (by rfl) E.b_isinstance (by decide +kernel) (pa_cons (pv 0) (pa_cons (pe_ty "tuple" (by rfl) E.b_tuple (by decide +kernel)) pa_nil))) (pe_one (pe_cmpR op_eq (pe_ix ix_tup (pv 0) pe_int (fun _ _ => rfl)) pe_str (nomark _)))))), ?_⟩
    refine ⟨x, rfl, _, _, _, _, _, rfl, .ty _, tyx_of hd, kit_ty (kitT _), _, rfl, ite2 (fun e => ?_) (fun e => ?_)⟩
    · obtain ⟨a, r, sg, rfl, rfl, q2⟩ := first_of hn e
      cases hd with
      | tup hs ha =>
        obtain ⟨v, hv, hdv⟩ := DpAll.get (i := 0) ha rfl
        cases hdv
        refine ⟨_, rfl, _, _, _, _, rfl, rfl, hs, atI_nat (j := 0) hv, rfl, ?_⟩
        rw [q2] at q
        exact q
    · have e2 : isSym d = false := by cases d <;> first | rfl | exact absurd rfl e
      rw [e2] at q
      exact q

theorem ok__law_stream {f : Addr} {fd : FuncData} (F : Fun K "_law_stream" "_law_stream" s__law_stream f fd) (E : Bi K mg)  : FnOk P w K mg base CX0 1 f fd ["script"] (sp__law_stream K) := by
  refine F.ok sc__law_stream (fun vs H Q E h => ?_) (fun cdv A outer s H vs Q E' hr h => ?_)
  · obtain ⟨a, ns, rfl, _⟩ := h
    rfl
  · obtain ⟨a, ns, rfl, hS, hl, q⟩ := h
    refine ⟨_, (pss_cons (ps_set (i := 1) sc__law_stream.nd rfl (Or.inl rfl) pe_int)
      (pss_cons (ps_for PassesOwn.never rfl (pi_list (pv 0)) (pg_name (i := 2) sc__law_stream.nd rfl (Or.inl rfl)) (pss_one (ps_set (i := 1) sc__law_stream.nd rfl (Or.inl rfl) (pe_op op_mod (pe_callTy call_int1 (by rfl) E.b_int (by decide +kernel) (pa_cons (pe_op op_add (pe_op op_add (pe_op op_mul (pv 1) pe_int) (pe_op op_mod (pe_callTy call_int1 (by rfl) E.b_int (by decide +kernel) (pa_cons (pv 2) pa_nil)) pe_int)) pe_int) pa_nil)) pe_int))))
      (pss_one (ps_ret (pe_lst (pa_cons (pe_callTy call_list_of (by rfl) E.b_list (by decide +kernel) (pa_cons (pv 0) pa_nil)) (pa_cons pe_int (pa_cons pe_int (pa_cons (pv 1) pa_nil))))))))), ?_⟩
    refine ⟨_, rfl, a, rfl, ⟨_, hS⟩, for_list (K := K) (a := a) (xs := ns.map V.int) (fun i σ H1 => ∃ (m : Int) (v : Option V), σ = [some (.ref a), some (.int m), v] ∧ H1 = H ∧ 0 ≤ m ∧ m < 2147483647)
      ⟨17, none, rfl, rfl, by decide, by decide⟩ (fun i σ H1 _ ⟨_, _, _, e, _⟩ => by rw [e]; exact hS) ?_ ?_⟩
    · rintro i y σ H1 hi ⟨m, v, rfl, rfl, h0, h1⟩
      obtain ⟨z, rfl⟩ : ∃ z, y = V.int z := by
        rw [List.getElem?_map] at hi
        cases e : ns[i]? with
        | none =>
          rw [e] at hi
          cases hi
        | some z =>
          rw [e] at hi
          exact ⟨z, (Option.some.inj hi).symm⟩
      refine ⟨_, rfl, _, _, rfl, rfl, .inr ⟨by decide, by decide⟩, _, rfl, .inl ⟨_, rfl, _, _, rfl, rfl, (by decide : (0 : Int) < 65521), _, _, rfl, rfl, _, _, rfl, rfl, .inl ⟨_, rfl, _, _, rfl, rfl, (by decide : (0 : Int) < 2147483647), ?_⟩⟩⟩
      exact ⟨_, _, rfl, rfl, Int.emod_nonneg _ (by decide), Int.emod_lt_of_pos _ (by decide)⟩
    · rintro σ H1 ⟨m, v, rfl, rfl, h0, h1⟩
      refine ⟨_, rfl, a, _, rfl, .inl hS, fun l hl2 => ⟨_, rfl, (by show 4 ≤ sizeLine; decide), fun p hp => ?_⟩⟩
      have npl : l ≠ p := fun z => by
        rw [← z, upd_same] at hp
        cases hp
      refine q p l _ ((same_upd hl2).free hp) hl2 ((same_upd hl2).trans (same_upd hp)) ⟨0, 0, m, ns, upd_same, ?_, hl, Int.le_refl 0, Int.le_refl 0, h0, h1⟩
      rw [upd_ne npl, upd_same]

theorem ok__law_draw {f : Addr} {fd : FuncData} (F : Fun K "_law_draw" "_law_draw" s__law_draw f fd) (E : Bi K mg)  : FnOk P w K mg base CX0 1 f fd ["stream", "many"] (sp__law_draw K) := by
  refine F.ok sc__law_draw (fun vs H Q E h => ?_) (fun cdv A outer s H vs Q E' hr h => ?_)
  · obtain ⟨s, l, n, rfl, _⟩ := h
    rfl
  · obtain ⟨p, l, n, rfl, hS, hn, hn2, q⟩ := h
    obtain ⟨a, b, m, ns, h1, h2, hlen, ha, hb, hm, hm2⟩ := hS.ex
    have nlp : l ≠ p := fun z => by
      rw [z, h1] at h2
      have h3 := HO.lst.inj (Option.some.inj h2)
      cases ns with
      | nil => cases h3
      | cons x r => cases (List.cons.inj h3).1
    refine ⟨_, (pss_cons (ps_if (pw_and (pt_cmpR op_eq (pe_ix ix_list (pv 0) pe_int (fun _ _ => rfl)) pe_int (nomark _)) (pw_and1 (pt_cmpR op_lt (pe_ix ix_list (pv 0) pe_int (fun _ _ => rfl)) (pe_callB call_len_seq (by rfl) E.b_len PySem.boot_len (pa_cons (pe_ix ix_list (pv 0) pe_int (fun _ _ => rfl)) pa_nil)) (nomark _)))).pt (pss_cons (ps_asg (pe_callB call_abs (by rfl) E.b_abs (by decide +kernel) (pa_cons (pe_callTy call_int1 (by rfl) E.b_int (by decide +kernel) (pa_cons (pe_ix ix_list (pe_ix ix_list (pv 0) pe_int (fun _ _ => rfl)) (pe_ix ix_list (pv 0) pe_int (fun _ _ => rfl)) (fun _ _ => rfl)) pa_nil)) pa_nil)) (pg_sub (pv 0) pe_int set_list))
      (pss_one (ps_asg (pe_op op_add (pe_ix ix_list (pv 0) pe_int (fun _ _ => rfl)) pe_int) (pg_sub (pv 0) pe_int set_list)))) pss_nil)
      (pss_cons (ps_if (pt_cmpR op_eq (pe_ix ix_list (pv 0) pe_int (fun _ _ => rfl)) pe_int (nomark _)) (pss_cons (ps_asg (pe_op op_mod (pe_callTy call_int1 (by rfl) E.b_int (by decide +kernel) (pa_cons (pe_op op_add (pe_op op_mul (pe_ix ix_list (pv 0) pe_int (fun _ _ => rfl)) pe_int) pe_int) pa_nil)) pe_int) (pg_sub (pv 0) pe_int set_list))
      (pss_one (ps_ret (pe_op op_mod (pe_callTy call_int1 (by rfl) E.b_int (by decide +kernel) (pa_cons (pe_op op_fdivW (pe_ix ix_list (pv 0) pe_int (fun _ _ => rfl)) pe_int) pa_nil)) (pv 1))))) pss_nil)
      (pss_cons (ps_set (i := 2) sc__law_draw.nd rfl (Or.inl rfl) (pe_op op_mod (pe_callTy call_int1 (by rfl) E.b_int (by decide +kernel) (pa_cons (pe_ix ix_list (pv 0) pe_int (fun _ _ => rfl)) pa_nil)) (pv 1)))
      (pss_cons (ps_asg (pe_op op_fdivW (pe_ix ix_list (pv 0) pe_int (fun _ _ => rfl)) (pv 1)) (pg_sub (pv 0) pe_int set_list))
      (pss_one (ps_ret (pv 2))))))), ?_⟩
    refine ⟨_, rfl, _, _, _, _, rfl, rfl, SqL.of h1, atI_nat (j := 1) rfl, rfl, _, rfl, ite2 (fun e => ?_) (fun e => ?_)⟩
    · refine ⟨_, rfl, _, _, _, _, rfl, rfl, SqL.of h1, atI_nat (j := 2) rfl, _, rfl, _, _, _, _, rfl, rfl, SqL.of h1, atI_nat (j := 0) rfl, _, _, rfl, .inl (SqL.of h2), _, _, rfl, rfl, _, rfl, ite2 (fun e1 => ?_) (fun e1 => ?_)⟩
      · have e2 : b < (ns.map V.int).length := of_decide_eq_true e1
        rw [List.length_map] at e2
        have hz : (ns.map V.int)[b.toNat]? = some (V.int (ns[b.toNat]'(by omega))) := by
          rw [List.getElem?_map, List.getElem?_eq_getElem (by omega)]
          rfl
        refine ⟨_, rfl, _, _, _, _, rfl, rfl, SqL.of h1, atI_nat (j := 0) rfl, _, rfl, _, _, _, _, rfl, rfl, SqL.of h1, atI_nat (j := 2) rfl, _, _, _, _, rfl, rfl, SqL.of h2, at_of (j := b.toNat) (by omega) hz, .inl ⟨_, rfl, _, rfl, _, rfl, _, _, _, _, rfl, rfl, h1, rfl, ?_⟩⟩
        refine ⟨_, rfl, _, _, _, _, rfl, rfl, SqL.of upd_same, atI_nat (j := 2) rfl, _, _, rfl, rfl, _, rfl, _, _, _, _, rfl, rfl, upd_same, rfl, ?_⟩
        generalize hH : upd _ p _ = H1
        have hX : ∃ a' b' : Int, H1 p = some (.lst [.ref l, .int a', .int b', .int m]) ∧ 0 ≤ a' ∧ 0 ≤ b' := ⟨_, _, by rw [← hH]; exact upd_same, by split <;> omega, by omega⟩
        have hB : But p H H1 := by rw [← hH]; exact But.put.trans But.put
        have hL : H1 l = some (.lst (ns.map V.int)) := hB l _ nlp h2
        clear hH
        obtain ⟨a', b', hX, ha', hb'⟩ := hX
        refine ⟨_, rfl, _, _, _, _, rfl, rfl, SqL.of hX, atI_nat (j := 1) rfl, rfl, _, rfl, ite2 (fun e3 => ?_) (fun e3 => ?_)⟩
        · refine ⟨_, rfl, _, _, _, _, rfl, rfl, SqL.of hX, atI_nat (j := 3) rfl, _, _, rfl, rfl, .inr ⟨by decide, by decide⟩, _, _, rfl, rfl, .inl ⟨_, rfl, _, _, rfl, rfl, (by decide : (0 : Int) < 2147483647), _, rfl, _, _, _, _, rfl, rfl, hX, rfl, ?_⟩⟩
          refine ⟨_, rfl, _, _, _, _, rfl, rfl, SqL.of upd_same, atI_nat (j := 3) rfl, _, _, rfl, rfl, wide_div (b := 64) (by decide) (by decide) (by decide) (by decide), .inl ⟨_, rfl, _, rfl, _, _, rfl, rfl, hn, ?_⟩⟩
          exact q _ _ (Int.emod_nonneg _ (by omega)) (Int.emod_lt_of_pos _ hn) (hB.trans But.put) ⟨a', b', _, ns, upd_same, by rw [upd_ne nlp]; exact hL, hlen, ha', hb', Int.emod_nonneg _ (by decide), Int.emod_lt_of_pos _ (by decide)⟩
        · refine ⟨_, rfl, _, _, _, _, rfl, rfl, SqL.of hX, atI_nat (j := 1) rfl, .inl ⟨_, rfl, _, rfl, _, _, rfl, rfl, hn, ?_⟩⟩
          refine ⟨_, rfl, _, _, _, _, rfl, rfl, SqL.of hX, atI_nat (j := 1) rfl, _, rfl, _, _, rfl, rfl, wide_div hn hn2 (by decide) (by decide), _, rfl, _, _, _, _, rfl, rfl, hX, rfl, ?_⟩
          refine ⟨_, rfl, ?_⟩
          exact q _ _ (Int.emod_nonneg _ (by omega)) (Int.emod_lt_of_pos _ hn) (hB.trans But.put) ⟨_, b', m, ns, upd_same, by rw [upd_ne nlp]; exact hL, hlen, Int.ediv_nonneg ha' (by omega), hb', hm, hm2⟩
      · have hX : ∃ a' b' : Int, H p = some (.lst [.ref l, .int a', .int b', .int m]) ∧ 0 ≤ a' ∧ 0 ≤ b' := ⟨_, _, h1, ha, hb⟩
        have hB : But p H H := But.refl p H
        have hL := h2
        obtain ⟨a', b', hX, ha', hb'⟩ := hX
        refine ⟨_, rfl, _, _, _, _, rfl, rfl, SqL.of hX, atI_nat (j := 1) rfl, rfl, _, rfl, ite2 (fun e3 => ?_) (fun e3 => ?_)⟩
        · refine ⟨_, rfl, _, _, _, _, rfl, rfl, SqL.of hX, atI_nat (j := 3) rfl, _, _, rfl, rfl, .inr ⟨by decide, by decide⟩, _, _, rfl, rfl, .inl ⟨_, rfl, _, _, rfl, rfl, (by decide : (0 : Int) < 2147483647), _, rfl, _, _, _, _, rfl, rfl, hX, rfl, ?_⟩⟩
          refine ⟨_, rfl, _, _, _, _, rfl, rfl, SqL.of upd_same, atI_nat (j := 3) rfl, _, _, rfl, rfl, wide_div (b := 64) (by decide) (by decide) (by decide) (by decide), .inl ⟨_, rfl, _, rfl, _, _, rfl, rfl, hn, ?_⟩⟩
          exact q _ _ (Int.emod_nonneg _ (by omega)) (Int.emod_lt_of_pos _ hn) (hB.trans But.put) ⟨a', b', _, ns, upd_same, by rw [upd_ne nlp]; exact hL, hlen, ha', hb', Int.emod_nonneg _ (by decide), Int.emod_lt_of_pos _ (by decide)⟩
        · refine ⟨_, rfl, _, _, _, _, rfl, rfl, SqL.of hX, atI_nat (j := 1) rfl, .inl ⟨_, rfl, _, rfl, _, _, rfl, rfl, hn, ?_⟩⟩
          refine ⟨_, rfl, _, _, _, _, rfl, rfl, SqL.of hX, atI_nat (j := 1) rfl, _, rfl, _, _, rfl, rfl, wide_div hn hn2 (by decide) (by decide), _, rfl, _, _, _, _, rfl, rfl, hX, rfl, ?_⟩
          refine ⟨_, rfl, ?_⟩
          exact q _ _ (Int.emod_nonneg _ (by omega)) (Int.emod_lt_of_pos _ hn) (hB.trans But.put) ⟨_, b', m, ns, upd_same, by rw [upd_ne nlp]; exact hL, hlen, Int.ediv_nonneg ha' (by omega), hb', hm, hm2⟩
    · have hX : ∃ a' b' : Int, H p = some (.lst [.ref l, .int a', .int b', .int m]) ∧ 0 ≤ a' ∧ 0 ≤ b' := ⟨_, _, h1, ha, hb⟩
      have hB : But p H H := But.refl p H
      have hL := h2
      obtain ⟨a', b', hX, ha', hb'⟩ := hX
      refine ⟨_, rfl, _, _, _, _, rfl, rfl, SqL.of hX, atI_nat (j := 1) rfl, rfl, _, rfl, ite2 (fun e3 => ?_) (fun e3 => ?_)⟩
      · refine ⟨_, rfl, _, _, _, _, rfl, rfl, SqL.of hX, atI_nat (j := 3) rfl, _, _, rfl, rfl, .inr ⟨by decide, by decide⟩, _, _, rfl, rfl, .inl ⟨_, rfl, _, _, rfl, rfl, (by decide : (0 : Int) < 2147483647), _, rfl, _, _, _, _, rfl, rfl, hX, rfl, ?_⟩⟩
        refine ⟨_, rfl, _, _, _, _, rfl, rfl, SqL.of upd_same, atI_nat (j := 3) rfl, _, _, rfl, rfl, wide_div (b := 64) (by decide) (by decide) (by decide) (by decide), .inl ⟨_, rfl, _, rfl, _, _, rfl, rfl, hn, ?_⟩⟩
        exact q _ _ (Int.emod_nonneg _ (by omega)) (Int.emod_lt_of_pos _ hn) (hB.trans But.put) ⟨a', b', _, ns, upd_same, by rw [upd_ne nlp]; exact hL, hlen, ha', hb', Int.emod_nonneg _ (by decide), Int.emod_lt_of_pos _ (by decide)⟩
      · refine ⟨_, rfl, _, _, _, _, rfl, rfl, SqL.of hX, atI_nat (j := 1) rfl, .inl ⟨_, rfl, _, rfl, _, _, rfl, rfl, hn, ?_⟩⟩
        refine ⟨_, rfl, _, _, _, _, rfl, rfl, SqL.of hX, atI_nat (j := 1) rfl, _, rfl, _, _, rfl, rfl, wide_div hn hn2 (by decide) (by decide), _, rfl, _, _, _, _, rfl, rfl, hX, rfl, ?_⟩
        refine ⟨_, rfl, ?_⟩
        exact q _ _ (Int.emod_nonneg _ (by omega)) (Int.emod_lt_of_pos _ hn) (hB.trans But.put) ⟨_, b', m, ns, upd_same, by rw [upd_ne nlp]; exact hL, hlen, Int.ediv_nonneg ha' (by omega), hb', hm, hm2⟩

theorem ok__law_whole {f : Addr} {fd : FuncData} (F : Fun K "_law_whole" "_law_whole" s__law_whole f fd) (E : Bi K mg)  : FnOk P w K mg base CX0 1 f fd ["value"] (sp__law_whole K) := by
  refine F.ok sc__law_whole (fun vs H Q E h => ?_) (fun cdv A outer s H vs Q E' hr h => ?_)
  · obtain ⟨x, d, rfl, _⟩ := h
    rfl
  · obtain ⟨x, d, rfl, hd, q⟩ := h
    refine ⟨_, (pss_one (ps_ret (pe_and (pe_callB call_isi (by rfl) E.b_isinstance (by decide +kernel) (pa_cons (pv 0) (pa_cons (pe_ty "int" (by rfl) E.b_int (by decide +kernel)) pa_nil))) (pe_one (pe_not (pe_callB call_isi (by rfl) E.b_isinstance (by decide +kernel) (pa_cons (pv 0) (pa_cons (pe_ty "bool" (by rfl) E.b_bool (by decide +kernel)) pa_nil)))))))), ?_⟩
    refine ⟨x, rfl, _, _, _, _, _, rfl, .ty _, tyx_of hd, kit_ty (kitI _), _, rfl, ite2 (fun e => ?_) (fun e => ?_)⟩
    · refine ⟨x, rfl, _, _, _, _, _, rfl, .ty _, tyx_of hd, kit_ty (kitBo _), _, rfl, ?_⟩
      have e2 : isInteger d = (!isB d) := by cases d <;> first | rfl | cases e
      rw [e2] at q
      exact q
    · have e2 : isInteger d = false := by cases d <;> first | rfl | exact absurd rfl e
      rw [e2] at q
      exact q

theorem ok_is_bounded {f : Addr} {fd : FuncData} (F : Fun K "is_bounded" "is_bounded" s_is_bounded f fd) (E : Bi K mg) (D_is_integer : Has P w K mg base 1 "is_integer" ["value"] (sp_is_integer K)) : FnOk P w K mg base CX0 2 f fd ["value"] (sp_is_bounded K) := by
  obtain ⟨f_is_integer, fd_is_integer, G_is_integer, g_is_integer, kp_is_integer, b_is_integer⟩ := D_is_integer
  refine F.ok sc_is_bounded (fun vs H Q E h => ?_) (fun cdv A outer s H vs Q E' hr h => ?_)
  · obtain ⟨x, d, rfl, _⟩ := h
    rfl
  · obtain ⟨x, d, rfl, hd, q⟩ := h
    refine ⟨_, (pss_one (ps_ret (pe_and (pe_call G_is_integer (hr.mono (by decide)) (by rfl) g_is_integer kp_is_integer b_is_integer .nil pass0 (pa_cons (pv 0) pa_nil)) (pe_one (pe_cmpR op_lt (pe_callB call_abs (by rfl) E.b_abs (by decide +kernel) (pa_cons (pv 0) pa_nil)) (pe_gC (by rfl) E.c_INTEGER_BOUND) (nomark _)))))), ?_⟩
    refine ⟨x, rfl, x, d, rfl, hd, _, rfl, ite2 (fun e => ?_) (fun e => ?_)⟩
    · obtain ⟨i, rfl⟩ : ∃ i, d = .int i := by cases d <;> first | exact ⟨_, rfl⟩ | cases e
      cases hd
      refine ⟨_, rfl, _, rfl, _, _, rfl, rfl, ?_⟩
      exact q
    · have e2 : isBounded d = false := by cases d <;> first | rfl | exact absurd rfl e
      rw [e2] at q
      exact q

theorem ok_is_arity {f : Addr} {fd : FuncData} (F : Fun K "is_arity" "is_arity" s_is_arity f fd) (E : Bi K mg) (D_is_integer : Has P w K mg base 1 "is_integer" ["value"] (sp_is_integer K)) : FnOk P w K mg base CX0 2 f fd ["value"] (sp_is_arity K) := by
  obtain ⟨f_is_integer, fd_is_integer, G_is_integer, g_is_integer, kp_is_integer, b_is_integer⟩ := D_is_integer
  refine F.ok sc_is_arity (fun vs H Q E h => ?_) (fun cdv A outer s H vs Q E' hr h => ?_)
  · obtain ⟨x, d, rfl, _⟩ := h
    rfl
  · obtain ⟨x, d, rfl, hd, q⟩ := h
    refine ⟨_, (pss_one (ps_ret (pe_and (pe_call G_is_integer (hr.mono (by decide)) (by rfl) g_is_integer kp_is_integer b_is_integer .nil pass0 (pa_cons (pv 0) pa_nil)) (pe_one (pe_chain op_le op_le pe_int (pv 0) (pe_gC (by rfl) E.c_MOST_ARITY)))))), ?_⟩
    refine ⟨x, rfl, x, d, rfl, hd, _, rfl, ite2 (fun e => ?_) (fun e => ?_)⟩
    · obtain ⟨i, rfl⟩ : ∃ i, d = .int i := by cases d <;> first | exact ⟨_, rfl⟩ | cases e
      cases hd
      refine ⟨_, rfl, _, _, rfl, rfl, _, rfl, ite2 (fun e1 => ?_) (fun e1 => ?_)⟩
      · refine ⟨_, _, rfl, rfl, ?_⟩
        have e2 : isArity (.int i) = decide (i ≤ 8) := by show (decide (0 ≤ i) && decide (i ≤ 8)) = _; rw [e1]; rfl
        rw [e2] at q
        exact q
      · have e2 : isArity (.int i) = false := by show (decide (0 ≤ i) && decide (i ≤ 8)) = _; rw [Bool.eq_false_iff.mpr e1]; rfl
        rw [e2] at q
        exact q
    · have e2 : isArity d = false := by cases d <;> first | rfl | exact absurd rfl e
      rw [e2] at q
      exact q

theorem ok_arity_of {f : Addr} {fd : FuncData} (F : Fun K "arity_of" "arity_of" s_arity_of f fd) (E : Bi K mg) (D_is_symbol : Has P w K mg base 1 "is_symbol" ["node"] (sp_is_symbol K)) : FnOk P w K mg base CX0 2 f fd ["node"] (sp_arity_of K) := by
  obtain ⟨f_is_symbol, fd_is_symbol, G_is_symbol, g_is_symbol, kp_is_symbol, b_is_symbol⟩ := D_is_symbol
  refine F.ok sc_arity_of (fun vs H Q E h => ?_) (fun cdv A outer s H vs Q E' hr h => ?_)
  · obtain ⟨x, d, rfl, _⟩ := h
    rfl
  · obtain ⟨x, d, rfl, hd, hn, q⟩ := h
    refine ⟨_, (pss_one (ps_ret (pe_ifExp (pt_val (pe_call G_is_symbol (hr.mono (by decide)) (by rfl) g_is_symbol kp_is_symbol b_is_symbol .nil pass0 (pa_cons (pv 0) pa_nil))) (pe_ix ix_tup (pv 0) pe_int (fun _ _ => rfl)) pe_int))), ?_⟩
    refine ⟨x, rfl, x, d, rfl, hd, hn, _, rfl, ite2 (fun e => ?_) (fun e => ?_)⟩
    · obtain ⟨a, b, n, rfl⟩ := third_of hn e
      cases hd with
      | tup hs ha =>
        obtain ⟨v, hv, hdv⟩ := DpAll.get (i := 2) ha rfl
        cases hdv
        exact ⟨_, rfl, _, _, _, _, rfl, rfl, hs, atI_nat (j := 2) hv, q⟩
    · have e2 : arityOf d = 0 := arity0 e
      rw [e2] at q
      exact q

theorem ok__law_value {f : Addr} {fd : FuncData} (F : Fun K "_law_value" "_law_value" s__law_value f fd) (E : Bi K mg) (D__law_draw : Has P w K mg base 1 "_law_draw" ["stream", "many"] (sp__law_draw K)) : FnOk P w K mg base CX0 2 f fd ["stream"] (sp__law_value K) := by
  obtain ⟨f__law_draw, fd__law_draw, G__law_draw, g__law_draw, kp__law_draw, b__law_draw⟩ := D__law_draw
  refine F.ok sc__law_value (fun vs H Q E h => ?_) (fun cdv A outer s H vs Q E' hr h => ?_)
  · obtain ⟨s, l, rfl, _⟩ := h
    rfl
  · obtain ⟨p, l, rfl, hS, q⟩ := h
    refine ⟨_, (pss_cons (ps_set (i := 1) sc__law_value.nd rfl (Or.inl rfl) (pe_lst (pa_cons pe_int (pa_cons pe_int (pa_cons (pe_un un_neg pe_int) (pa_cons (pe_op op_pow pe_int pe_int) (pa_cons (pe_op op_sub pe_int (pe_op op_pow pe_int pe_int)) (pa_cons (pe_tup (pa_cons pe_str (pa_cons pe_int pa_nil))) (pa_cons (pe_tup (pa_cons pe_str (pa_cons (pe_op op_pow pe_int pe_int) pa_nil))) (pa_cons (pe_tup (pa_cons pe_str (pa_cons (pe_un un_neg pe_int) pa_nil))) (pa_cons (pe_tup (pa_cons pe_str (pa_cons pe_bl pa_nil))) (pa_cons (pe_tup (pa_cons pe_str pa_nil)) (pa_cons (pe_tup (pa_cons pe_str (pa_cons pe_str (pa_cons pe_int pa_nil)))) pa_nil)))))))))))))
      (pss_cons (ps_set (i := 1) sc__law_value.nd rfl (Or.inl rfl) (pe_op op_cat (pv 1) (pe_lst (pa_cons (pe_tup (pa_cons pe_str (pa_cons pe_str (pa_cons pe_int pa_nil)))) (pa_cons (pe_tup (pa_cons pe_str (pa_cons pe_str (pa_cons pe_int pa_nil)))) (pa_cons (pe_tup (pa_cons pe_str (pa_cons pe_str (pa_cons pe_int pa_nil)))) (pa_cons (pe_tup (pa_cons pe_str (pa_cons (pe_op op_mulS pe_str pe_int) (pa_cons pe_int pa_nil)))) (pa_cons (pe_tup (pa_cons pe_str (pa_cons (pe_op op_mulS pe_str pe_int) (pa_cons pe_int pa_nil)))) (pa_cons (pe_tup (pa_cons pe_str (pa_cons pe_str (pa_cons pe_int pa_nil)))) pa_nil)))))))))
      (pss_cons (ps_set (i := 1) sc__law_value.nd rfl (Or.inl rfl) (pe_op op_cat (pv 1) (pe_lst (pa_cons (pe_tup (pa_cons pe_str (pa_cons pe_str (pa_cons pe_int pa_nil)))) (pa_cons (pe_tup (pa_cons pe_str (pa_cons pe_str (pa_cons pe_int pa_nil)))) (pa_cons (pe_tup (pa_cons pe_str (pa_cons pe_str (pa_cons (pe_un un_neg pe_int) pa_nil)))) (pa_cons (pe_tup (pa_cons pe_str (pa_cons pe_str (pa_cons pe_bl pa_nil)))) (pa_cons (pe_tup (pa_cons pe_str (pa_cons pe_int (pa_cons pe_int pa_nil)))) (pa_cons (pe_tup (pa_cons pe_str (pa_cons pe_str (pa_cons pe_int pa_nil)))) pa_nil)))))))))
      (pss_cons (ps_set (i := 1) sc__law_value.nd rfl (Or.inl rfl) (pe_op op_cat (pv 1) (pe_lst (pa_cons (pe_tup (pa_cons pe_str (pa_cons pe_str (pa_cons pe_int pa_nil)))) (pa_cons (pe_tup (pa_cons pe_str (pa_cons pe_str pa_nil))) (pa_cons (pe_tup (pa_cons pe_str (pa_cons pe_int (pa_cons pe_int pa_nil)))) (pa_cons pe_bl (pa_cons pe_non (pa_cons pe_str (pa_cons (pe_lst (pa_cons pe_str (pa_cons pe_int pa_nil))) (pa_cons (pe_tup (pa_cons pe_str (pa_cons pe_str (pa_cons pe_non pa_nil)))) (pa_cons (pe_tup pa_nil) pa_nil))))))))))))
      (pss_cons (ps_set (i := 1) sc__law_value.nd rfl (Or.inl rfl) (pe_op op_cat (pv 1) (pe_lst (pa_cons (pe_tup (pa_cons pe_str (pa_cons pe_non pa_nil))) (pa_cons (pe_tup (pa_cons pe_str (pa_cons pe_bl pa_nil))) (pa_cons (pe_tup (pa_cons pe_str (pa_cons pe_str (pa_cons pe_bl pa_nil)))) (pa_cons (pe_tup (pa_cons (pe_lst pa_nil) (pa_cons pe_int pa_nil))) (pa_cons (pe_un un_neg (pe_op op_pow pe_int pe_int)) pa_nil))))))))
      (pss_cons (ps_set (i := 1) sc__law_value.nd rfl (Or.inl rfl) (pe_op op_cat (pv 1) (pe_lst (pa_cons (pe_un un_neg (pe_op op_pow pe_int pe_int)) (pa_cons (pe_tup (pa_cons pe_str (pa_cons pe_str (pa_cons pe_int (pa_cons pe_int pa_nil))))) (pa_cons (pe_tup (pa_cons pe_str (pa_cons pe_bl (pa_cons pe_int pa_nil)))) (pa_cons (pe_tup (pa_cons pe_str (pa_cons pe_int (pa_cons pe_str pa_nil)))) (pa_cons (pe_tup (pa_cons pe_str (pa_cons pe_str pa_nil))) (pa_cons (pe_tup (pa_cons pe_bl (pa_cons pe_str (pa_cons pe_int pa_nil)))) pa_nil)))))))))
      (pss_one (ps_ret (pe_ix ix_list (pv 1) (pe_call G__law_draw (hr.mono (by decide)) (by rfl) g__law_draw kp__law_draw b__law_draw .nil pass0 (pa_cons (pv 0) (pa_cons (pe_callB call_len_seq (by rfl) E.b_len PySem.boot_len (pa_cons (pv 1) pa_nil)) pa_nil))) (fun _ _ => rfl)))))))))), ?_⟩
    refine seq_asg ?_
    refine lit_lst (K := K) (ds := m0) ?_ (by decide) H _ fun v0 H0 t0 i0 => ?_
    · walk_at "lits"
    cases i0 with
    | @lst p0 xs0 _ g0 e0 a0 =>
    clear g0
    -- part 1
    refine gname (seq_asg ?_)
    refine ⟨_, rfl, ?_⟩
    refine lit_lst (K := K) (ds := m1) ?_ (by decide) H0 _ fun v1 J1 s1 i1 => ?_
    · walk_at "lits"
    cases i1 with
    | @lst b1 ys1 _ g1 f1 j1 =>
    refine ⟨_, _, _, _, rfl, rfl, s1 _ _ e0, f1, small_of (by rw [j1.len, a0.len]; decide), fun p1 np1 => ?_⟩
    obtain ⟨H1, hH1⟩ : ∃ H', H' = upd J1 p1 (.lst (xs0 ++ ys1)) := ⟨_, rfl⟩
    rw [← hH1]
    have u1 : Same J1 H1 := by rw [hH1]; exact same_upd np1
    have t1 : Same H H1 := (t0.trans s1).trans u1
    have e1 : H1 p1 = some (.lst (xs0 ++ ys1)) := by rw [hH1]; exact upd_same
    have a1 : ImAll K (fun b => H b = Option.none) H1 (xs0 ++ ys1) (m0 ++ m1) := ImAll.app (Im.monoAll (fun b o _ e => u1 b o (s1 b o e)) (fun _ e => e) _ _ a0) (Im.monoAll (fun b o _ e => u1 b o e) (fun b e => t0.free e) _ _ j1)
    have n1 : H p1 = Option.none := (t0.trans s1).free np1
    generalize xs0 ++ ys1 = xs1 at e1 a1
    clear hH1 g1 f1 j1 e0 a0 u1
    -- part 2
    refine gname (seq_asg ?_)
    refine ⟨_, rfl, ?_⟩
    refine lit_lst (K := K) (ds := m2) ?_ (by decide) H1 _ fun v2 J2 s2 i2 => ?_
    · walk_at "lits"
    cases i2 with
    | @lst b2 ys2 _ g2 f2 j2 =>
    refine ⟨_, _, _, _, rfl, rfl, s2 _ _ e1, f2, small_of (by rw [j2.len, a1.len]; decide), fun p2 np2 => ?_⟩
    obtain ⟨H2, hH2⟩ : ∃ H', H' = upd J2 p2 (.lst (xs1 ++ ys2)) := ⟨_, rfl⟩
    rw [← hH2]
    have u2 : Same J2 H2 := by rw [hH2]; exact same_upd np2
    have t2 : Same H H2 := (t1.trans s2).trans u2
    have e2 : H2 p2 = some (.lst (xs1 ++ ys2)) := by rw [hH2]; exact upd_same
    have a2 : ImAll K (fun b => H b = Option.none) H2 (xs1 ++ ys2) ((m0 ++ m1) ++ m2) := ImAll.app (Im.monoAll (fun b o _ e => u2 b o (s2 b o e)) (fun _ e => e) _ _ a1) (Im.monoAll (fun b o _ e => u2 b o e) (fun b e => t1.free e) _ _ j2)
    have n2 : H p2 = Option.none := (t1.trans s2).free np2
    generalize xs1 ++ ys2 = xs2 at e2 a2
    clear hH2 g2 f2 j2 e1 a1 u2
    -- part 3
    refine gname (seq_asg ?_)
    refine ⟨_, rfl, ?_⟩
    refine lit_lst (K := K) (ds := m3) ?_ (by decide) H2 _ fun v3 J3 s3 i3 => ?_
    · walk_at "lits"
    cases i3 with
    | @lst b3 ys3 _ g3 f3 j3 =>
    refine ⟨_, _, _, _, rfl, rfl, s3 _ _ e2, f3, small_of (by rw [j3.len, a2.len]; decide), fun p3 np3 => ?_⟩
    obtain ⟨H3, hH3⟩ : ∃ H', H' = upd J3 p3 (.lst (xs2 ++ ys3)) := ⟨_, rfl⟩
    rw [← hH3]
    have u3 : Same J3 H3 := by rw [hH3]; exact same_upd np3
    have t3 : Same H H3 := (t2.trans s3).trans u3
    have e3 : H3 p3 = some (.lst (xs2 ++ ys3)) := by rw [hH3]; exact upd_same
    have a3 : ImAll K (fun b => H b = Option.none) H3 (xs2 ++ ys3) (((m0 ++ m1) ++ m2) ++ m3) := ImAll.app (Im.monoAll (fun b o _ e => u3 b o (s3 b o e)) (fun _ e => e) _ _ a2) (Im.monoAll (fun b o _ e => u3 b o e) (fun b e => t2.free e) _ _ j3)
    have n3 : H p3 = Option.none := (t2.trans s3).free np3
    generalize xs2 ++ ys3 = xs3 at e3 a3
    clear hH3 g3 f3 j3 e2 a2 u3
    -- part 4
    refine gname (seq_asg ?_)
    refine ⟨_, rfl, ?_⟩
    refine lit_lst (K := K) (ds := m4) ?_ (by decide) H3 _ fun v4 J4 s4 i4 => ?_
    · walk_at "lits"
    cases i4 with
    | @lst b4 ys4 _ g4 f4 j4 =>
    refine ⟨_, _, _, _, rfl, rfl, s4 _ _ e3, f4, small_of (by rw [j4.len, a3.len]; decide), fun p4 np4 => ?_⟩
    obtain ⟨H4, hH4⟩ : ∃ H', H' = upd J4 p4 (.lst (xs3 ++ ys4)) := ⟨_, rfl⟩
    rw [← hH4]
    have u4 : Same J4 H4 := by rw [hH4]; exact same_upd np4
    have t4 : Same H H4 := (t3.trans s4).trans u4
    have e4 : H4 p4 = some (.lst (xs3 ++ ys4)) := by rw [hH4]; exact upd_same
    have a4 : ImAll K (fun b => H b = Option.none) H4 (xs3 ++ ys4) ((((m0 ++ m1) ++ m2) ++ m3) ++ m4) := ImAll.app (Im.monoAll (fun b o _ e => u4 b o (s4 b o e)) (fun _ e => e) _ _ a3) (Im.monoAll (fun b o _ e => u4 b o e) (fun b e => t3.free e) _ _ j4)
    have n4 : H p4 = Option.none := (t3.trans s4).free np4
    generalize xs3 ++ ys4 = xs4 at e4 a4
    clear hH4 g4 f4 j4 e3 a3 u4
    -- part 5
    refine gname (seq_asg ?_)
    refine ⟨_, rfl, ?_⟩
    refine lit_lst (K := K) (ds := m5) ?_ (by decide) H4 _ fun v5 J5 s5 i5 => ?_
    · walk_at "lits"
    cases i5 with
    | @lst b5 ys5 _ g5 f5 j5 =>
    refine ⟨_, _, _, _, rfl, rfl, s5 _ _ e4, f5, small_of (by rw [j5.len, a4.len]; decide), fun p5 np5 => ?_⟩
    obtain ⟨H5, hH5⟩ : ∃ H', H' = upd J5 p5 (.lst (xs4 ++ ys5)) := ⟨_, rfl⟩
    rw [← hH5]
    have u5 : Same J5 H5 := by rw [hH5]; exact same_upd np5
    have t5 : Same H H5 := (t4.trans s5).trans u5
    have e5 : H5 p5 = some (.lst (xs4 ++ ys5)) := by rw [hH5]; exact upd_same
    have a5 : ImAll K (fun b => H b = Option.none) H5 (xs4 ++ ys5) (((((m0 ++ m1) ++ m2) ++ m3) ++ m4) ++ m5) := ImAll.app (Im.monoAll (fun b o _ e => u5 b o (s5 b o e)) (fun _ e => e) _ _ a4) (Im.monoAll (fun b o _ e => u5 b o e) (fun b e => t4.free e) _ _ j5)
    have n5 : H p5 = Option.none := (t4.trans s5).free np5
    generalize xs4 ++ ys5 = xs5 at e5 a5
    clear hH5 g5 f5 j5 e4 a4 u5
    -- the draw
    refine gname ?_
    obtain ⟨a, b, m, ns, w1, w2, _⟩ := id hS.ex
    have np : p5 ≠ p := fun z => by
      rw [z, w1] at n5
      cases n5
    have hlen : xs5.length = 43 := by rw [a5.len]; decide
    refine ⟨_, rfl, _, rfl, _, rfl, _, _, rfl, .inl (SqL.of e5), p, l, _, rfl, hS.keep t5, by rw [hlen]; decide, by rw [hlen]; exact Nat.lt_of_lt_of_le (by decide : (43 : Int).natAbs < 2 ^ 6) (Nat.pow_le_pow_right (by decide) (by decide)), fun r H6 r0 r1 hB hS6 => ?_⟩
    have hr : r.toNat < menu.length := by
      have : menu.length = 43 := by decide
      rw [this]
      omega
    obtain ⟨v, hv, iv⟩ := ImAll.get a5 (show menu[r.toNat]? = some menu[r.toNat] from List.getElem?_eq_getElem hr)
    refine ⟨_, _, _, _, rfl, rfl, SqL.of (hB _ _ np e5), at_of (j := r.toNat) (by omega) hv, ?_⟩
    refine q v _ H6 (List.getElem_mem hr) ((But.of t5).trans hB) hS6 (Im.mono (fun b o hb e => hB b o (fun z => ?_) e) (fun _ e => e) _ _ iv)
    rw [z, w1] at hb
    cases hb

theorem ok__law_arity {f : Addr} {fd : FuncData} (F : Fun K "_law_arity" "_law_arity" s__law_arity f fd) (E : Bi K mg) (D__law_whole : Has P w K mg base 1 "_law_whole" ["value"] (sp__law_whole K)) : FnOk P w K mg base CX0 2 f fd ["value"] (sp__law_arity K) := by
  obtain ⟨f__law_whole, fd__law_whole, G__law_whole, g__law_whole, kp__law_whole, b__law_whole⟩ := D__law_whole
  refine F.ok sc__law_arity (fun vs H Q E h => ?_) (fun cdv A outer s H vs Q E' hr h => ?_)
  · obtain ⟨x, d, rfl, _⟩ := h
    rfl
  · obtain ⟨x, d, rfl, hd, hk, q⟩ := h
    refine ⟨_, (pss_cons (ps_if (pt_val (pe_call G__law_whole (hr.mono (by decide)) (by rfl) g__law_whole kp__law_whole b__law_whole .nil pass0 (pa_cons (pv 0) pa_nil))) (pss_cons (ps_if (pt_chain op_lt op_lt (pe_un un_neg (pe_op op_pow pe_int pe_int)) (pv 0) (pe_op op_pow pe_int pe_int)) (pss_one (ps_ret pe_int)) pss_nil)
      (pss_one (ps_ret (pe_un un_neg pe_int)))) pss_nil)
      (pss_cons (ps_if (pw_or (pt_not (pt_val (pe_callB call_isi (by rfl) E.b_isinstance (by decide +kernel) (pa_cons (pv 0) (pa_cons (pe_ty "tuple" (by rfl) E.b_tuple (by decide +kernel)) pa_nil))))) (pw_or1 (pt_cmpR op_lt (pe_callB call_len_seq (by rfl) E.b_len PySem.boot_len (pa_cons (pv 0) pa_nil)) pe_int (nomark _)))).pt (pss_one (ps_ret (pe_un un_neg pe_int))) pss_nil)
      (pss_cons (ps_if (pw_and (pt_cmpR (op_eqD hr.units) (pe_ix ix_tup (pv 0) pe_int (fun _ _ => rfl)) pe_str (nomark _)) (pw_and (pt_cmpR op_eq (pe_callB call_len_seq (by rfl) E.b_len PySem.boot_len (pa_cons (pv 0) pa_nil)) pe_int (nomark _)) (pw_and (pt_val (pe_call G__law_whole (hr.mono (by decide)) (by rfl) g__law_whole kp__law_whole b__law_whole .nil pass0 (pa_cons (pe_ix ix_tup (pv 0) pe_int (fun _ _ => rfl)) pa_nil))) (pw_and1 (pt_cmpR op_ge (pe_ix ix_tup (pv 0) pe_int (fun _ _ => rfl)) pe_int (nomark _)))))).pt (pss_one (ps_ret pe_int)) pss_nil)
      (pss_cons (ps_if (pw_or (pt_cmpR (op_neD hr.units) (pe_ix ix_tup (pv 0) pe_int (fun _ _ => rfl)) pe_str (nomark _)) (pw_or (pt_cmpR op_ne (pe_callB call_len_seq (by rfl) E.b_len PySem.boot_len (pa_cons (pv 0) pa_nil)) pe_int (nomark _)) (pw_or (pt_not (pt_val (pe_callB call_isi (by rfl) E.b_isinstance (by decide +kernel) (pa_cons (pe_ix ix_tup (pv 0) pe_int (fun _ _ => rfl)) (pa_cons (pe_ty "str" (by rfl) E.b_str (by decide +kernel)) pa_nil))))) (pw_or1 (pt_not (pt_val (pe_call G__law_whole (hr.mono (by decide)) (by rfl) g__law_whole kp__law_whole b__law_whole .nil pass0 (pa_cons (pe_ix ix_tup (pv 0) pe_int (fun _ _ => rfl)) pa_nil)))))))).pt (pss_one (ps_ret (pe_un un_neg pe_int))) pss_nil)
      (pss_cons (ps_if (pw_and (pt_chain op_le op_le pe_int (pe_callB call_len_str (by rfl) E.b_len PySem.boot_len (pa_cons (pe_ix ix_tup (pv 0) pe_int (fun _ _ => rfl)) pa_nil)) pe_int) (pw_and (pt_cmpR op_notIn_sign pe_str (pe_ix ix_tup (pv 0) pe_int (fun _ _ => rfl)) (by rfl)) (pw_and1 (pt_chain op_le op_le pe_int (pe_ix ix_tup (pv 0) pe_int (fun _ _ => rfl)) pe_int)))).pt (pss_one (ps_ret (pe_ix ix_tup (pv 0) pe_int (fun _ _ => rfl)))) pss_nil)
      (pss_one (ps_ret (pe_un un_neg pe_int)))))))), ?_⟩
    refine ⟨x, rfl, x, d, rfl, hd, _, rfl, ite2 (fun e => ?_) (fun e => ?_)⟩
    · obtain ⟨i, rfl⟩ : ∃ i, d = .int i := by cases d <;> first | exact ⟨_, rfl⟩ | cases e
      cases hd
      refine ⟨_, _, rfl, rfl, ⟨by decide, by decide, by decide⟩, _, rfl, _, rfl, _, _, rfl, rfl, _, rfl, ite2 (fun e1 => ?_) (fun e1 => ?_)⟩
      · refine ⟨_, _, rfl, rfl, ⟨by decide, by decide, by decide⟩, _, _, rfl, rfl, _, rfl, ite2 (fun e2 => ?_) (fun e2 => ?_)⟩
        · rw [show lawArity (.int i) = 0 from if_pos ⟨e1, e2⟩] at q
          exact q
        · rw [show lawArity (.int i) = -1 from if_neg (fun z => e2 z.2)] at q
          exact ⟨_, rfl, q⟩
      · rw [show lawArity (.int i) = -1 from if_neg (fun z => e1 z.1)] at q
        exact ⟨_, rfl, iteF ⟨_, rfl, q⟩⟩
    · refine ⟨_, rfl, _, _, _, _, _, rfl, .ty _, tyx_of hd, kit_ty (kitT _), _, rfl, ite2 (fun e1 => ?_) (fun e1 => ?_)⟩
      · have e2 : lawArity d = -1 := by cases d <;> first | rfl | exact absurd rfl e | cases e1
        rw [e2] at q
        exact ⟨_, rfl, q⟩
      · obtain ⟨ds, rfl⟩ : ∃ ds, d = .tuple ds := by cases d <;> first | exact ⟨_, rfl⟩ | exact absurd rfl e1
        have nl : V.str (Str.ofString "\n") = V.str ⟨#[10]⟩ := by decide +kernel
        cases hd with
        | @tup a xs _ hs ha =>
          cases ha with
          | nil =>
            refine ⟨_, rfl, _, _, rfl, .inr hs, _, _, rfl, rfl, _, rfl, ite2 (fun _ => ⟨_, rfl, q⟩) (fun z => absurd (show decide ((0 : Int) < 2) = true from by decide) z)⟩
          | @cons v1 xs1 d1 ds1 h1 ha1 =>
            cases ha1 with
            | nil =>
              refine ⟨_, rfl, _, _, rfl, .inr hs, _, _, rfl, rfl, _, rfl, ite2 (fun _ => ⟨_, rfl, q⟩) (fun z => absurd (show decide ((1 : Int) < 2) = true from by decide) z)⟩
            | @cons v2 xs2 d2 ds2 h2 ha2 =>
              cases ha2 with
              | nil =>
                refine ⟨_, rfl, _, _, rfl, .inr hs, _, _, rfl, rfl, _, rfl, ite2 (fun z => absurd z (show ¬ decide ((2 : Int) < 2) = true from by decide)) (fun _ => ?_)⟩
                refine ⟨_, rfl, _, _, _, _, rfl, rfl, hs, atI_nat (j := 0) rfl, d1, .str "v", h1, .str _, okD_at hk (i := 0) rfl, by decide +kernel, _, rfl, ite2 (fun e2 => ?_) (fun e2 => ?_)⟩
                · refine ⟨_, rfl, _, _, rfl, .inr hs, rfl, _, rfl, ite2 (fun _ => ?_) (fun z => absurd (show decide (V.int 2 = V.int 2) = true from by decide) z)⟩
                  refine ⟨_, rfl, _, _, _, _, rfl, rfl, hs, atI_nat (j := 1) rfl, _, _, rfl, h2, _, rfl, ite2 (fun e3 => ?_) (fun e3 => ?_)⟩
                  · obtain ⟨i, rfl⟩ : ∃ i, d2 = .int i := by cases d2 <;> first | exact ⟨_, rfl⟩ | cases e3
                    have h2' := h2
                    cases h2'
                    refine ⟨_, rfl, _, _, _, _, rfl, rfl, hs, atI_nat (j := 1) rfl, _, _, rfl, rfl, _, rfl, ite2 (fun e4 => ?_) (fun e4 => ?_)⟩
                    · rw [show lawArity (.tuple [d1, .int i]) = 0 from if_pos ⟨⟨e2, rfl⟩, e4⟩] at q
                      exact q
                    · rw [show lawArity (.tuple [d1, .int i]) = -1 from if_neg (fun z => e4 z.2)] at q
                      refine ⟨_, rfl, _, _, _, _, rfl, rfl, hs, atI_nat (j := 0) rfl, d1, .str "f", h1, .str _, okD_at hk (i := 0) rfl, by decide +kernel, _, rfl, ite2 (fun z => ?_) (fun z => ?_)⟩
                      · exact ⟨_, rfl, q⟩
                      · exact ⟨_, rfl, _, _, rfl, .inr hs, rfl, _, rfl, ite2 (fun _ => ⟨_, rfl, q⟩) (fun y => absurd (show (!decide (V.int 2 = V.int 3)) = true from by decide) y)⟩
                  · rw [show lawArity (.tuple [d1, d2]) = -1 from if_neg (fun z => e3 z.1.2)] at q
                    refine ⟨_, rfl, _, _, _, _, rfl, rfl, hs, atI_nat (j := 0) rfl, d1, .str "f", h1, .str _, okD_at hk (i := 0) rfl, by decide +kernel, _, rfl, ite2 (fun z => ?_) (fun z => ?_)⟩
                    · exact ⟨_, rfl, q⟩
                    · exact ⟨_, rfl, _, _, rfl, .inr hs, rfl, _, rfl, ite2 (fun _ => ⟨_, rfl, q⟩) (fun y => absurd (show (!decide (V.int 2 = V.int 3)) = true from by decide) y)⟩
                · rw [show lawArity (.tuple [d1, d2]) = -1 from if_neg (fun z => e2 z.1.1)] at q
                  refine ⟨_, rfl, _, _, _, _, rfl, rfl, hs, atI_nat (j := 0) rfl, d1, .str "f", h1, .str _, okD_at hk (i := 0) rfl, by decide +kernel, _, rfl, ite2 (fun z => ?_) (fun z => ?_)⟩
                  · exact ⟨_, rfl, q⟩
                  · exact ⟨_, rfl, _, _, rfl, .inr hs, rfl, _, rfl, ite2 (fun _ => ⟨_, rfl, q⟩) (fun y => absurd (show (!decide (V.int 2 = V.int 3)) = true from by decide) y)⟩
              | @cons v3 xs3 d3 ds3 h3 ha3 =>
                cases ha3 with
                | nil =>
                  refine ⟨_, rfl, _, _, rfl, .inr hs, _, _, rfl, rfl, _, rfl, ite2 (fun z => absurd z (show ¬ decide ((3 : Int) < 2) = true from by decide)) (fun _ => ?_)⟩
                  refine ⟨_, rfl, _, _, _, _, rfl, rfl, hs, atI_nat (j := 0) rfl, d1, .str "v", h1, .str _, okD_at hk (i := 0) rfl, by decide +kernel, _, rfl, ite2 (fun e2 => ?_) (fun e2 => ?_)⟩
                  · refine ⟨_, rfl, _, _, rfl, .inr hs, rfl, _, rfl, ite2 (fun z => absurd z (show ¬ decide (V.int 3 = V.int 2) = true from by decide)) (fun _ => ?_)⟩
                    refine ⟨_, rfl, _, _, _, _, rfl, rfl, hs, atI_nat (j := 0) rfl, d1, .str "f", h1, .str _, okD_at hk (i := 0) rfl, by decide +kernel, _, rfl, ite2 (fun z => ?_) (fun z => ?_)⟩
                    · have z2 : d1.eqv (.str "f") = false := by cases hh : d1.eqv (.str "f") <;> first | rfl | (rw [hh] at z; cases z)
                      rw [show lawArity (.tuple [d1, d2, d3]) = -1 from if_neg (fun y => by rw [z2] at y; exact Bool.noConfusion y.1.1)] at q
                      exact ⟨_, rfl, q⟩
                    · have z2 : d1.eqv (.str "f") = true := by cases hh : d1.eqv (.str "f") <;> first | rfl | (rw [hh] at z; exact absurd rfl z)
                      refine ⟨_, rfl, _, _, rfl, .inr hs, rfl, _, rfl, ite2 (fun y => absurd y (show ¬ (!decide (V.int 3 = V.int 3)) = true from by decide)) (fun _ => ?_)⟩
                      refine ⟨_, rfl, _, _, _, _, rfl, rfl, hs, atI_nat (j := 1) rfl, _, _, _, _, _, rfl, .ty _, tyx_of h2, kit_ty (kitS _), _, rfl, ite2 (fun y => ?_) (fun y => ?_)⟩
                      · have y2 : lawName d2 = false := by cases d2 <;> first | rfl | cases y
                        rw [show lawArity (.tuple [d1, d2, d3]) = -1 from if_neg (fun x => by rw [y2] at x; exact Bool.noConfusion x.1.2)] at q
                        exact ⟨_, rfl, q⟩
                      · obtain ⟨t, rfl⟩ : ∃ t, d2 = .str t := by cases d2 <;> first | exact ⟨_, rfl⟩ | exact absurd rfl y
                        cases h2
                        have ht := okD_str hk (i := 1) rfl t rfl
                        refine ⟨_, rfl, _, _, _, _, rfl, rfl, hs, atI_nat (j := 2) rfl, _, _, rfl, h3, _, rfl, ite2 (fun x => ?_) (fun x => ?_)⟩
                        · have x2 : isArity d3 = false := by cases d3 <;> first | rfl | cases x
                          rw [show lawArity (.tuple [d1, .str t, d3]) = -1 from if_neg (fun x => by rw [x2] at x; exact Bool.noConfusion x.2)] at q
                          exact ⟨_, rfl, q⟩
                        · obtain ⟨n, rfl⟩ : ∃ n, d3 = .int n := by cases d3 <;> first | exact ⟨_, rfl⟩ | exact absurd rfl x
                          cases h3
                          have el : lawName (.str t) = (decide ((1 : Int) ≤ t.length) && decide ((t.length : Int) ≤ 40) && !decide (10 ∈ t.cps.toList)) := rfl
                          have ea : isArity (.int n) = (decide (0 ≤ n) && decide (n ≤ 8)) := rfl
                          have bad : (lawName (.str t) = false ∨ isArity (.int n) = false) → Q (.int (-1)) H := fun hb => by
                            rw [show lawArity (.tuple [d1, .str t, .int n]) = -1 from if_neg (fun x => by rcases hb with hb | hb <;> (first | (rw [hb] at x; exact Bool.noConfusion x.1.2) | (rw [hb] at x; exact Bool.noConfusion x.2)))] at q
                            exact q
                          refine ⟨_, rfl, _, _, _, _, rfl, rfl, hs, atI_nat (j := 1) rfl, _, rfl, Nat.le_of_lt (small1000 (by omega)), _, _, rfl, rfl, _, rfl, ite2 (fun u => ?_) (fun u => ?_)⟩
                          · refine ⟨_, _, rfl, rfl, _, rfl, ite2 (fun u1 => ?_) (fun u1 => ?_)⟩
                            · refine ⟨_, rfl, _, _, _, _, rfl, rfl, hs, atI_nat (j := 1) rfl, 10, t, nl, rfl, _, rfl, ite2 (fun u2 => ?_) (fun u2 => ?_)⟩
                              · refine ⟨_, rfl, _, _, _, _, rfl, rfl, hs, atI_nat (j := 2) rfl, _, _, rfl, rfl, _, rfl, ite2 (fun u3 => ?_) (fun u3 => ?_)⟩
                                · refine ⟨_, _, rfl, rfl, _, rfl, ite2 (fun u4 => ?_) (fun u4 => ?_)⟩
                                  · have eg : lawArity (.tuple [d1, .str t, .int n]) = n := if_pos ⟨⟨z2, by rw [el, u, u1, u2]; rfl⟩, by rw [ea, u3, u4]; rfl⟩
                                    rw [eg] at q
                                    exact ⟨_, rfl, _, _, _, _, rfl, rfl, hs, atI_nat (j := 2) rfl, q⟩
                                  · exact ⟨_, rfl, bad (.inr (by rw [ea, Bool.eq_false_iff.mpr u4, Bool.and_false]))⟩
                                · exact ⟨_, rfl, iteF ⟨_, rfl, bad (.inr (by rw [ea, Bool.eq_false_iff.mpr u3]; rfl))⟩⟩
                              · exact ⟨_, rfl, bad (.inl (by rw [el, Bool.eq_false_iff.mpr u2, Bool.and_false]))⟩
                            · exact ⟨_, rfl, bad (.inl (by rw [el, Bool.eq_false_iff.mpr u1, Bool.and_false]; rfl))⟩
                          · exact ⟨_, rfl, iteF ⟨_, rfl, bad (.inl (by rw [el, Bool.eq_false_iff.mpr u]; rfl))⟩⟩
                  · skip
                    refine ⟨_, rfl, _, _, _, _, rfl, rfl, hs, atI_nat (j := 0) rfl, d1, .str "f", h1, .str _, okD_at hk (i := 0) rfl, by decide +kernel, _, rfl, ite2 (fun z => ?_) (fun z => ?_)⟩
                    · have z2 : d1.eqv (.str "f") = false := by cases hh : d1.eqv (.str "f") <;> first | rfl | (rw [hh] at z; cases z)
                      rw [show lawArity (.tuple [d1, d2, d3]) = -1 from if_neg (fun y => by rw [z2] at y; exact Bool.noConfusion y.1.1)] at q
                      exact ⟨_, rfl, q⟩
                    · have z2 : d1.eqv (.str "f") = true := by cases hh : d1.eqv (.str "f") <;> first | rfl | (rw [hh] at z; exact absurd rfl z)
                      refine ⟨_, rfl, _, _, rfl, .inr hs, rfl, _, rfl, ite2 (fun y => absurd y (show ¬ (!decide (V.int 3 = V.int 3)) = true from by decide)) (fun _ => ?_)⟩
                      refine ⟨_, rfl, _, _, _, _, rfl, rfl, hs, atI_nat (j := 1) rfl, _, _, _, _, _, rfl, .ty _, tyx_of h2, kit_ty (kitS _), _, rfl, ite2 (fun y => ?_) (fun y => ?_)⟩
                      · have y2 : lawName d2 = false := by cases d2 <;> first | rfl | cases y
                        rw [show lawArity (.tuple [d1, d2, d3]) = -1 from if_neg (fun x => by rw [y2] at x; exact Bool.noConfusion x.1.2)] at q
                        exact ⟨_, rfl, q⟩
                      · obtain ⟨t, rfl⟩ : ∃ t, d2 = .str t := by cases d2 <;> first | exact ⟨_, rfl⟩ | exact absurd rfl y
                        cases h2
                        have ht := okD_str hk (i := 1) rfl t rfl
                        refine ⟨_, rfl, _, _, _, _, rfl, rfl, hs, atI_nat (j := 2) rfl, _, _, rfl, h3, _, rfl, ite2 (fun x => ?_) (fun x => ?_)⟩
                        · have x2 : isArity d3 = false := by cases d3 <;> first | rfl | cases x
                          rw [show lawArity (.tuple [d1, .str t, d3]) = -1 from if_neg (fun x => by rw [x2] at x; exact Bool.noConfusion x.2)] at q
                          exact ⟨_, rfl, q⟩
                        · obtain ⟨n, rfl⟩ : ∃ n, d3 = .int n := by cases d3 <;> first | exact ⟨_, rfl⟩ | exact absurd rfl x
                          cases h3
                          have el : lawName (.str t) = (decide ((1 : Int) ≤ t.length) && decide ((t.length : Int) ≤ 40) && !decide (10 ∈ t.cps.toList)) := rfl
                          have ea : isArity (.int n) = (decide (0 ≤ n) && decide (n ≤ 8)) := rfl
                          have bad : (lawName (.str t) = false ∨ isArity (.int n) = false) → Q (.int (-1)) H := fun hb => by
                            rw [show lawArity (.tuple [d1, .str t, .int n]) = -1 from if_neg (fun x => by rcases hb with hb | hb <;> (first | (rw [hb] at x; exact Bool.noConfusion x.1.2) | (rw [hb] at x; exact Bool.noConfusion x.2)))] at q
                            exact q
                          refine ⟨_, rfl, _, _, _, _, rfl, rfl, hs, atI_nat (j := 1) rfl, _, rfl, Nat.le_of_lt (small1000 (by omega)), _, _, rfl, rfl, _, rfl, ite2 (fun u => ?_) (fun u => ?_)⟩
                          · refine ⟨_, _, rfl, rfl, _, rfl, ite2 (fun u1 => ?_) (fun u1 => ?_)⟩
                            · refine ⟨_, rfl, _, _, _, _, rfl, rfl, hs, atI_nat (j := 1) rfl, 10, t, nl, rfl, _, rfl, ite2 (fun u2 => ?_) (fun u2 => ?_)⟩
                              · refine ⟨_, rfl, _, _, _, _, rfl, rfl, hs, atI_nat (j := 2) rfl, _, _, rfl, rfl, _, rfl, ite2 (fun u3 => ?_) (fun u3 => ?_)⟩
                                · refine ⟨_, _, rfl, rfl, _, rfl, ite2 (fun u4 => ?_) (fun u4 => ?_)⟩
                                  · have eg : lawArity (.tuple [d1, .str t, .int n]) = n := if_pos ⟨⟨z2, by rw [el, u, u1, u2]; rfl⟩, by rw [ea, u3, u4]; rfl⟩
                                    rw [eg] at q
                                    exact ⟨_, rfl, _, _, _, _, rfl, rfl, hs, atI_nat (j := 2) rfl, q⟩
                                  · exact ⟨_, rfl, bad (.inr (by rw [ea, Bool.eq_false_iff.mpr u4, Bool.and_false]))⟩
                                · exact ⟨_, rfl, iteF ⟨_, rfl, bad (.inr (by rw [ea, Bool.eq_false_iff.mpr u3]; rfl))⟩⟩
                              · exact ⟨_, rfl, bad (.inl (by rw [el, Bool.eq_false_iff.mpr u2, Bool.and_false]))⟩
                            · exact ⟨_, rfl, bad (.inl (by rw [el, Bool.eq_false_iff.mpr u1, Bool.and_false]; rfl))⟩
                          · exact ⟨_, rfl, iteF ⟨_, rfl, bad (.inl (by rw [el, Bool.eq_false_iff.mpr u]; rfl))⟩⟩
                | @cons v4 xs4 d4 ds4 h4 ha4 =>
                  have e9 : lawArity (.tuple (d1 :: d2 :: d3 :: d4 :: ds4)) = -1 := rfl
                  rw [e9] at q
                  have n4 : ∀ k : Int, k < 4 → ¬ V.int ((v1 :: v2 :: v3 :: v4 :: xs4).length : Int) = V.int k := fun k hk4 z => by
                    have z2 := V.int.inj z
                    simp only [List.length_cons] at z2
                    omega
                  refine ⟨_, rfl, _, _, rfl, .inr hs, _, _, rfl, rfl, _, rfl, ite2 (fun z => absurd (of_decide_eq_true z) (by simp only [List.length_cons]; omega)) (fun _ => ?_)⟩
                  refine ⟨_, rfl, _, _, _, _, rfl, rfl, hs, atI_nat (j := 0) rfl, d1, .str "v", h1, .str _, okD_at hk (i := 0) rfl, by decide +kernel, _, rfl, ite2 (fun e2 => ?_) (fun e2 => ?_)⟩
                  · refine ⟨_, rfl, _, _, rfl, .inr hs, rfl, _, rfl, ite2 (fun z => absurd (of_decide_eq_true z) (n4 2 (by omega))) (fun _ => ?_)⟩
                    refine ⟨_, rfl, _, _, _, _, rfl, rfl, hs, atI_nat (j := 0) rfl, d1, .str "f", h1, .str _, okD_at hk (i := 0) rfl, by decide +kernel, _, rfl, ite2 (fun z => ?_) (fun z => ?_)⟩
                    · exact ⟨_, rfl, q⟩
                    · exact ⟨_, rfl, _, _, rfl, .inr hs, rfl, _, rfl, ite2 (fun _ => ⟨_, rfl, q⟩) (fun y => absurd (by rw [decide_eq_false (n4 3 (by omega))]; rfl) y)⟩
                  · skip
                    refine ⟨_, rfl, _, _, _, _, rfl, rfl, hs, atI_nat (j := 0) rfl, d1, .str "f", h1, .str _, okD_at hk (i := 0) rfl, by decide +kernel, _, rfl, ite2 (fun z => ?_) (fun z => ?_)⟩
                    · exact ⟨_, rfl, q⟩
                    · exact ⟨_, rfl, _, _, rfl, .inr hs, rfl, _, rfl, ite2 (fun _ => ⟨_, rfl, q⟩) (fun y => absurd (by rw [decide_eq_false (n4 3 (by omega))]; rfl) y)⟩

theorem ok_is_node {f : Addr} {fd : FuncData} (F : Fun K "is_node" "is_node" s_is_node f fd) (E : Bi K mg) (D_is_integer : Has P w K mg base 1 "is_integer" ["value"] (sp_is_integer K)) (D_is_bounded : Has P w K mg base 2 "is_bounded" ["value"] (sp_is_bounded K)) (D_is_arity : Has P w K mg base 2 "is_arity" ["value"] (sp_is_arity K)) (D_is_name : Has P w K mg base 1 "is_name" ["value"] (sp_is_name K)) : FnOk P w K mg base CX0 3 f fd ["value"] (sp_is_node K) := by
  obtain ⟨f_is_integer, fd_is_integer, G_is_integer, g_is_integer, kp_is_integer, b_is_integer⟩ := D_is_integer
  obtain ⟨f_is_bounded, fd_is_bounded, G_is_bounded, g_is_bounded, kp_is_bounded, b_is_bounded⟩ := D_is_bounded
  obtain ⟨f_is_arity, fd_is_arity, G_is_arity, g_is_arity, kp_is_arity, b_is_arity⟩ := D_is_arity
  obtain ⟨f_is_name, fd_is_name, G_is_name, g_is_name, kp_is_name, b_is_name⟩ := D_is_name
  refine F.ok sc_is_node (fun vs H Q E h => ?_) (fun cdv A outer s H vs Q E' hr h => ?_)
  · obtain ⟨x, d, rfl, _⟩ := h
    rfl
  · obtain ⟨x, d, rfl, hd, hk, q⟩ := h
    refine ⟨_, (pss_cons (ps_if (pt_val (pe_call G_is_integer (hr.mono (by decide)) (by rfl) g_is_integer kp_is_integer b_is_integer .nil pass0 (pa_cons (pv 0) pa_nil))) (pss_one (ps_ret (pe_call G_is_bounded (hr.mono (by decide)) (by rfl) g_is_bounded kp_is_bounded b_is_bounded .nil pass0 (pa_cons (pv 0) pa_nil)))) pss_nil)
      (pss_cons (ps_if (pt_not (pt_val (pe_callB call_isi (by rfl) E.b_isinstance (by decide +kernel) (pa_cons (pv 0) (pa_cons (pe_ty "tuple" (by rfl) E.b_tuple (by decide +kernel)) pa_nil))))) (pss_one (ps_ret pe_bl)) pss_nil)
      (pss_cons (ps_if (pt_cmpR op_eq (pe_callB call_len_seq (by rfl) E.b_len PySem.boot_len (pa_cons (pv 0) pa_nil)) pe_int (nomark _)) (pss_one (ps_ret (pe_and (pe_cmpR (op_eqD hr.units) (pe_ix ix_tup (pv 0) pe_int (fun _ _ => rfl)) pe_str (nomark _)) (pe_and (pe_call G_is_integer (hr.mono (by decide)) (by rfl) g_is_integer kp_is_integer b_is_integer .nil pass0 (pa_cons (pe_ix ix_tup (pv 0) pe_int (fun _ _ => rfl)) pa_nil)) (pe_one (pe_cmpR op_ge (pe_ix ix_tup (pv 0) pe_int (fun _ _ => rfl)) pe_int (nomark _))))))) pss_nil)
      (pss_one (ps_ret (pe_and (pe_cmpR op_eq (pe_callB call_len_seq (by rfl) E.b_len PySem.boot_len (pa_cons (pv 0) pa_nil)) pe_int (nomark _)) (pe_and (pe_cmpR (op_eqD hr.units) (pe_ix ix_tup (pv 0) pe_int (fun _ _ => rfl)) pe_str (nomark _)) (pe_and (pe_call G_is_name (hr.mono (by decide)) (by rfl) g_is_name kp_is_name b_is_name .nil pass0 (pa_cons (pe_ix ix_tup (pv 0) pe_int (fun _ _ => rfl)) pa_nil)) (pe_one (pe_call G_is_arity (hr.mono (by decide)) (by rfl) g_is_arity kp_is_arity b_is_arity .nil pass0 (pa_cons (pe_ix ix_tup (pv 0) pe_int (fun _ _ => rfl)) pa_nil))))))))))), ?_⟩
    refine ⟨x, rfl, x, d, rfl, hd, _, rfl, ite2 (fun e => ?_) (fun e => ?_)⟩
    · obtain ⟨i, rfl⟩ : ∃ i, d = .int i := by cases d <;> first | exact ⟨_, rfl⟩ | cases e
      exact ⟨x, rfl, x, _, rfl, hd, q H (Same.refl H)⟩
    · refine ⟨x, rfl, _, _, _, _, _, rfl, .ty _, tyx_of hd, kit_ty (kitT _), _, rfl, ite2 (fun e1 => ?_) (fun e1 => ?_)⟩
      · have e2 : isNode d = false := by cases d <;> first | rfl | exact absurd rfl e | cases e1
        have q2 := q H (Same.refl H)
        rw [e2] at q2
        exact q2
      · obtain ⟨ds, rfl⟩ : ∃ ds, d = .tuple ds := by cases d <;> first | exact ⟨_, rfl⟩ | exact absurd rfl e1
        cases hd with
        | tup hs ha =>
          have hl := DpAll.len ha
          refine ⟨_, rfl, _, _, rfl, .inr hs, rfl, _, rfl, ite2 (fun e3 => ?_) (fun e3 => ?_)⟩
          · have hz : ds.length = 2 := by
              have := V.int.inj (of_decide_eq_true e3)
              omega
            obtain ⟨d1, d2, rfl⟩ : ∃ d1 d2, ds = [d1, d2] := by
              match ds, hz with
              | [a, b], _ => exact ⟨a, b, rfl⟩
            obtain ⟨v1, hv1, hd1⟩ := DpAll.get (i := 0) ha rfl
            obtain ⟨v2, hv2, hd2⟩ := DpAll.get (i := 1) ha rfl
            refine ⟨_, rfl, _, _, _, _, rfl, rfl, hs, atI_nat (j := 0) hv1, d1, .str "v", hd1, .str _, okD_at hk (i := 0) rfl, by decide +kernel, _, rfl, ite2 (fun e4 => ?_) (fun e4 => ?_)⟩
            · refine ⟨_, rfl, _, _, _, _, rfl, rfl, hs, atI_nat (j := 1) hv2, v2, d2, rfl, hd2, _, rfl, ite2 (fun e5 => ?_) (fun e5 => ?_)⟩
              · obtain ⟨i, rfl⟩ : ∃ i, d2 = .int i := by cases d2 <;> first | exact ⟨_, rfl⟩ | cases e5
                cases hd2
                refine ⟨_, rfl, _, _, _, _, rfl, rfl, hs, atI_nat (j := 1) hv2, _, _, rfl, rfl, ?_⟩
                have e6 : isNode (.tuple [d1, .int i]) = decide (0 ≤ i) := by
                  show (d1.eqv (.str "v") && true && decide (0 ≤ i)) = _
                  rw [e4]; rfl
                have q2 := q H (Same.refl H)
                rw [e6] at q2
                exact q2
              · have e6 : isNode (.tuple [d1, d2]) = false := by
                  show (d1.eqv (.str "v") && isInteger d2 && geZ d2) = _
                  rw [Bool.eq_false_iff.mpr e5, Bool.and_false]; rfl
                have q2 := q H (Same.refl H)
                rw [e6] at q2
                exact q2
            · have e6 : isNode (.tuple [d1, d2]) = false := by
                show (d1.eqv (.str "v") && isInteger d2 && geZ d2) = _
                rw [Bool.eq_false_iff.mpr e4]; rfl
              have q2 := q H (Same.refl H)
              rw [e6] at q2
              exact q2
          · refine ⟨_, rfl, _, _, rfl, .inr hs, rfl, _, rfl, ite2 (fun e4 => ?_) (fun e4 => ?_)⟩
            · have hz : ds.length = 3 := by
                have := V.int.inj (of_decide_eq_true e4)
                omega
              obtain ⟨d1, d2, d3, rfl⟩ : ∃ d1 d2 d3, ds = [d1, d2, d3] := by
                match ds, hz with
                | [a, b, c], _ => exact ⟨a, b, c, rfl⟩
              obtain ⟨v1, hv1, hd1⟩ := DpAll.get (i := 0) ha rfl
              obtain ⟨v2, hv2, hd2⟩ := DpAll.get (i := 1) ha rfl
              obtain ⟨v3, hv3, hd3⟩ := DpAll.get (i := 2) ha rfl
              have en : isNode (.tuple [d1, d2, d3]) = (d1.eqv (.str "f") && isName d2 && isArity d3) := rfl
              refine ⟨_, rfl, _, _, _, _, rfl, rfl, hs, atI_nat (j := 0) hv1, d1, .str "f", hd1, .str _, okD_at hk (i := 0) rfl, by decide +kernel, _, rfl, ite2 (fun e5 => ?_) (fun e5 => ?_)⟩
              · refine ⟨_, rfl, _, _, _, _, rfl, rfl, hs, atI_nat (j := 1) hv2, v2, d2, rfl, hd2, okD_str hk (i := 1) rfl, fun H1 s1 => ⟨_, rfl, ite2 (fun e6 => ?_) (fun e6 => ?_)⟩⟩
                · refine ⟨_, rfl, _, _, _, _, rfl, rfl, same_sqT s1 hs, atI_nat (j := 2) hv3, v3, d3, rfl, dp_same s1 _ _ hd3, ?_⟩
                  have q2 := q H1 s1
                  rw [en, e5, e6] at q2
                  exact q2
                · have q2 := q H1 s1
                  rw [en, Bool.eq_false_iff.mpr e6, Bool.and_false] at q2
                  exact q2
              · have q2 := q H (Same.refl H)
                rw [en, Bool.eq_false_iff.mpr e5] at q2
                exact q2
            · have e5 : isNode (.tuple ds) = false := by
                match ds with
                | [] => rfl
                | [_] => rfl
                | [_, _] => exact absurd (decide_eq_true (congrArg (fun n : Nat => V.int (n : Int)) hl)) e3
                | [_, _, _] => exact absurd (decide_eq_true (congrArg (fun n : Nat => V.int (n : Int)) hl)) e4
                | _ :: _ :: _ :: _ :: _ => rfl
              have q2 := q H (Same.refl H)
              rw [e5] at q2
              exact q2

theorem ok_is_term {f : Addr} {fd : FuncData} (F : Fun K "is_term" "is_term" s_is_term f fd) (E : Bi K mg) (D_is_node : Has P w K mg base 3 "is_node" ["value"] (sp_is_node K)) (D_arity_of : Has P w K mg base 2 "arity_of" ["node"] (sp_arity_of K)) : FnOk P w K mg base CX0 4 f fd ["value"] (sp_is_term K) := by
  obtain ⟨f_is_node, fd_is_node, G_is_node, g_is_node, kp_is_node, b_is_node⟩ := D_is_node
  obtain ⟨f_arity_of, fd_arity_of, G_arity_of, g_arity_of, kp_arity_of, b_arity_of⟩ := D_arity_of
  refine F.ok sc_is_term (fun vs H Q E h => ?_) (fun cdv A outer s H vs Q E' hr h => ?_)
  · obtain ⟨x, d, rfl, _⟩ := h
    rfl
  · obtain ⟨x, d, rfl, hd, hk, q⟩ := h
    refine ⟨_, (pss_cons (ps_if (pt_not (pt_val (pe_callB call_isi (by rfl) E.b_isinstance (by decide +kernel) (pa_cons (pv 0) (pa_cons (pe_ty "tuple" (by rfl) E.b_tuple (by decide +kernel)) pa_nil))))) (pss_one (ps_ret pe_bl)) pss_nil)
      (pss_cons (ps_set (i := 1) sc_is_term.nd rfl (Or.inl rfl) pe_int)
      (pss_cons (ps_for PassesOwn.never rfl (pi_tup (pv 0)) (pg_name (i := 2) sc_is_term.nd rfl (Or.inl rfl)) (pss_cons (ps_if (pw_or (pt_cmpR op_eq (pv 1) pe_int (nomark _)) (pw_or1 (pt_not (pt_val (pe_call G_is_node (hr.mono (by decide)) (by rfl) g_is_node kp_is_node b_is_node .nil pass0 (pa_cons (pv 2) pa_nil)))))).pt (pss_one (ps_ret pe_bl)) pss_nil)
      (pss_one (ps_aug (i := 1) sc_is_term.nd rfl (Or.inl rfl) (pe_op op_sub (pe_call G_arity_of (hr.mono (by decide)) (by rfl) g_arity_of kp_arity_of b_arity_of .nil pass0 (pa_cons (pv 2) pa_nil)) pe_int) ip_add))))
      (pss_one (ps_ret (pe_cmpR op_eq (pv 1) pe_int (nomark _))))))), ?_⟩
    refine ⟨x, rfl, _, _, _, _, _, rfl, .ty _, tyx_of hd, kit_ty (kitT _), _, rfl, ite2 (fun e => ?_) (fun e => ?_)⟩
    · have e2 : isTerm d = false := by cases d <;> first | rfl | cases e
      have q2 := q H (Same.refl H)
      rw [e2] at q2
      exact q2
    · obtain ⟨ds, rfl⟩ : ∃ ds, d = .tuple ds := by cases d <;> first | exact ⟨_, rfl⟩ | exact absurd rfl e
      cases hd with
      | @tup a xs _ hs ha =>
        have hl := DpAll.len ha
        refine ⟨_, rfl, a, rfl, ⟨_, hs⟩, for_tup (K := K) (a := a) (xs := xs) (fun i σ H1 => ∃ (m : Int) (v : Option V), σ = [some (.ref a), some (.int m), v] ∧ Same H H1 ∧ termGo m (ds.drop i) = termGo 1 ds)
          ⟨1, none, rfl, Same.refl H, by rw [List.drop_zero]⟩ (fun i σ H1 _ ⟨_, _, _, s1, _⟩ => same_sqT s1 hs) ?_ ?_⟩
        · rintro i y σ H1 hi ⟨m, v, rfl, s1, hm⟩
          obtain ⟨d, hd⟩ : ∃ d, ds[i]? = some d := by
            have := (List.getElem?_eq_some_iff.mp hi).1
            exact ⟨ds[i]'(by omega), List.getElem?_eq_getElem _⟩
          obtain ⟨y', hy', hyd⟩ := DpAll.get ha hd
          have ey : y' = y := Option.some.inj (hy'.symm.trans hi)
          subst ey
          have hdm : d ∈ ds := List.mem_of_getElem? hd
          have hdrop : ds.drop i = d :: ds.drop (i + 1) := by
            obtain ⟨h1, h2⟩ := List.getElem?_eq_some_iff.mp hd
            rw [List.drop_eq_getElem_cons h1, h2]
          rw [hdrop] at hm
          have q2 : ∀ H2, Same H1 H2 → Q (.bl (isTerm (.tuple ds))) H2 := fun H2 s2 => q H2 (s1.trans s2)
          have et : isTerm (.tuple ds) = termGo m (d :: ds.drop (i + 1)) := hm.symm
          rw [et] at q2
          refine ⟨_, rfl, rfl, _, rfl, ite2 (fun e1 => ?_) (fun e1 => ?_)⟩
          · have e2 : m = 0 := V.int.inj (of_decide_eq_true e1)
            have e3 := q2 H1 (Same.refl H1)
            unfold termGo at e3
            rw [if_pos (Or.inl e2)] at e3
            exact e3
          · have e2 : ¬ m = 0 := fun z => e1 (decide_eq_true (congrArg V.int z))
            refine ⟨_, rfl, y', d, rfl, dp_same s1 _ _ hyd, hk ds rfl d hdm, fun H2 s2 => ⟨_, rfl, ite2 (fun e3 => ?_) (fun e3 => ?_)⟩⟩
            · have e4 := q2 H2 s2
              have e5 : isNode d = false := by cases hh : isNode d <;> first | rfl | (rw [hh] at e3; cases e3)
              unfold termGo at e4
              rw [if_pos (Or.inr e5)] at e4
              exact e4
            · have e5 : isNode d = true := by cases hh : isNode d <;> first | rfl | (rw [hh] at e3; exact absurd rfl e3)
              refine ⟨_, rfl, _, rfl, y', d, rfl, dp_same (s1.trans s2) _ _ hyd, e5, _, _, rfl, rfl, _, _, rfl, rfl, ?_⟩
              refine ⟨_, _, rfl, s1.trans s2, ?_⟩
              have hm2 := hm
              conv at hm2 => lhs; unfold termGo
              rw [if_neg (fun z => z.elim e2 (fun z => by rw [e5] at z; cases z))] at hm2
              exact hm2
        · rintro σ H1 ⟨m, v, rfl, s1, hm⟩
          refine ⟨_, rfl, rfl, ?_⟩
          rw [List.drop_of_length_le (by omega)] at hm
          have q2 := q H1 s1
          rw [show isTerm (.tuple ds) = termGo m [] from hm.symm] at q2
          have e3 : termGo m [] = decide (V.int m = V.int 0) := by
            unfold termGo
            exact decide_eq_decide.mpr ⟨fun h => congrArg V.int h, fun h => V.int.inj h⟩
          rw [e3] at q2
          exact q2

theorem ok_law {f : Addr} {fd : FuncData} (F : Fun K "law" "law" s_law f fd) (E : Bi K mg) (D__law_stream : Has P w K mg base 1 "_law_stream" ["script"] (sp__law_stream K)) (D__law_draw : Has P w K mg base 1 "_law_draw" ["stream", "many"] (sp__law_draw K)) (D__law_value : Has P w K mg base 2 "_law_value" ["stream"] (sp__law_value K)) (D__law_arity : Has P w K mg base 2 "_law_arity" ["value"] (sp__law_arity K)) (D_is_term : Has P w K mg base 4 "is_term" ["value"] (sp_is_term K)) : FnOk P w K mg base CX0 5 f fd ["script"] (sp_law K) := by
  obtain ⟨f__law_stream, fd__law_stream, G__law_stream, g__law_stream, kp__law_stream, b__law_stream⟩ := D__law_stream
  obtain ⟨f__law_draw, fd__law_draw, G__law_draw, g__law_draw, kp__law_draw, b__law_draw⟩ := D__law_draw
  obtain ⟨f__law_value, fd__law_value, G__law_value, g__law_value, kp__law_value, b__law_value⟩ := D__law_value
  obtain ⟨f__law_arity, fd__law_arity, G__law_arity, g__law_arity, kp__law_arity, b__law_arity⟩ := D__law_arity
  obtain ⟨f_is_term, fd_is_term, G_is_term, g_is_term, kp_is_term, b_is_term⟩ := D_is_term
  refine F.ok sc_law (fun vs H Q E h => ?_) (fun cdv A outer s H vs Q E' hr h => ?_)
  · obtain ⟨a, ns, rfl, _⟩ := h
    rfl
  · obtain ⟨a, ns, rfl, hS, hl, q⟩ := h
    refine ⟨_, (pss_cons (ps_set (i := 1) sc_law.nd rfl (Or.inl rfl) (pe_call G__law_stream (hr.mono (by decide)) (by rfl) g__law_stream kp__law_stream b__law_stream .nil pass0 (pa_cons (pv 0) pa_nil)))
      (pss_cons (ps_set (i := 2) sc_law.nd rfl (Or.inl rfl) (pe_lst (pa_cons pe_int (pa_cons (pe_tup (pa_cons pe_str (pa_cons pe_int pa_nil))) (pa_cons (pe_tup (pa_cons pe_str (pa_cons pe_str (pa_cons pe_int pa_nil)))) (pa_cons (pe_tup (pa_cons pe_str (pa_cons pe_str (pa_cons pe_int pa_nil)))) (pa_cons (pe_tup (pa_cons pe_str (pa_cons pe_str (pa_cons pe_int pa_nil)))) (pa_cons (pe_tup (pa_cons pe_str (pa_cons pe_int pa_nil))) (pa_cons (pe_un un_neg pe_int) pa_nil)))))))))
      (pss_cons (ps_set (i := 3) sc_law.nd rfl (Or.inl rfl) (pe_lst pa_nil))
      (pss_cons (ps_for PassesOwn.never rfl (pi_range1 (by rfl) E.b_range (pa_cons (pe_call G__law_draw (hr.mono (by decide)) (by rfl) g__law_draw kp__law_draw b__law_draw .nil pass0 (pa_cons (pv 1) (pa_cons pe_int pa_nil))) pa_nil)) (pg_name (i := 4) sc_law.nd rfl (Or.inl rfl)) (pss_one (ps_if (pt_cmpR op_gt (pe_call G__law_draw (hr.mono (by decide)) (by rfl) g__law_draw kp__law_draw b__law_draw .nil pass0 (pa_cons (pv 1) (pa_cons pe_int pa_nil))) pe_int (nomark _)) (pss_one (ps_expr (pe_bm PySem.F.plainAttrs_list PySem.F.slot_list_append PySem.F.type_list_append mt_append (pv 3) (pa_cons (pe_ix ix_list (pv 2) (pe_call G__law_draw (hr.mono (by decide)) (by rfl) g__law_draw kp__law_draw b__law_draw .nil pass0 (pa_cons (pv 1) (pa_cons (pe_callB call_len_seq (by rfl) E.b_len PySem.boot_len (pa_cons (pv 2) pa_nil)) pa_nil))) (fun _ _ => rfl)) pa_nil)))) (pss_one (ps_expr (pe_bm PySem.F.plainAttrs_list PySem.F.slot_list_append PySem.F.type_list_append mt_append (pv 3) (pa_cons (pe_call G__law_value (hr.mono (by decide)) (by rfl) g__law_value kp__law_value b__law_value .nil pass0 (pa_cons (pv 1) pa_nil)) pa_nil)))))))
      (pss_cons (ps_set (i := 5) sc_law.nd rfl (Or.inl rfl) pe_int)
      (pss_cons (ps_set (i := 6) sc_law.nd rfl (Or.inl rfl) pe_bl)
      (pss_cons (ps_for PassesOwn.never rfl (pi_list (pv 3)) (pg_name (i := 7) sc_law.nd rfl (Or.inl rfl)) (pss_cons (ps_set (i := 8) sc_law.nd rfl (Or.inl rfl) (pe_call G__law_arity (hr.mono (by decide)) (by rfl) g__law_arity kp__law_arity b__law_arity .nil pass0 (pa_cons (pv 7) pa_nil)))
      (pss_cons (ps_if (pw_or (pt_cmpR op_eq (pv 5) pe_int (nomark _)) (pw_or1 (pt_cmpR op_lt (pv 8) pe_int (nomark _)))).pt (pss_one (ps_set (i := 6) sc_law.nd rfl (Or.inl rfl) pe_bl)) pss_nil)
      (pss_one (ps_set (i := 5) sc_law.nd rfl (Or.inl rfl) (pe_op op_add (pe_op op_sub (pv 5) pe_int) (pv 8)))))))
      (pss_cons (ps_if (pt_cmpR op_ne (pv 5) pe_int (nomark _)) (pss_one (ps_set (i := 6) sc_law.nd rfl (Or.inl rfl) pe_bl)) pss_nil)
      (pss_cons (ps_set (i := 9) sc_law.nd rfl (Or.inl rfl) (pe_call G_is_term (hr.mono (by decide)) (by rfl) g_is_term kp_is_term b_is_term .nil pass0 (pa_cons (pe_callTy call_tuple_of (by rfl) E.b_tuple (by decide +kernel) (pa_cons (pv 3) pa_nil)) pa_nil)))
      (pss_cons (ps_if (pw_or (pt_not (pt_val (pe_callB call_isi (by rfl) E.b_isinstance (by decide +kernel) (pa_cons (pv 9) (pa_cons (pe_ty "bool" (by rfl) E.b_bool (by decide +kernel)) pa_nil))))) (pw_or (pt_cmpR op_ne (pv 9) (pv 6) (nomark _)) (pw_or1 (pt_cmpR op_isnot_bl (pe_call G_is_term (hr.mono (by decide)) (by rfl) g_is_term kp_is_term b_is_term .nil pass0 (pa_cons (pe_callTy call_list_of (by rfl) E.b_list (by decide +kernel) (pa_cons (pv 3) pa_nil)) pa_nil)) pe_bl (nomark _))))).pt (pss_one (ps_ret pe_bl)) pss_nil)
      (pss_cons (ps_while PassesOwn.never (pw_and (pt_cmpR op_gt (pv 5) pe_int (nomark _)) (pw_and1 (pt_cmpR op_lt (pe_callB call_len_seq (by rfl) E.b_len PySem.boot_len (pa_cons (pv 3) pa_nil)) pe_int (nomark _)))).pt (pss_cons (ps_expr (pe_bm PySem.F.plainAttrs_list PySem.F.slot_list_append PySem.F.type_list_append mt_append (pv 3) (pa_cons (pe_tup (pa_cons pe_str (pa_cons pe_str (pa_cons pe_int pa_nil)))) pa_nil)))
      (pss_one (ps_set (i := 5) sc_law.nd rfl (Or.inl rfl) (pe_op op_sub (pv 5) pe_int)))))
      (pss_cons (ps_set (i := 10) sc_law.nd rfl (Or.inl rfl) (pe_callB (cr_all rfl) (by rfl) E.b_all (by decide +kernel) (pa_cons (pe_lc (own := [("row", 7)]) (g := gName 7) (tt := tYes) rfl sc_law.nd (pi_list (pv 3)) (blkOk_by (N := N_law) (sc := defScope s_law) (by decide +kernel)) (fun _ _ _ _ _ => pg_name (i := 7) sc_law.nd rfl (Or.inl rfl)) (fun _ _ _ _ _ => pts_nil) (fun _ _ _ _ _ => (pe_cmpR op_ge (pe_call G__law_arity (hr.mono (by decide)) (by rfl) g__law_arity kp__law_arity b__law_arity .nil pass0 (pa_cons (pv 7) pa_nil)) pe_int (nomark _)))) pa_nil)))
      (pss_cons (ps_set (i := 11) sc_law.nd rfl (Or.inl rfl) pe_int)
      (pss_cons (ps_for PassesOwn.never rfl (pi_list (pv 3)) (pg_name (i := 7) sc_law.nd rfl (Or.inl rfl)) (pss_cons (ps_if (pt_cmpR op_eq (pv 11) pe_int (nomark _)) (pss_one (ps_set (i := 10) sc_law.nd rfl (Or.inl rfl) pe_bl)) pss_nil)
      (pss_one (ps_set (i := 11) sc_law.nd rfl (Or.inl rfl) (pe_op op_add (pe_op op_sub (pv 11) pe_int) (pe_callB (call_max2 rfl) (by rfl) E.b_max (by decide +kernel) (pa_cons pe_int (pa_cons (pe_call G__law_arity (hr.mono (by decide)) (by rfl) g__law_arity kp__law_arity b__law_arity .nil pass0 (pa_cons (pv 7) pa_nil)) pa_nil))))))))
      (pss_cons (ps_set (i := 9) sc_law.nd rfl (Or.inl rfl) (pe_call G_is_term (hr.mono (by decide)) (by rfl) g_is_term kp_is_term b_is_term .nil pass0 (pa_cons (pe_callTy call_tuple_of (by rfl) E.b_tuple (by decide +kernel) (pa_cons (pv 3) pa_nil)) pa_nil)))
      (pss_cons (ps_if (pw_or (pt_not (pt_val (pe_callB call_isi (by rfl) E.b_isinstance (by decide +kernel) (pa_cons (pv 9) (pa_cons (pe_ty "bool" (by rfl) E.b_bool (by decide +kernel)) pa_nil))))) (pw_or1 (pt_cmpR op_ne (pv 9) (pe_and (pv 10) (pe_one (pe_cmpR op_eq (pv 11) pe_int (nomark _)))) (nomark _)))).pt (pss_one (ps_ret pe_bl)) pss_nil)
      (pss_cons (ps_if (pw_or (pt_cmpR op_isnot_bl (pe_call G_is_term (hr.mono (by decide)) (by rfl) g_is_term kp_is_term b_is_term .nil pass0 (pa_cons pe_str pa_nil)) pe_bl (nomark _)) (pw_or (pt_cmpR op_isnot_bl (pe_call G_is_term (hr.mono (by decide)) (by rfl) g_is_term kp_is_term b_is_term .nil pass0 (pa_cons pe_str pa_nil)) pe_bl (nomark _)) (pw_or (pt_cmpR op_isnot_bl (pe_call G_is_term (hr.mono (by decide)) (by rfl) g_is_term kp_is_term b_is_term .nil pass0 (pa_cons (pe_tup pa_nil) pa_nil)) pe_bl (nomark _)) (pw_or1 (pt_cmpR op_isnot_bl (pe_call G_is_term (hr.mono (by decide)) (by rfl) g_is_term kp_is_term b_is_term .nil pass0 (pa_cons pe_bl pa_nil)) pe_bl (nomark _)))))).pt (pss_one (ps_ret pe_bl)) pss_nil)
      (pss_one (ps_ret (pe_and (pe_cmpR op_is_bl (pe_call G_is_term (hr.mono (by decide)) (by rfl) g_is_term kp_is_term b_is_term .nil pass0 (pa_cons pe_non pa_nil)) pe_bl (nomark _)) (pe_one (pe_cmpR op_is_bl (pe_call G_is_term (hr.mono (by decide)) (by rfl) g_is_term kp_is_term b_is_term .nil pass0 (pa_cons pe_int pa_nil)) pe_bl (nomark _))))))))))))))))))))))), ?_⟩
    have n9 : (2 : Nat) ^ 6 ≤ 2 ^ 9000 := Nat.pow_le_pow_right (by decide) (by decide)
    -- stream, good, rows
    refine seq_asg ?_
    refine ⟨_, rfl, a, ns, rfl, hS, hl, fun s l H1 hs hl1 s1 St1 => ?_⟩
    refine gname (seq_asg ?_)
    refine lit_lst (K := K) (ds := goods) ?_ (by decide) H1 _ fun vg H2 s2 i2 => ?_
    · walk_at "lits"
    cases i2 with
    | @lst g gs _ ng eg ag =>
    refine gname (seq_asg ?_)
    refine ⟨Nat.zero_le _, fun r nr => ?_⟩
    refine gname ?_
    obtain ⟨os, hos⟩ := St1.at_s
    obtain ⟨ol, hol⟩ := St1.at_l
    have sr : s ≠ r := ne_of_none (s2 _ _ hos) nr
    have lr : l ≠ r := ne_of_none (s2 _ _ hol) nr
    have gr : g ≠ r := ne_of_none eg nr
    have gsn : g ≠ s := fun z => by
      rw [z, hos] at ng
      cases ng
    have ne_s : ∀ b, H1 b = Option.none → b ≠ s := fun b e z => by
      rw [z, hos] at e
      cases e
    have w0 : LawW K s l g r gs (upd H2 r (.lst [])) [] [] :=
      ⟨(St1.keep s2).put sr lr, by rw [upd_ne gr]; exact eg, Im.mono2All (G' := fun b => b ≠ s ∧ b ≠ r) (fun b o _ e => same_upd nr b o e) (fun b o e h => ⟨ne_s b h, ne_of_none e nr⟩) _ _ ag, upd_same, .nil, (fun d hd => nomatch hd), sr, gsn, gr, lr⟩
    -- for k in range(draw)
    refine seq_any ?_
    refine ⟨_, rfl, s, l, 9, rfl, w0.st, by decide, Nat.lt_of_lt_of_le (by decide) n9, fun n H3 n0 n1 hB St3 => ⟨n, rfl, by omega, by omega, for_range (fun i σ H => ∃ (vk : Option V) (xs : List V) (ds : List PyData), σ = [some (.ref a), some (.ref s), some (.ref g), some (.ref r), vk, none, none, none, none, none, none, none] ∧ LawW K s l g r gs H xs ds ∧ ds.length = i)
      ⟨none, [], [], rfl, w0.keep hB St3, rfl⟩ ?_ ?_⟩⟩
    · rintro i σ H4 hi ⟨vk, xs, ds, rfl, wW, hlen⟩
      refine gname ?_
      have hi8 : i < 9 := by omega
      have hxl : xs.length = i := by rw [wW.ra.len, hlen]
      refine ⟨_, rfl, s, l, 6, rfl, wW.st, by decide, Nat.lt_of_lt_of_le (by decide) n9, fun d1 H5 _ _ hB5 St5 => ⟨_, _, rfl, rfl, _, rfl, ite2 (fun e => ?_) (fun e => ?_)⟩⟩
      · have w5 := wW.keep hB5 St5
        refine ⟨_, rfl, .inl ⟨rfl, _, SqL.of w5.ro⟩, _, rfl, _, rfl, _, rfl, _, _, rfl, .inl (SqL.of w5.gd), s, l, _, rfl, w5.st, ?_, ?_, fun r5 H6 r0 r1 hB6 St6 => ?_⟩
        · rw [w5.ga.len]; decide
        · rw [w5.ga.len]; exact Nat.lt_of_lt_of_le (by decide : ((goods.length : Nat) : Int).natAbs < 2 ^ 6) n9
        · have w6 := w5.keep hB6 St6
          have hr5 : r5.toNat < goods.length := by
            rw [w5.ga.len] at r1
            omega
          obtain ⟨v, hv, iv⟩ := ImAll.get w6.ga (List.getElem?_eq_getElem hr5)
          refine ⟨_, _, _, _, rfl, rfl, SqL.of w6.gd, at_of (j := r5.toNat) (by omega) hv, _, _, _, rfl, rfl, w6.ro, small1000 (by omega), ?_⟩
          exact ⟨_, _, _, rfl, w6.push iv (good_goods (List.getElem_mem hr5)), by rw [List.length_append, hlen]; rfl⟩
      · have w5 := wW.keep hB5 St5
        refine ⟨_, rfl, .inl ⟨rfl, _, SqL.of w5.ro⟩, _, rfl, s, l, rfl, w5.st, fun v d H6 hd hB6 St6 iv => ?_⟩
        have w6 := w5.keep hB6 St6
        obtain ⟨os5, hos5⟩ := w5.st.at_s
        refine ⟨_, _, _, rfl, rfl, w6.ro, small1000 (by omega), ?_⟩
        exact ⟨_, _, _, rfl, w6.push (Im.mono (fun _ _ _ e => e) (fun b hb => ⟨(fun z => by rw [z, hos5] at hb; cases hb), (fun z => by rw [z, w5.ro] at hb; cases hb)⟩) _ _ iv) (good_menu hd), by rw [List.length_append, hlen]; rfl⟩
    · rintro σ H4 ⟨vk, xs, ds, rfl, wW, hlen⟩
      refine nxp ?_
      have hlen8 : ds.length ≤ 8 := by omega
      have hxl : xs.length = ds.length := wW.ra.len
      have hok : ∀ d ∈ ds, okD d = true := fun d hd => (wW.mem d hd).ok
      -- missing, due; the first loop
      refine seq_asg (gname (seq_asg (gname (seq_any ?_))))
      refine ⟨_, rfl, r, rfl, ⟨_, SqL.of wW.ro⟩, for_list (K := K) (a := r) (xs := xs) (fun i σ H5 => ∃ (vr va : Option V), σ = [some (.ref a), some (.ref s), some (.ref g), some (.ref r), vk, some (.int ((ds.take i).foldl step1 (1, true)).1), some (.bl ((ds.take i).foldl step1 (1, true)).2), vr, va, none, none, none] ∧ H5 = H4)
        ⟨none, none, rfl, rfl⟩ (fun i σ H5 _ ⟨_, _, _, e⟩ => by rw [e]; exact SqL.of wW.ro) ?_ ?_⟩
      · rintro i y σ H5 hi ⟨vr, va, rfl, rfl⟩
        obtain ⟨d, hd, iy⟩ := ImAll.getV wW.ra hi
        have hst := fold1_snoc step1 hd (1, true)
        generalize hp : (ds.take i).foldl step1 (1, true) = p at hst
        refine gname (seq_asg ?_)
        refine ⟨_, rfl, y, d, rfl, Im.dp _ _ iy, hok d (List.mem_of_getElem? hd), ?_⟩
        refine gname (seq_ifN ?_)
        refine ⟨_, rfl, rfl, _, rfl, ite2 (fun e => ?_) (fun e => ?_)⟩
        · have e1 : p.1 = 0 := V.int.inj (of_decide_eq_true e)
          refine iteT (asg1 (gname (nxp (asg1 ?_))))
          refine ⟨_, rfl, _, _, rfl, rfl, _, rfl, _, _, rfl, rfl, ?_⟩
          refine ⟨some y, some (.int (lawArity d)), ?_, rfl⟩
          rw [hst]
          unfold step1
          rw [if_pos (Or.inl e1)]
          rfl
        · have e1 : ¬ p.1 = 0 := fun z => e (decide_eq_true (congrArg V.int z))
          refine ⟨_, rfl, _, _, rfl, rfl, _, rfl, ite2 (fun e2 => ?_) (fun e2 => ?_)⟩
          · refine asg1 (gname (nxp (asg1 ?_)))
            refine ⟨_, rfl, _, _, rfl, rfl, _, rfl, _, _, rfl, rfl, ?_⟩
            refine ⟨some y, some (.int (lawArity d)), ?_, rfl⟩
            rw [hst]
            unfold step1
            rw [if_pos (Or.inr (of_decide_eq_true e2))]
            rfl
          · refine asg1 ?_
            refine ⟨_, rfl, _, _, rfl, rfl, _, rfl, _, _, rfl, rfl, ?_⟩
            refine ⟨some y, some (.int (lawArity d)), ?_, rfl⟩
            rw [hst]
            unfold step1
            rw [if_neg (fun z => z.elim e1 fun z => e2 (decide_eq_true z))]
            rfl
      · rintro σ H5 ⟨vr, va, rfl, rfl⟩
        refine nxp ?_
        rw [hxl, List.take_of_length_le (Nat.le_refl _)]
        generalize hp : ds.foldl step1 (1, true) = p
        have hgo : isTerm (.tuple ds) = (p.2 && decide (p.1 = 0)) := by
          rw [← hp]
          exact go1 ds 1 wW.mem
        refine seq_ifN ?_
        refine ⟨_, rfl, rfl, _, rfl, join_set (fun σ2 => ∃ dv, σ2 = [some (.ref a), some (.ref s), some (.ref g), some (.ref r), vk, some (.int p.1), some (.bl dv), vr, va, none, none, none] ∧ isTerm (.tuple ds) = dv) ?_ (fun e => ?_) (fun e => ?_)⟩
        · rintro σ2 ⟨dv, rfl, hdv⟩
          -- actual = is_term(tuple(rows))
          refine seq_asg ?_
          refine ⟨_, rfl, r, xs, rfl, .inl ⟨SqL.of wW.ro, fun t nt => ⟨.ref t, .tuple ds, rfl, .tup (SqT.of upd_same) (dp_sameAll (same_upd nt) _ _ wW.dps), fun es he d hd => (wW.mem d (by cases he; exact hd)).ok, fun H8 s8 => ?_⟩⟩⟩
          refine gname (seq_ifN ?_)
          have w8 : LawW K s l g r gs H8 xs ds := wW.same ((same_upd nt).trans s8)
          refine ⟨_, rfl, _, _, _, _, _, rfl, .ty _, tyx_of (.bl _), kit_ty (kitBo _), _, rfl, iteF ⟨_, rfl, _, rfl, rfl, _, rfl, iteNS (congrArg V.bl hdv) ?_⟩⟩
          refine ⟨_, rfl, r, xs, rfl, .inl (SqL.of w8.ro), fun l2 nl2 => ⟨.ref l2, .list ds, rfl, .lst (SqL.of upd_same) (dp_sameAll (same_upd nl2) _ _ w8.dps), (fun es he => nomatch he), fun H9 s9 => ⟨_, _, rfl, rfl, _, rfl, iteF ?_⟩⟩⟩
          have w9 : LawW K s l g r gs H9 xs ds := w8.same ((same_upd nl2).trans s9)
          -- while missing > 0 and len(rows) < 60
          refine seq_any ?_
          refine ⟨fun n σ H' => ∃ (m : Int) (dv : Bool) (vr va : Option V) (ac : V) (xs : List V) (ds : List PyData), σ = [some (.ref a), some (.ref s), some (.ref g), some (.ref r), vk, some (.int m), some (.bl dv), vr, va, some ac, none, none] ∧ LawW K s l g r gs H' xs ds ∧ ds.length ≤ 60 ∧ n = 60 - ds.length,
            ⟨_, _, _, _, _, _, xs, ds, rfl, w9, by omega, rfl⟩, ?_⟩
          clear hgo hdv w9 w8 wW hxl hok hlen8 hlen hp
          rintro n10 σ H10 ⟨m, dv, vr, va, ac, xs, ds, rfl, wX, hle, rfl⟩
          refine ⟨_, rfl, _, _, rfl, rfl, _, rfl, ite2 (fun e => ?_) (fun e => ?_)⟩
          · refine ⟨_, rfl, r, xs, rfl, .inl (SqL.of wX.ro), _, _, rfl, rfl, _, rfl, ite2 (fun e2 => ?_) (fun e2 => ?_)⟩
            · have hlt : xs.length < 60 := by
                have := of_decide_eq_true e2
                omega
              have hxl2 : xs.length = ds.length := wX.ra.len
              refine ⟨fun σ' H' => ∃ (m : Int) (xs' : List V) (ds' : List PyData), σ' = [some (.ref a), some (.ref s), some (.ref g), some (.ref r), vk, some (.int m), some (.bl dv), vr, va, some ac, none, none] ∧ LawW K s l g r gs H' xs' ds' ∧ ds'.length = ds.length + 1,
                fun σ' H' ⟨m', xs', ds', e3, w', hl'⟩ => ⟨60 - ds'.length, by omega, m', dv, vr, va, ac, xs', ds', e3, w', by omega, rfl⟩, ?_⟩
              refine seq_any ?_
              refine ⟨_, rfl, .inl ⟨rfl, _, SqL.of wX.ro⟩, ?_⟩
              refine litA_cons (K := K) (d := rowA) (ds := []) ?_ litA_nil H10 _ fun vs H11 s11 i11 => ?_
              · unfold rowA
                walk_at "lits"
              cases i11 with
              | cons i1 i2 =>
              cases i2
              have w11 := wX.same s11
              obtain ⟨os5, hos5⟩ := wX.st.at_s
              refine ⟨_, _, _, rfl, rfl, w11.ro, small1000 (by omega), ?_⟩
              refine nxp (asg1 ?_)
              refine ⟨_, rfl, _, _, rfl, rfl, ?_⟩
              refine gname ?_
              exact ⟨_, _, _, rfl, w11.push (Im.mono (fun _ _ _ e => e) (fun b hb => ⟨(fun z => by rw [z, hos5] at hb; cases hb), (fun z => by rw [z, wX.ro] at hb; cases hb)⟩) _ _ i1) good_rowA, by rw [List.length_append]; rfl⟩
            · refine nxp ?_
              -- fixed
              refine seq_asg ?_
              have hxl2 : xs.length = ds.length := wX.ra.len
              refine ⟨_, rfl, r, rfl, ⟨_, SqL.of wX.ro⟩, fun D hD => lc_list (K := K) (a := r) (xs := xs) (fun i H' => H' = upd H10 D (.lst ((ds.take i).map fun d => V.bl (decide (0 ≤ lawArity d))))) rfl (fun i H' _ e => by rw [e]; exact SqL.of ((same_upd hD) _ _ wX.ro)) ?_ ?_⟩
              · rintro i y H' hi rfl
                obtain ⟨d, hd, iy⟩ := ImAll.getV wX.ra hi
                refine ⟨rfl, _, rfl, y, d, rfl, dp_same (same_upd hD) _ _ (Im.dp _ _ iy), (wX.mem d (List.mem_of_getElem? hd)).ok, _, _, rfl, rfl, _, upd_same, ?_, ?_⟩
                · rw [List.length_map, List.length_take]
                  exact Nat.lt_of_le_of_lt (Nat.min_le_right _ _) (small1000 (by omega))
                · rw [upd_upd, List.take_add_one, hd, List.map_append]
                  rfl
              · rintro H' rfl
                refine ⟨D, ds.map (fun d => decide (0 ≤ lawArity d)), rfl, SqL.of (by rw [upd_same, hxl2, List.take_of_length_le (Nat.le_refl _), List.map_map]; rfl), ?_⟩
                have w11 : LawW K s l g r gs (upd H10 D (.lst ((ds.take xs.length).map fun d => V.bl (decide (0 ≤ lawArity d))))) xs ds := wX.same (same_upd hD)
                generalize upd H10 D (.lst ((ds.take xs.length).map fun d => V.bl (decide (0 ≤ lawArity d)))) = H11 at w11
                have hfin := go2 ds 1 true w11.mem
                rw [Bool.true_and, Bool.true_and] at hfin
                rw [List.all_map]
                have ef : ds.all ((id : Bool → Bool) ∘ fun d => decide (0 ≤ lawArity d)) = ds.all (fun d => decide (0 ≤ lawArity d)) := rfl
                rw [ef]
                generalize ds.all (fun d => decide (0 ≤ lawArity d)) = f0 at hfin
                refine gname (seq_asg (gname (seq_any ?_)))
                refine ⟨_, rfl, r, rfl, ⟨_, SqL.of w11.ro⟩, for_list (K := K) (a := r) (xs := xs) (fun i σ H12 => ∃ (vr : Option V), σ = [some (.ref a), some (.ref s), some (.ref g), some (.ref r), vk, some (.int m), some (.bl dv), vr, va, some ac, some (.bl (f0 && ((ds.take i).foldl step2 (1, true)).2)), some (.int ((ds.take i).foldl step2 (1, true)).1)] ∧ H12 = H11)
                  ⟨_, by rw [List.take_zero]; show _ = [_, _, _, _, _, _, _, _, _, _, some (V.bl (f0 && true)), _]; rw [Bool.and_true]; rfl, rfl⟩ (fun i σ H12 _ ⟨_, _, e⟩ => by rw [e]; exact SqL.of w11.ro) ?_ ?_⟩
                · rintro i y σ H12 hi ⟨vr, rfl, rfl⟩
                  obtain ⟨d, hd, iy⟩ := ImAll.getV w11.ra hi
                  have hst := fold1_snoc step2 hd (1, true)
                  generalize hp : (ds.take i).foldl step2 (1, true) = p at hst
                  refine gname (seq_ifN ?_)
                  refine ⟨_, rfl, rfl, _, rfl, join_set (fun σ2 => σ2 = [some (.ref a), some (.ref s), some (.ref g), some (.ref r), vk, some (.int m), some (.bl dv), some y, va, some ac, some (.bl (f0 && (step2 p d).2)), some (.int p.1)]) ?_ (fun e => ?_) (fun e => ?_)⟩
                  · rintro σ2 rfl
                    refine asg1 ?_
                    refine ⟨_, rfl, _, _, rfl, rfl, _, rfl, y, d, rfl, Im.dp _ _ iy, (w11.mem d (List.mem_of_getElem? hd)).ok, _, _, rfl, _, _, rfl, rfl, ?_⟩
                    refine gname ?_
                    refine ⟨some y, ?_, rfl⟩
                    rw [hst]
                    rfl
                  · have e1 : p.1 = 0 := V.int.inj (of_decide_eq_true e)
                    have e2 : (step2 p d).2 = false := if_pos e1
                    rw [e2, Bool.and_false]
                    rfl
                  · have e1 : ¬ p.1 = 0 := fun z => e (decide_eq_true (congrArg V.int z))
                    have e2 : (step2 p d).2 = p.2 := if_neg e1
                    rw [e2]
                    rfl
                · rintro σ H12 ⟨vr, rfl, rfl⟩
                  refine nxp (seq_asg ?_)
                  rw [hxl2, List.take_of_length_le (Nat.le_refl _)]
                  generalize ds.foldl step2 (1, true) = p at hfin
                  refine ⟨_, rfl, r, xs, rfl, .inl ⟨SqL.of w11.ro, fun t nt => ⟨.ref t, .tuple ds, rfl, .tup (SqT.of upd_same) (dp_sameAll (same_upd nt) _ _ w11.dps), fun es he d hd => (w11.mem d (by cases he; exact hd)).ok, fun H13 s13 => ?_⟩⟩⟩
                  refine gname (seq_ifN ?_)
                  refine ⟨_, rfl, _, _, _, _, _, rfl, .ty _, tyx_of (.bl _), kit_ty (kitBo _), _, rfl, iteF ⟨_, rfl, _, rfl, _, rfl, ite2 (fun e => ?_) (fun e => ?_)⟩⟩
                  · refine ⟨_, rfl, rfl, rfl, _, rfl, iteNS ?_ ?_⟩
                    · refine congrArg V.bl ?_
                      show termGo 1 ds = _
                      rw [← hfin, show (f0 && p.2) = true from e, Bool.true_and]
                      exact decide_eq_decide.mpr ⟨fun h => congrArg V.int h, fun h => V.int.inj h⟩
                    refine seq_ifN ?_
                    refine ⟨.str _, .str _, rfl, .str _, (fun _ h => nomatch h), fun G1 t1 => ⟨_, _, rfl, rfl, _, rfl, iteF ?_⟩⟩
                    refine ⟨.str _, .str _, rfl, .str _, (fun _ h => nomatch h), fun G2 t2 => ⟨_, _, rfl, rfl, _, rfl, iteF ?_⟩⟩
                    refine ⟨Nat.zero_le _, fun p np => ⟨.ref p, .tuple [], rfl, .tup (SqT.of upd_same) .nil, (fun es h d hd => by cases h; cases hd), fun G3 t3 => ⟨_, _, rfl, rfl, _, rfl, iteF ?_⟩⟩⟩
                    refine ⟨.bl true, .bool true, rfl, .bl _, (fun _ h => nomatch h), fun G4 t4 => ⟨_, _, rfl, rfl, _, rfl, iteF ?_⟩⟩
                    refine ⟨.non, .none, rfl, .non, (fun _ h => nomatch h), fun G5 t5 => ⟨_, _, rfl, rfl, _, rfl, iteT ?_⟩⟩
                    refine ⟨.int 3, .int 3, rfl, .int _, (fun _ h => nomatch h), fun G6 t6 => ⟨_, _, rfl, rfl, ?_⟩⟩
                    exact q _
                  · refine ⟨rfl, _, rfl, iteNS ?_ ?_⟩
                    · refine congrArg V.bl ?_
                      show termGo 1 ds = _
                      rw [← hfin, show (f0 && p.2) = false from Bool.eq_false_iff.mpr e, Bool.false_and]
                    refine seq_ifN ?_
                    refine ⟨.str _, .str _, rfl, .str _, (fun _ h => nomatch h), fun G1 t1 => ⟨_, _, rfl, rfl, _, rfl, iteF ?_⟩⟩
                    refine ⟨.str _, .str _, rfl, .str _, (fun _ h => nomatch h), fun G2 t2 => ⟨_, _, rfl, rfl, _, rfl, iteF ?_⟩⟩
                    refine ⟨Nat.zero_le _, fun p np => ⟨.ref p, .tuple [], rfl, .tup (SqT.of upd_same) .nil, (fun es h d hd => by cases h; cases hd), fun G3 t3 => ⟨_, _, rfl, rfl, _, rfl, iteF ?_⟩⟩⟩
                    refine ⟨.bl true, .bool true, rfl, .bl _, (fun _ h => nomatch h), fun G4 t4 => ⟨_, _, rfl, rfl, _, rfl, iteF ?_⟩⟩
                    refine ⟨.non, .none, rfl, .non, (fun _ h => nomatch h), fun G5 t5 => ⟨_, _, rfl, rfl, _, rfl, iteT ?_⟩⟩
                    refine ⟨.int 3, .int 3, rfl, .int _, (fun _ h => nomatch h), fun G6 t6 => ⟨_, _, rfl, rfl, ?_⟩⟩
                    exact q _
          · refine iteF (nxp ?_)
            -- fixed
            refine seq_asg ?_
            have hxl2 : xs.length = ds.length := wX.ra.len
            refine ⟨_, rfl, r, rfl, ⟨_, SqL.of wX.ro⟩, fun D hD => lc_list (K := K) (a := r) (xs := xs) (fun i H' => H' = upd H10 D (.lst ((ds.take i).map fun d => V.bl (decide (0 ≤ lawArity d))))) rfl (fun i H' _ e => by rw [e]; exact SqL.of ((same_upd hD) _ _ wX.ro)) ?_ ?_⟩
            · rintro i y H' hi rfl
              obtain ⟨d, hd, iy⟩ := ImAll.getV wX.ra hi
              refine ⟨rfl, _, rfl, y, d, rfl, dp_same (same_upd hD) _ _ (Im.dp _ _ iy), (wX.mem d (List.mem_of_getElem? hd)).ok, _, _, rfl, rfl, _, upd_same, ?_, ?_⟩
              · rw [List.length_map, List.length_take]
                exact Nat.lt_of_le_of_lt (Nat.min_le_right _ _) (small1000 (by omega))
              · rw [upd_upd, List.take_add_one, hd, List.map_append]
                rfl
            · rintro H' rfl
              refine ⟨D, ds.map (fun d => decide (0 ≤ lawArity d)), rfl, SqL.of (by rw [upd_same, hxl2, List.take_of_length_le (Nat.le_refl _), List.map_map]; rfl), ?_⟩
              have w11 : LawW K s l g r gs (upd H10 D (.lst ((ds.take xs.length).map fun d => V.bl (decide (0 ≤ lawArity d))))) xs ds := wX.same (same_upd hD)
              generalize upd H10 D (.lst ((ds.take xs.length).map fun d => V.bl (decide (0 ≤ lawArity d)))) = H11 at w11
              have hfin := go2 ds 1 true w11.mem
              rw [Bool.true_and, Bool.true_and] at hfin
              rw [List.all_map]
              have ef : ds.all ((id : Bool → Bool) ∘ fun d => decide (0 ≤ lawArity d)) = ds.all (fun d => decide (0 ≤ lawArity d)) := rfl
              rw [ef]
              generalize ds.all (fun d => decide (0 ≤ lawArity d)) = f0 at hfin
              refine gname (seq_asg (gname (seq_any ?_)))
              refine ⟨_, rfl, r, rfl, ⟨_, SqL.of w11.ro⟩, for_list (K := K) (a := r) (xs := xs) (fun i σ H12 => ∃ (vr : Option V), σ = [some (.ref a), some (.ref s), some (.ref g), some (.ref r), vk, some (.int m), some (.bl dv), vr, va, some ac, some (.bl (f0 && ((ds.take i).foldl step2 (1, true)).2)), some (.int ((ds.take i).foldl step2 (1, true)).1)] ∧ H12 = H11)
                ⟨_, by rw [List.take_zero]; show _ = [_, _, _, _, _, _, _, _, _, _, some (V.bl (f0 && true)), _]; rw [Bool.and_true]; rfl, rfl⟩ (fun i σ H12 _ ⟨_, _, e⟩ => by rw [e]; exact SqL.of w11.ro) ?_ ?_⟩
              · rintro i y σ H12 hi ⟨vr, rfl, rfl⟩
                obtain ⟨d, hd, iy⟩ := ImAll.getV w11.ra hi
                have hst := fold1_snoc step2 hd (1, true)
                generalize hp : (ds.take i).foldl step2 (1, true) = p at hst
                refine gname (seq_ifN ?_)
                refine ⟨_, rfl, rfl, _, rfl, join_set (fun σ2 => σ2 = [some (.ref a), some (.ref s), some (.ref g), some (.ref r), vk, some (.int m), some (.bl dv), some y, va, some ac, some (.bl (f0 && (step2 p d).2)), some (.int p.1)]) ?_ (fun e => ?_) (fun e => ?_)⟩
                · rintro σ2 rfl
                  refine asg1 ?_
                  refine ⟨_, rfl, _, _, rfl, rfl, _, rfl, y, d, rfl, Im.dp _ _ iy, (w11.mem d (List.mem_of_getElem? hd)).ok, _, _, rfl, _, _, rfl, rfl, ?_⟩
                  refine gname ?_
                  refine ⟨some y, ?_, rfl⟩
                  rw [hst]
                  rfl
                · have e1 : p.1 = 0 := V.int.inj (of_decide_eq_true e)
                  have e2 : (step2 p d).2 = false := if_pos e1
                  rw [e2, Bool.and_false]
                  rfl
                · have e1 : ¬ p.1 = 0 := fun z => e (decide_eq_true (congrArg V.int z))
                  have e2 : (step2 p d).2 = p.2 := if_neg e1
                  rw [e2]
                  rfl
              · rintro σ H12 ⟨vr, rfl, rfl⟩
                refine nxp (seq_asg ?_)
                rw [hxl2, List.take_of_length_le (Nat.le_refl _)]
                generalize ds.foldl step2 (1, true) = p at hfin
                refine ⟨_, rfl, r, xs, rfl, .inl ⟨SqL.of w11.ro, fun t nt => ⟨.ref t, .tuple ds, rfl, .tup (SqT.of upd_same) (dp_sameAll (same_upd nt) _ _ w11.dps), fun es he d hd => (w11.mem d (by cases he; exact hd)).ok, fun H13 s13 => ?_⟩⟩⟩
                refine gname (seq_ifN ?_)
                refine ⟨_, rfl, _, _, _, _, _, rfl, .ty _, tyx_of (.bl _), kit_ty (kitBo _), _, rfl, iteF ⟨_, rfl, _, rfl, _, rfl, ite2 (fun e => ?_) (fun e => ?_)⟩⟩
                · refine ⟨_, rfl, rfl, rfl, _, rfl, iteNS ?_ ?_⟩
                  · refine congrArg V.bl ?_
                    show termGo 1 ds = _
                    rw [← hfin, show (f0 && p.2) = true from e, Bool.true_and]
                    exact decide_eq_decide.mpr ⟨fun h => congrArg V.int h, fun h => V.int.inj h⟩
                  refine seq_ifN ?_
                  refine ⟨.str _, .str _, rfl, .str _, (fun _ h => nomatch h), fun G1 t1 => ⟨_, _, rfl, rfl, _, rfl, iteF ?_⟩⟩
                  refine ⟨.str _, .str _, rfl, .str _, (fun _ h => nomatch h), fun G2 t2 => ⟨_, _, rfl, rfl, _, rfl, iteF ?_⟩⟩
                  refine ⟨Nat.zero_le _, fun p np => ⟨.ref p, .tuple [], rfl, .tup (SqT.of upd_same) .nil, (fun es h d hd => by cases h; cases hd), fun G3 t3 => ⟨_, _, rfl, rfl, _, rfl, iteF ?_⟩⟩⟩
                  refine ⟨.bl true, .bool true, rfl, .bl _, (fun _ h => nomatch h), fun G4 t4 => ⟨_, _, rfl, rfl, _, rfl, iteF ?_⟩⟩
                  refine ⟨.non, .none, rfl, .non, (fun _ h => nomatch h), fun G5 t5 => ⟨_, _, rfl, rfl, _, rfl, iteT ?_⟩⟩
                  refine ⟨.int 3, .int 3, rfl, .int _, (fun _ h => nomatch h), fun G6 t6 => ⟨_, _, rfl, rfl, ?_⟩⟩
                  exact q _
                · refine ⟨rfl, _, rfl, iteNS ?_ ?_⟩
                  · refine congrArg V.bl ?_
                    show termGo 1 ds = _
                    rw [← hfin, show (f0 && p.2) = false from Bool.eq_false_iff.mpr e, Bool.false_and]
                  refine seq_ifN ?_
                  refine ⟨.str _, .str _, rfl, .str _, (fun _ h => nomatch h), fun G1 t1 => ⟨_, _, rfl, rfl, _, rfl, iteF ?_⟩⟩
                  refine ⟨.str _, .str _, rfl, .str _, (fun _ h => nomatch h), fun G2 t2 => ⟨_, _, rfl, rfl, _, rfl, iteF ?_⟩⟩
                  refine ⟨Nat.zero_le _, fun p np => ⟨.ref p, .tuple [], rfl, .tup (SqT.of upd_same) .nil, (fun es h d hd => by cases h; cases hd), fun G3 t3 => ⟨_, _, rfl, rfl, _, rfl, iteF ?_⟩⟩⟩
                  refine ⟨.bl true, .bool true, rfl, .bl _, (fun _ h => nomatch h), fun G4 t4 => ⟨_, _, rfl, rfl, _, rfl, iteF ?_⟩⟩
                  refine ⟨.non, .none, rfl, .non, (fun _ h => nomatch h), fun G5 t5 => ⟨_, _, rfl, rfl, _, rfl, iteT ?_⟩⟩
                  refine ⟨.int 3, .int 3, rfl, .int _, (fun _ h => nomatch h), fun G6 t6 => ⟨_, _, rfl, rfl, ?_⟩⟩
                  exact q _
        · refine ⟨false, rfl, ?_⟩
          have e1 : ¬ p.1 = 0 := fun z => by rw [z] at e; cases e
          rw [hgo, decide_eq_false e1, Bool.and_false]
        · refine ⟨p.2, rfl, ?_⟩
          have e1 : p.1 = 0 := by
            cases Int.decEq p.1 0 with
            | isTrue h => exact h
            | isFalse h => exact absurd (by rw [decide_eq_false (fun z => h (V.int.inj z))]; rfl) e
          rw [hgo, decide_eq_true e1, Bool.and_true]

end
/-! ### the end -/
theorem all_mk {l : PySem.W.OpenLaw} {w : World} {K : PySem.W.Frag} {h : Heap} {mg : Str → Option Value} {fa f1 f2 f3 f4 f5 f6 f7 f8 f9 f10 f11 f12 f13 f14 : Addr} (X : K.In h) (G : h.Ns mainGlobals mg) (hfa : mg "law" = some (.ref fa))
    {od1 an1 od2 an2 od3 an3 od4 an4 od5 an5 od6 an6 od7 an7 od8 an8 od9 an9 od10 an10 od11 an11 od12 an12 od13 an13 od14 an14 : Option Addr} {sl1 sl2 sl3 sl4 sl5 sl6 sl7 sl8 sl9 sl10 sl11 sl12 sl13 sl14 : Array (Option Value)} {oc1 kV1 dc1 pm1 cd1 ct1 oc2 kV2 dc2 pm2 cd2 ct2 oc3 kV3 dc3 pm3 cd3 ct3 oc4 kV4 dc4 pm4 cd4 ct4 oc5 kV5 dc5 pm5 cd5 ct5 oc6 kV6 dc6 pm6 cd6 ct6 oc7 kV7 dc7 pm7 cd7 ct7 oc8 kV8 dc8 pm8 cd8 ct8 oc9 kV9 dc9 pm9 cd9 ct9 oc10 kV10 dc10 pm10 cd10 ct10 oc11 kV11 dc11 pm11 cd11 ct11 oc12 kV12 dc12 pm12 cd12 ct12 oc13 kV13 dc13 pm13 cd13 ct13 oc14 kV14 dc14 pm14 cd14 ct14 : Value} {tk0 : Tok} {tk1 : Tok} {tk2 : Tok} {tk3 : Tok}

    (a1 : PySem.W.nsIn K mainGlobals "is_integer" = some (some (.ref f1))) (l1 : K.lookup f1 = some ⟨oc1, od1, .func (PySem.W.fnOf "is_integer" "is_integer" (defArgs s_is_integer) (defBody s_is_integer) (defScope s_is_integer) .none kV1 dc1 pm1 an1 cd1 ct1), sl1⟩) (c1 : PySem.W.codeIn K cd1 "is_integer" = true) (k1 : PySem.W.keepIn K (.ref f1) = true)
    (a2 : PySem.W.nsIn K mainGlobals "is_bounded" = some (some (.ref f2))) (l2 : K.lookup f2 = some ⟨oc2, od2, .func (PySem.W.fnOf "is_bounded" "is_bounded" (defArgs s_is_bounded) (defBody s_is_bounded) (defScope s_is_bounded) .none kV2 dc2 pm2 an2 cd2 ct2), sl2⟩) (c2 : PySem.W.codeIn K cd2 "is_bounded" = true) (k2 : PySem.W.keepIn K (.ref f2) = true)
    (a3 : PySem.W.nsIn K mainGlobals "is_name" = some (some (.ref f3))) (l3 : K.lookup f3 = some ⟨oc3, od3, .func (PySem.W.fnOf "is_name" "is_name" (defArgs s_is_name) (defBody s_is_name) (defScope s_is_name) .none kV3 dc3 pm3 an3 cd3 ct3), sl3⟩) (c3 : PySem.W.codeIn K cd3 "is_name" = true) (k3 : PySem.W.keepIn K (.ref f3) = true)
    (a4 : PySem.W.nsIn K mainGlobals "is_arity" = some (some (.ref f4))) (l4 : K.lookup f4 = some ⟨oc4, od4, .func (PySem.W.fnOf "is_arity" "is_arity" (defArgs s_is_arity) (defBody s_is_arity) (defScope s_is_arity) .none kV4 dc4 pm4 an4 cd4 ct4), sl4⟩) (c4 : PySem.W.codeIn K cd4 "is_arity" = true) (k4 : PySem.W.keepIn K (.ref f4) = true)
    (a5 : PySem.W.nsIn K mainGlobals "is_symbol" = some (some (.ref f5))) (l5 : K.lookup f5 = some ⟨oc5, od5, .func (PySem.W.fnOf "is_symbol" "is_symbol" (defArgs s_is_symbol) (defBody s_is_symbol) (defScope s_is_symbol) .none kV5 dc5 pm5 an5 cd5 ct5), sl5⟩) (c5 : PySem.W.codeIn K cd5 "is_symbol" = true) (k5 : PySem.W.keepIn K (.ref f5) = true)
    (a6 : PySem.W.nsIn K mainGlobals "arity_of" = some (some (.ref f6))) (l6 : K.lookup f6 = some ⟨oc6, od6, .func (PySem.W.fnOf "arity_of" "arity_of" (defArgs s_arity_of) (defBody s_arity_of) (defScope s_arity_of) .none kV6 dc6 pm6 an6 cd6 ct6), sl6⟩) (c6 : PySem.W.codeIn K cd6 "arity_of" = true) (k6 : PySem.W.keepIn K (.ref f6) = true)
    (a7 : PySem.W.nsIn K mainGlobals "is_node" = some (some (.ref f7))) (l7 : K.lookup f7 = some ⟨oc7, od7, .func (PySem.W.fnOf "is_node" "is_node" (defArgs s_is_node) (defBody s_is_node) (defScope s_is_node) .none kV7 dc7 pm7 an7 cd7 ct7), sl7⟩) (c7 : PySem.W.codeIn K cd7 "is_node" = true) (k7 : PySem.W.keepIn K (.ref f7) = true)
    (a8 : PySem.W.nsIn K mainGlobals "is_term" = some (some (.ref f8))) (l8 : K.lookup f8 = some ⟨oc8, od8, .func (PySem.W.fnOf "is_term" "is_term" (defArgs s_is_term) (defBody s_is_term) (defScope s_is_term) .none kV8 dc8 pm8 an8 cd8 ct8), sl8⟩) (c8 : PySem.W.codeIn K cd8 "is_term" = true) (k8 : PySem.W.keepIn K (.ref f8) = true)
    (a9 : PySem.W.nsIn K mainGlobals "_law_stream" = some (some (.ref f9))) (l9 : K.lookup f9 = some ⟨oc9, od9, .func (PySem.W.fnOf "_law_stream" "_law_stream" (defArgs s__law_stream) (defBody s__law_stream) (defScope s__law_stream) .none kV9 dc9 pm9 an9 cd9 ct9), sl9⟩) (c9 : PySem.W.codeIn K cd9 "_law_stream" = true) (k9 : PySem.W.keepIn K (.ref f9) = true)
    (a10 : PySem.W.nsIn K mainGlobals "_law_draw" = some (some (.ref f10))) (l10 : K.lookup f10 = some ⟨oc10, od10, .func (PySem.W.fnOf "_law_draw" "_law_draw" (defArgs s__law_draw) (defBody s__law_draw) (defScope s__law_draw) .none kV10 dc10 pm10 an10 cd10 ct10), sl10⟩) (c10 : PySem.W.codeIn K cd10 "_law_draw" = true) (k10 : PySem.W.keepIn K (.ref f10) = true)
    (a11 : PySem.W.nsIn K mainGlobals "_law_value" = some (some (.ref f11))) (l11 : K.lookup f11 = some ⟨oc11, od11, .func (PySem.W.fnOf "_law_value" "_law_value" (defArgs s__law_value) (defBody s__law_value) (defScope s__law_value) .none kV11 dc11 pm11 an11 cd11 ct11), sl11⟩) (c11 : PySem.W.codeIn K cd11 "_law_value" = true) (k11 : PySem.W.keepIn K (.ref f11) = true)
    (a12 : PySem.W.nsIn K mainGlobals "_law_whole" = some (some (.ref f12))) (l12 : K.lookup f12 = some ⟨oc12, od12, .func (PySem.W.fnOf "_law_whole" "_law_whole" (defArgs s__law_whole) (defBody s__law_whole) (defScope s__law_whole) .none kV12 dc12 pm12 an12 cd12 ct12), sl12⟩) (c12 : PySem.W.codeIn K cd12 "_law_whole" = true) (k12 : PySem.W.keepIn K (.ref f12) = true)
    (a13 : PySem.W.nsIn K mainGlobals "_law_arity" = some (some (.ref f13))) (l13 : K.lookup f13 = some ⟨oc13, od13, .func (PySem.W.fnOf "_law_arity" "_law_arity" (defArgs s__law_arity) (defBody s__law_arity) (defScope s__law_arity) .none kV13 dc13 pm13 an13 cd13 ct13), sl13⟩) (c13 : PySem.W.codeIn K cd13 "_law_arity" = true) (k13 : PySem.W.keepIn K (.ref f13) = true)
    (a14 : PySem.W.nsIn K mainGlobals "law" = some (some (.ref f14))) (l14 : K.lookup f14 = some ⟨oc14, od14, .func (PySem.W.fnOf "law" "law" (defArgs s_law) (defBody s_law) (defScope s_law) .none kV14 dc14 pm14 an14 cd14 ct14), sl14⟩) (c14 : PySem.W.codeIn K cd14 "law" = true) (k14 : PySem.W.keepIn K (.ref f14) = true)
    (z0 : PySem.W.nsIn K mainGlobals "abs" = some none)
    (z1 : PySem.W.nsIn K mainGlobals "all" = some none)
    (z2 : PySem.W.nsIn K mainGlobals "bool" = some none)
    (z3 : PySem.W.nsIn K mainGlobals "int" = some none)
    (z4 : PySem.W.nsIn K mainGlobals "isinstance" = some none)
    (z5 : PySem.W.nsIn K mainGlobals "len" = some none)
    (z6 : PySem.W.nsIn K mainGlobals "list" = some none)
    (z7 : PySem.W.nsIn K mainGlobals "max" = some none)
    (z8 : PySem.W.nsIn K mainGlobals "ord" = some none)
    (z9 : PySem.W.nsIn K mainGlobals "range" = some none)
    (z10 : PySem.W.nsIn K mainGlobals "str" = some none)
    (z11 : PySem.W.nsIn K mainGlobals "tuple" = some none)
    (y0 : PySem.W.nsIn K mainGlobals "MOST_NAME" = some (some (.int 40 tk0)))
    (y1 : PySem.W.nsIn K mainGlobals "MOST_ARITY" = some (some (.int 8 tk1)))
    (y2 : PySem.W.nsIn K mainGlobals "INTEGER_BOUND" = some (some (.int 10000000000000000000000000000000000000000 tk2)))
    (y3 : PySem.W.nsIn K mainGlobals "PERCENT" = some (some (.int 37 tk3)))
    : ∃ fd : FuncData, (∀ (s : Shared) (v : Value), BindsTo s fd ⟨[v], []⟩ [("script", v)]) ∧ ∀ base : Heap, K.In base → base.Ns mainGlobals mg → FnOk l.prog w K mg base CX0 5 fa fd ["script"] (sp_law K) := by
  have e := hfa.symm.trans (PySem.W.mg_of X G a14)
  cases e
  have F1 := fun_mk (st := s_is_integer) l1 c1 k1
  have b1 := F1.binds (ps := ["value"]) fun _ _ _ _ _ _ us hl => match us, hl with | [_], _ => rfl
  have F2 := fun_mk (st := s_is_bounded) l2 c2 k2
  have b2 := F2.binds (ps := ["value"]) fun _ _ _ _ _ _ us hl => match us, hl with | [_], _ => rfl
  have F3 := fun_mk (st := s_is_name) l3 c3 k3
  have b3 := F3.binds (ps := ["value"]) fun _ _ _ _ _ _ us hl => match us, hl with | [_], _ => rfl
  have F4 := fun_mk (st := s_is_arity) l4 c4 k4
  have b4 := F4.binds (ps := ["value"]) fun _ _ _ _ _ _ us hl => match us, hl with | [_], _ => rfl
  have F5 := fun_mk (st := s_is_symbol) l5 c5 k5
  have b5 := F5.binds (ps := ["node"]) fun _ _ _ _ _ _ us hl => match us, hl with | [_], _ => rfl
  have F6 := fun_mk (st := s_arity_of) l6 c6 k6
  have b6 := F6.binds (ps := ["node"]) fun _ _ _ _ _ _ us hl => match us, hl with | [_], _ => rfl
  have F7 := fun_mk (st := s_is_node) l7 c7 k7
  have b7 := F7.binds (ps := ["value"]) fun _ _ _ _ _ _ us hl => match us, hl with | [_], _ => rfl
  have F8 := fun_mk (st := s_is_term) l8 c8 k8
  have b8 := F8.binds (ps := ["value"]) fun _ _ _ _ _ _ us hl => match us, hl with | [_], _ => rfl
  have F9 := fun_mk (st := s__law_stream) l9 c9 k9
  have b9 := F9.binds (ps := ["script"]) fun _ _ _ _ _ _ us hl => match us, hl with | [_], _ => rfl
  have F10 := fun_mk (st := s__law_draw) l10 c10 k10
  have b10 := F10.binds (ps := ["stream", "many"]) fun _ _ _ _ _ _ us hl => match us, hl with | [_, _], _ => rfl
  have F11 := fun_mk (st := s__law_value) l11 c11 k11
  have b11 := F11.binds (ps := ["stream"]) fun _ _ _ _ _ _ us hl => match us, hl with | [_], _ => rfl
  have F12 := fun_mk (st := s__law_whole) l12 c12 k12
  have b12 := F12.binds (ps := ["value"]) fun _ _ _ _ _ _ us hl => match us, hl with | [_], _ => rfl
  have F13 := fun_mk (st := s__law_arity) l13 c13 k13
  have b13 := F13.binds (ps := ["value"]) fun _ _ _ _ _ _ us hl => match us, hl with | [_], _ => rfl
  have F14 := fun_mk (st := s_law) l14 c14 k14
  have E : Bi K mg := ⟨PySem.W.mg_none_of X G z0, PySem.W.mg_none_of X G z1, PySem.W.mg_none_of X G z2, PySem.W.mg_none_of X G z3, PySem.W.mg_none_of X G z4, PySem.W.mg_none_of X G z5, PySem.W.mg_none_of X G z6, PySem.W.mg_none_of X G z7, PySem.W.mg_none_of X G z8, PySem.W.mg_none_of X G z9, PySem.W.mg_none_of X G z10, PySem.W.mg_none_of X G z11, ⟨_, PySem.W.mg_of X G y0, ⟨_, rfl⟩⟩, ⟨_, PySem.W.mg_of X G y1, ⟨_, rfl⟩⟩, ⟨_, PySem.W.mg_of X G y2, ⟨_, rfl⟩⟩, ⟨_, PySem.W.mg_of X G y3, ⟨_, rfl⟩⟩⟩
  refine ⟨PySem.W.fnOf "law" "law" (defArgs s_law) (defBody s_law) (defScope s_law) .none kV14 dc14 pm14 an14 cd14 ct14, fun s v => .of_eq rfl, fun base _ _ => ?_⟩
  have D1 : Has l.prog w K mg base 1 "is_integer" ["value"] (sp_is_integer K) := ⟨_, _, ok_is_integer F1 E , PySem.W.mg_of X G a1, k1, b1⟩
  have D3 : Has l.prog w K mg base 1 "is_name" ["value"] (sp_is_name K) := ⟨_, _, ok_is_name F3 E , PySem.W.mg_of X G a3, k3, b3⟩
  have D5 : Has l.prog w K mg base 1 "is_symbol" ["node"] (sp_is_symbol K) := ⟨_, _, ok_is_symbol F5 E , PySem.W.mg_of X G a5, k5, b5⟩
  have D9 : Has l.prog w K mg base 1 "_law_stream" ["script"] (sp__law_stream K) := ⟨_, _, ok__law_stream F9 E , PySem.W.mg_of X G a9, k9, b9⟩
  have D10 : Has l.prog w K mg base 1 "_law_draw" ["stream", "many"] (sp__law_draw K) := ⟨_, _, ok__law_draw F10 E , PySem.W.mg_of X G a10, k10, b10⟩
  have D12 : Has l.prog w K mg base 1 "_law_whole" ["value"] (sp__law_whole K) := ⟨_, _, ok__law_whole F12 E , PySem.W.mg_of X G a12, k12, b12⟩
  have D2 : Has l.prog w K mg base 2 "is_bounded" ["value"] (sp_is_bounded K) := ⟨_, _, ok_is_bounded F2 E D1, PySem.W.mg_of X G a2, k2, b2⟩
  have D4 : Has l.prog w K mg base 2 "is_arity" ["value"] (sp_is_arity K) := ⟨_, _, ok_is_arity F4 E D1, PySem.W.mg_of X G a4, k4, b4⟩
  have D6 : Has l.prog w K mg base 2 "arity_of" ["node"] (sp_arity_of K) := ⟨_, _, ok_arity_of F6 E D5, PySem.W.mg_of X G a6, k6, b6⟩
  have D11 : Has l.prog w K mg base 2 "_law_value" ["stream"] (sp__law_value K) := ⟨_, _, ok__law_value F11 E D10, PySem.W.mg_of X G a11, k11, b11⟩
  have D13 : Has l.prog w K mg base 2 "_law_arity" ["value"] (sp__law_arity K) := ⟨_, _, ok__law_arity F13 E D12, PySem.W.mg_of X G a13, k13, b13⟩
  have D7 : Has l.prog w K mg base 3 "is_node" ["value"] (sp_is_node K) := ⟨_, _, ok_is_node F7 E D1 D2 D4 D3, PySem.W.mg_of X G a7, k7, b7⟩
  have D8 : Has l.prog w K mg base 4 "is_term" ["value"] (sp_is_term K) := ⟨_, _, ok_is_term F8 E D7 D6, PySem.W.mg_of X G a8, k8, b8⟩
  exact ok_law F14 E D9 D10 D11 D13 D8
end My
open PySem PySem.W PyProof.Rows
set_option maxRecDepth 100000 in
set_option maxHeartbeats 0 in
theorem PySem.Challenge.cw_hornbook_k02_is_term_holds : PySem.Challenge.rw_hornbook_k02_is_term.Holds := by
  w_on; o_law; k_head; (case hw => w_witness2)
  k_fill
  refine L2.walk_of (l := PySem.Challenge.rw_hornbook_k02_is_term) (n := 63) (k := 5) (x := "script") (CX := fun _ => L2.CX0) (sp := fun w => My.sp_law _) rfl (by decide) rfl ⟨rfl, by decide, by decide⟩ (fun w h Y => PySem.W.kIn_of Y) ?F (fun _ _ a ns hl _ hS => ⟨a, ns, rfl, hS, hl, fun _ => rfl⟩) (fun _ _ _ _ _ h => h)
  case F =>
    intro w mg fa h KX G hmg
    refine' My.all_mk KX G hmg ?a1 ?l1 ?c1 ?k1 ?a2 ?l2 ?c2 ?k2 ?a3 ?l3 ?c3 ?k3 ?a4 ?l4 ?c4 ?k4 ?a5 ?l5 ?c5 ?k5 ?a6 ?l6 ?c6 ?k6 ?a7 ?l7 ?c7 ?k7 ?a8 ?l8 ?c8 ?k8 ?a9 ?l9 ?c9 ?k9 ?a10 ?l10 ?c10 ?k10 ?a11 ?l11 ?c11 ?k11 ?a12 ?l12 ?c12 ?k12 ?a13 ?l13 ?c13 ?k13 ?a14 ?l14 ?c14 ?k14 ?z0 ?z1 ?z2 ?z3 ?z4 ?z5 ?z6 ?z7 ?z8 ?z9 ?z10 ?z11 ?y0 ?y1 ?y2 ?y3
    (case a1 => k_is)
    (case l1 => k_is)
    (case c1 => k_is)
    (case k1 => k_is)
    (case a2 => k_is)
    (case l2 => k_is)
    (case c2 => k_is)
    (case k2 => k_is)
    (case a3 => k_is)
    (case l3 => k_is)
    (case c3 => k_is)
    (case k3 => k_is)
    (case a4 => k_is)
    (case l4 => k_is)
    (case c4 => k_is)
    (case k4 => k_is)
    (case a5 => k_is)
    (case l5 => k_is)
    (case c5 => k_is)
    (case k5 => k_is)
    (case a6 => k_is)
    (case l6 => k_is)
    (case c6 => k_is)
    (case k6 => k_is)
    (case a7 => k_is)
    (case l7 => k_is)
    (case c7 => k_is)
    (case k7 => k_is)
    (case a8 => k_is)
    (case l8 => k_is)
    (case c8 => k_is)
    (case k8 => k_is)
    (case a9 => k_is)
    (case l9 => k_is)
    (case c9 => k_is)
    (case k9 => k_is)
    (case a10 => k_is)
    (case l10 => k_is)
    (case c10 => k_is)
    (case k10 => k_is)
    (case a11 => k_is)
    (case l11 => k_is)
    (case c11 => k_is)
    (case k11 => k_is)
    (case a12 => k_is)
    (case l12 => k_is)
    (case c12 => k_is)
    (case k12 => k_is)
    (case a13 => k_is)
    (case l13 => k_is)
    (case c13 => k_is)
    (case k13 => k_is)
    (case a14 => k_is)
    (case l14 => k_is)
    (case c14 => k_is)
    (case k14 => k_is)
    (case z0 => k_is)
    (case z1 => k_is)
    (case z2 => k_is)
    (case z3 => k_is)
    (case z4 => k_is)
    (case z5 => k_is)
    (case z6 => k_is)
    (case z7 => k_is)
    (case z8 => k_is)
    (case z9 => k_is)
    (case z10 => k_is)
    (case z11 => k_is)
    (case y0 => k_is)
    (case y1 => k_is)
    (case y2 => k_is)
    (case y3 => k_is)
