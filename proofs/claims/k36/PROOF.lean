import PyProof.Rows.All
import Wide.All
import OpenK.AllK
import Wide.FinOn
import HandS.ForMost
import HandS.IsInst
import HandS.Wide
import HandS.Codes
import HandS.Style
import HandS.TupLe
import HandS.TupAny
import HandS.EndBits
import HandS.Walk
import HandS.Zip
import KE.LtData
import HandS.ForExc
import HandS.ExcIs
import HandS.RaiseMore
import HandS.FStr
import HandS.SetKeys
import HandS.WordsDict
import HandS.DictComp
import HandS.More
import HandS.Deep
import HandS.TupMul
import PySem.Challenge.RW_hornbook_k36_definite_clauses
set_option Elab.async false
set_option linter.all false
set_option maxRecDepth 100000
set_option maxHeartbeats 4000000
set_option exponentiation.threshold 10000
namespace My
open PySem PySem.Spec PyProof.Rows L2
/-- a def of the text that keeps a promise, as its callers want it -/
def Has (P : Program) (w : World) (K : PySem.W.Frag) (mg : Str → Option Value) (base : Heap) (k : Nat) (x : Str) (ps : List Str) (sp : Sp) : Prop :=
  ∃ (f : Addr) (fd : FuncData), FnOk P w K mg base CX0 k f fd ps sp ∧ mg x = some (.ref f) ∧ PySem.W.keepIn K (.ref f) = true ∧ Binds K fd ps []
theorem same_upd {H : Hp} {p : Addr} {o : HO} (h : H p = none) : Same H (upd H p o) := fun b x e => by
  rw [upd_ne (ne_of_none e h)]
  exact e
/-- all but the object at s is as it was -/
def But (s : Addr) (H H' : Hp) : Prop := ∀ b o, b ≠ s → H b = some o → H' b = some o
theorem But.refl (s : Addr) (H : Hp) : But s H H := fun _ _ _ e => e
theorem But.trans {s : Addr} {H H1 H2 : Hp} (a : But s H H1) (b : But s H1 H2) : But s H H2 := fun c o hc e => b c o hc (a c o hc e)
theorem But.of {s : Addr} {H H' : Hp} (a : Same H H') : But s H H' := fun b o _ e => a b o e
theorem But.put {s : Addr} {H : Hp} {o : HO} : But s H (upd H s o) := fun b u hb e => by rw [upd_ne hb]; exact e
/-! ### what a value is -/
mutual
inductive Im (K : PySem.W.Frag) (G : Addr → Prop) (H : Hp) : V → PyData → Prop
  | non : Im K G H .non .none
  | bl (b : Bool) : Im K G H (.bl b) (.bool b)
  | int (i : Int) : Im K G H (.int i) (.int i)
  | str (x : Str) : Im K G H (.str x) (.str x)
  | lst {a : Addr} {xs : List V} {ds : List PyData} : G a → H a = some (.lst xs) → ImAll K G H xs ds → Im K G H (.ref a) (.list ds)
  | tup {a : Addr} {xs : List V} {ds : List PyData} : G a → H a = some (.tup xs) → ImAll K G H xs ds → Im K G H (.ref a) (.tuple ds)
inductive ImAll (K : PySem.W.Frag) (G : Addr → Prop) (H : Hp) : List V → List PyData → Prop
  | nil : ImAll K G H [] []
  | cons {v : V} {vs : List V} {d : PyData} {ds : List PyData} : Im K G H v d → ImAll K G H vs ds → ImAll K G H (v :: vs) (d :: ds)
end
section
variable {K : PySem.W.Frag} {G G' : Addr → Prop} {H H' : Hp}
mutual
theorem Im.mono (hH : ∀ b o, G b → H b = some o → H' b = some o) (hG : ∀ b, G b → G' b) : ∀ (d : PyData) (v : V), Im K G H v d → Im K G' H' v d
  | .none, _, h => by cases h; exact .non
  | .bool b, _, h => by cases h; exact .bl b
  | .int i, _, h => by cases h; exact .int i
  | .str x, _, h => by cases h; exact .str x
  | .list ds, _, h => by
    cases h with
    | lst g e ha => exact .lst (hG _ g) (hH _ _ g e) (Im.monoAll hH hG ds _ ha)
  | .tuple ds, _, h => by
    cases h with
    | tup g e ha => exact .tup (hG _ g) (hH _ _ g e) (Im.monoAll hH hG ds _ ha)
  | .dict _, _, h => by cases h
theorem Im.monoAll (hH : ∀ b o, G b → H b = some o → H' b = some o) (hG : ∀ b, G b → G' b) : ∀ (ds : List PyData) (vs : List V), ImAll K G H vs ds → ImAll K G' H' vs ds
  | [], _, h => by cases h; exact .nil
  | d :: ds, _, h => by
    cases h with
    | cons h1 h2 => exact .cons (Im.mono hH hG d _ h1) (Im.monoAll hH hG ds _ h2)
end
mutual
theorem Im.dp : ∀ (d : PyData) (v : V), Im K G H v d → Dp K H v d
  | .none, _, h => by cases h; exact .non
  | .bool b, _, h => by cases h; exact .bl b
  | .int i, _, h => by cases h; exact .int i
  | .str x, _, h => by cases h; exact .str x
  | .list ds, _, h => by
    cases h with
    | lst g e ha => exact .lst (SqL.of e) (Im.dpAll ds _ ha)
  | .tuple ds, _, h => by
    cases h with
    | tup g e ha => exact .tup (SqT.of e) (Im.dpAll ds _ ha)
  | .dict _, _, h => by cases h
theorem Im.dpAll : ∀ (ds : List PyData) (vs : List V), ImAll K G H vs ds → DpAll K H vs ds
  | [], _, h => by cases h; exact .nil
  | d :: ds, _, h => by
    cases h with
    | cons h1 h2 => exact .cons (Im.dp d _ h1) (Im.dpAll ds _ h2)
end
theorem ImAll.len : ∀ {vs : List V} {ds : List PyData}, ImAll K G H vs ds → vs.length = ds.length
  | _, _, .nil => rfl
  | _, _, .cons _ t => congrArg (· + 1) (ImAll.len t)
theorem ImAll.get : ∀ {vs : List V} {ds : List PyData} {i : Nat} {d : PyData}, ImAll K G H vs ds → ds[i]? = some d → ∃ v, vs[i]? = some v ∧ Im K G H v d
  | _, _, _, _, .nil, e => by simp at e
  | _, _, 0, _, .cons r _, e => by simp at e; subst e; exact ⟨_, rfl, r⟩
  | _, _, i + 1, _, .cons _ t, e => by
    obtain ⟨u, h1, h2⟩ := ImAll.get (i := i) t (by simpa using e)
    exact ⟨u, by simpa using h1, h2⟩
theorem ImAll.getV : ∀ {vs : List V} {ds : List PyData} {i : Nat} {v : V}, ImAll K G H vs ds → vs[i]? = some v → ∃ d, ds[i]? = some d ∧ Im K G H v d
  | _, _, _, _, .nil, e => by simp at e
  | _, _, 0, _, .cons r _, e => by simp at e; subst e; exact ⟨_, rfl, r⟩
  | _, _, i + 1, _, .cons _ t, e => by
    obtain ⟨u, h1, h2⟩ := ImAll.getV (i := i) t (by simpa using e)
    exact ⟨u, by simpa using h1, h2⟩
theorem ImAll.snoc : ∀ {vs : List V} {ds : List PyData} {v : V} {d : PyData}, ImAll K G H vs ds → Im K G H v d → ImAll K G H (vs ++ [v]) (ds ++ [d])
  | _, _, _, _, .nil, r => .cons r .nil
  | _, _, _, _, .cons q t, r => .cons q (ImAll.snoc t r)
theorem ImAll.app : ∀ {vs : List V} {ds : List PyData} {us : List V} {es : List PyData}, ImAll K G H vs ds → ImAll K G H us es → ImAll K G H (vs ++ us) (ds ++ es)
  | _, _, _, _, .nil, r => r
  | _, _, _, _, .cons q t, r => .cons q (ImAll.app t r)
end
section
variable {K : PySem.W.Frag} {H : Hp}
theorem DpAll.len : ∀ {vs : List V} {ds : List PyData}, DpAll K H vs ds → vs.length = ds.length
  | _, _, .nil => rfl
  | _, _, .cons _ t => congrArg (· + 1) (DpAll.len t)
theorem DpAll.get : ∀ {vs : List V} {ds : List PyData} {i : Nat} {d : PyData}, DpAll K H vs ds → ds[i]? = some d → ∃ v, vs[i]? = some v ∧ Dp K H v d
  | _, _, _, _, .nil, e => by simp at e
  | _, _, 0, _, .cons r _, e => by simp at e; subst e; exact ⟨_, rfl, r⟩
  | _, _, i + 1, _, .cons _ t, e => by
    obtain ⟨u, h1, h2⟩ := DpAll.get (i := i) t (by simpa using e)
    exact ⟨u, by simpa using h1, h2⟩
/-- the name of a value's class -/
def tyN : PyData → String
  | .none => "NoneType" | .bool _ => "bool" | .int _ => "int" | .str _ => "str" | .list _ => "list" | .tuple _ => "tuple" | .dict _ => "dict"
theorem tyx_of : ∀ {x : V} {d : PyData}, Dp K H x d → TyX K H x (.type (tyN d))
  | _, _, .non => .base .non
  | _, _, .bl b => .base (.bl b)
  | _, _, .int i => .base (.int i)
  | _, _, .str x => .base (.str x)
  | _, _, .lst h _ => by
    rcases h with (h | ⟨o, h⟩) | ⟨o, its, n, hk, hc, _⟩
    · exact .base (.lst h)
    · exact .base (.frz h)
    · exact .kList hk hc
  | _, _, .tup h _ => by
    rcases h with (h | ⟨o, h⟩) | ⟨o, its, n, hk, hc, _⟩
    · exact .base (.tup h)
    · exact .fTuple h
    · exact .kTuple hk hc
def isI : PyData → Bool
  | .int _ => true | .bool _ => true | _ => false
def isB : PyData → Bool
  | .bool _ => true | _ => false
def isS : PyData → Bool
  | .str _ => true | _ => false
def isT : PyData → Bool
  | .tuple _ => true | _ => false
def isL : PyData → Bool
  | .list _ => true | _ => false
theorem kitI (d : PyData) : kitB (tyN d) "int" = some (isI d) := by cases d <;> (show kitB _ "int" = _; simp only [tyN, isI]; decide +kernel)
theorem kitBo (d : PyData) : kitB (tyN d) "bool" = some (isB d) := by cases d <;> (show kitB _ "bool" = _; simp only [tyN, isB]; decide +kernel)
theorem kitS (d : PyData) : kitB (tyN d) "str" = some (isS d) := by cases d <;> (show kitB _ "str" = _; simp only [tyN, isS]; decide +kernel)
theorem kitT (d : PyData) : kitB (tyN d) "tuple" = some (isT d) := by cases d <;> (show kitB _ "tuple" = _; simp only [tyN, isT]; decide +kernel)
theorem kitL (d : PyData) : kitB (tyN d) "list" = some (isL d) := by cases d <;> (show kitB _ "list" = _; simp only [tyN, isL]; decide +kernel)
theorem isi_int {x : V} {d : PyData} {Q : VK} (h : Dp K H x d) (q : Q (.bl (isI d)) H) : rIsi K [x, .ty "int"] H Q := ⟨x, .ty "int", _, _, _, rfl, .ty _, tyx_of h, kit_ty (kitI d), q⟩
theorem isi_bool {x : V} {d : PyData} {Q : VK} (h : Dp K H x d) (q : Q (.bl (isB d)) H) : rIsi K [x, .ty "bool"] H Q := ⟨x, .ty "bool", _, _, _, rfl, .ty _, tyx_of h, kit_ty (kitBo d), q⟩
theorem isi_str {x : V} {d : PyData} {Q : VK} (h : Dp K H x d) (q : Q (.bl (isS d)) H) : rIsi K [x, .ty "str"] H Q := ⟨x, .ty "str", _, _, _, rfl, .ty _, tyx_of h, kit_ty (kitS d), q⟩
theorem isi_tup {x : V} {d : PyData} {Q : VK} (h : Dp K H x d) (q : Q (.bl (isT d)) H) : rIsi K [x, .ty "tuple"] H Q := ⟨x, .ty "tuple", _, _, _, rfl, .ty _, tyx_of h, kit_ty (kitT d), q⟩
theorem isi_list {x : V} {d : PyData} {Q : VK} (h : Dp K H x d) (q : Q (.bl (isL d)) H) : rIsi K [x, .ty "list"] H Q := ⟨x, .ty "list", _, _, _, rfl, .ty _, tyx_of h, kit_ty (kitL d), q⟩
end
/-! ### the stream of draws -/
structure Stm (H : Hp) (s l : Addr) : Prop where
  ex : ∃ (a b m : Int) (ns : List Int), H s = some (.lst [.ref l, .int a, .int b, .int m]) ∧ H l = some (.lst (ns.map V.int)) ∧ ns.length ≤ 63 ∧ 0 ≤ a ∧ 0 ≤ b ∧ 0 ≤ m ∧ m < 2147483647
theorem Stm.keep {H H' : Hp} {s l : Addr} (h : Stm H s l) (e : Same H H') : Stm H' s l := by
  obtain ⟨a, b, m, ns, h1, h2, r⟩ := h.ex
  exact ⟨a, b, m, ns, e _ _ h1, e _ _ h2, r⟩
/-- another object is changed -/
theorem Stm.put {H : Hp} {s l r : Addr} {o : HO} (h : Stm H s l) (h1 : s ≠ r) (h2 : l ≠ r) : Stm (upd H r o) s l := by
  obtain ⟨a, b, m, ns, e1, e2, q⟩ := h.ex
  exact ⟨a, b, m, ns, by rw [upd_ne h1]; exact e1, by rw [upd_ne h2]; exact e2, q⟩
theorem Stm.at_s {H : Hp} {s l : Addr} (h : Stm H s l) : ∃ o, H s = some o := by
  obtain ⟨a, b, m, ns, e1, e2, q⟩ := h.ex
  exact ⟨_, e1⟩
theorem Stm.at_l {H : Hp} {s l : Addr} (h : Stm H s l) : ∃ o, H l = some o := by
  obtain ⟨a, b, m, ns, e1, e2, q⟩ := h.ex
  exact ⟨_, e2⟩
/-- a constant of the module -/
def GV (mg : Str → Option Value) (x : Str) (v : V) : Prop := ∃ u, mg x = some u ∧ RelV v u
theorem pe_gC {X : Cx} {x : Str} {v : V} {pos : Pos} (hg : Gl X x) (h : GV X.mg x v) (hd : (x == ("__debug__" : Str)) = false := by decide) : PE X (.Name x pos) (tC v) := by
  obtain ⟨u, e, r⟩ := h
  exact pe_glob hg e r hd

/-! ### 'a' * 40 -/
section
variable {X : Cx}
theorem op_mulS : OpR X (binaryOp .Mult) (fun x y H Q => ∃ z i, x = .str z ∧ y = .int i ∧ MulOk z i ∧ Q (.str (Txt.mul z i)) H) := by
  intro pins s σ H x y v u Q I rx ry h
  obtain ⟨z, i, rfl, rfl, hk, q⟩ := h
  obtain ⟨t, rfl⟩ := rx
  obtain ⟨t', rfl⟩ := ry
  exact SB.mul hk fun t2 k => ⟨.str _, H, I.tok k, ⟨_, rfl⟩, q⟩
end
/-! ### data written out: each part of it is new -/
section
variable {K : PySem.W.Frag}
/-- an expression that makes data and changes nothing else -/
def Lit (K : PySem.W.Frag) (σ : L2.St) (t : TE) (d : PyData) : Prop := ∀ (H : Hp) (Q : VK), (∀ v H', Same H H' → Im K (fun b => H b = Option.none) H' v d → Q v H') → t σ H Q
def LitA (K : PySem.W.Frag) (σ : L2.St) (t : TA) (ds : List PyData) : Prop := ∀ (H : Hp) (Q : List V → Hp → Prop), (∀ vs H', Same H H' → ImAll K (fun b => H b = Option.none) H' vs ds → Q vs H') → t σ H Q
variable {σ : L2.St}
theorem lit_int {i : Int} : Lit K σ (tC (.int i)) (.int i) := fun H Q h => h _ H (Same.refl H) (.int i)
theorem lit_str {x : Str} : Lit K σ (tC (.str x)) (.str x) := fun H Q h => h _ H (Same.refl H) (.str x)
theorem lit_bl {b : Bool} : Lit K σ (tC (.bl b)) (.bool b) := fun H Q h => h _ H (Same.refl H) (.bl b)
theorem lit_non : Lit K σ (tC .non) .none := fun H Q h => h _ H (Same.refl H) .non
theorem litA_nil : LitA K σ tNil [] := fun H Q h => h _ H (Same.refl H) .nil
theorem litA_cons {t : TE} {ta : TA} {d : PyData} {ds : List PyData} (h1 : Lit K σ t d) (h2 : LitA K σ ta ds) : LitA K σ (tCons t ta) (d :: ds) := fun H Q h =>
  h1 H _ fun v H1 s1 i1 => h2 H1 _ fun vs H2 s2 i2 => h _ H2 (s1.trans s2) (.cons (Im.mono (fun b o _ e => s2 b o e) (fun _ e => e) _ _ i1) (Im.monoAll (fun _ _ _ e => e) (fun b e => s1.free e) _ _ i2))
theorem lit_tup {ta : TA} {ds : List PyData} (h1 : LitA K σ ta ds) (hz : ds.length ≤ sizeLine) : Lit K σ (tTup ta) (.tuple ds) := fun H Q h =>
  h1 H _ fun vs H1 s1 i1 => ⟨by rw [i1.len]; exact hz, fun p np => h _ _ (s1.trans (same_upd np)) (.tup (s1.free np) upd_same (Im.monoAll (fun b o _ e => same_upd np b o e) (fun _ e => e) _ _ i1))⟩
theorem lit_lst {ta : TA} {ds : List PyData} (h1 : LitA K σ ta ds) (hz : ds.length ≤ sizeLine) : Lit K σ (tLst ta) (.list ds) := fun H Q h =>
  h1 H _ fun vs H1 s1 i1 => ⟨by rw [i1.len]; exact hz, fun p np => h _ _ (s1.trans (same_upd np)) (.lst (s1.free np) upd_same (Im.monoAll (fun b o _ e => same_upd np b o e) (fun _ e => e) _ _ i1))⟩
/-- what is an int -/
theorem lit_neg {t : TE} {i : Int} (h1 : Lit K σ t (.int i)) : Lit K σ (tUn (rU fun i => .int (-i)) t) (.int (-i)) := fun H Q h =>
  h1 H _ fun v H1 s1 i1 => by
    cases i1
    exact ⟨_, rfl, h _ H1 s1 (.int _)⟩
theorem lit_sub {t u : TE} {i j : Int} (h1 : Lit K σ t (.int i)) (h2 : Lit K σ u (.int j)) : Lit K σ (tOp (rI0 fun i j => .int (i - j)) t u) (.int (i - j)) := fun H Q h =>
  h1 H _ fun v H1 s1 i1 => h2 H1 _ fun v2 H2 s2 i2 => by
    cases i1
    cases i2
    exact ⟨_, _, rfl, rfl, h _ H2 (s1.trans s2) (.int _)⟩
theorem lit_pow {t u : TE} {i j : Int} (h1 : Lit K σ t (.int i)) (h2 : Lit K σ u (.int j)) (hc : CPow i j) : Lit K σ (tOp (rI CPow fun i j => .int (i ^ j.toNat)) t u) (.int (i ^ j.toNat)) := fun H Q h =>
  h1 H _ fun v H1 s1 i1 => h2 H1 _ fun v2 H2 s2 i2 => by
    cases i1
    cases i2
    exact ⟨_, _, rfl, rfl, hc, h _ H2 (s1.trans s2) (.int _)⟩
theorem lit_mulS {t u : TE} {z : Str} {j : Int} (h1 : Lit K σ t (.str z)) (h2 : Lit K σ u (.int j)) (hc : MulOk z j) : Lit K σ (tOp (fun x y H Q => ∃ z i, x = .str z ∧ y = .int i ∧ MulOk z i ∧ Q (.str (Txt.mul z i)) H) t u) (.str (Txt.mul z j)) := fun H Q h =>
  h1 H _ fun v H1 s1 i1 => h2 H1 _ fun v2 H2 s2 i2 => by
    cases i1
    cases i2
    exact ⟨_, _, rfl, rfl, hc, h _ H2 (s1.trans s2) (.str _)⟩
end
section
variable {X : Cx} {pos : Pos}
/-- a built-in class as a value -/
theorem pe_ty {x : Str} (n : String) (hg : Gl X x) (hm : X.mg x = Option.none) (hv : bootBuiltins x = some (.type n)) (hn : x ≠ "__name__" := by decide) (hd : (x == ("__debug__" : Str)) = false := by decide) : PE X (.Name x pos) (tC (.ty n)) :=
  pe_bltn hg hm hv rfl hn hd
end
section
variable {K : PySem.W.Frag} {H H' : Hp}
theorem same_sqT {a : Addr} {xs : List V} (e : Same H H') (h : SqT K H a xs) : SqT K H' a xs := by
  rcases h with (h | ⟨o, h⟩) | h
  · exact .inl (.inl (e _ _ h))
  · exact .inl (.inr ⟨o, e _ _ h⟩)
  · exact .inr h
mutual
theorem dp_same (e : Same H H') : ∀ (d : PyData) (v : V), Dp K H v d → Dp K H' v d
  | .none, _, h => by cases h; exact .non
  | .bool b, _, h => by cases h; exact .bl b
  | .int i, _, h => by cases h; exact .int i
  | .str x, _, h => by cases h; exact .str x
  | .list ds, _, h => by
    cases h with
    | lst g ha => exact .lst (e.seq g) (dp_sameAll e ds _ ha)
  | .tuple ds, _, h => by
    cases h with
    | tup g ha => exact .tup (same_sqT e g) (dp_sameAll e ds _ ha)
  | .dict _, _, h => by cases h
theorem dp_sameAll (e : Same H H') : ∀ (ds : List PyData) (vs : List V), DpAll K H vs ds → DpAll K H' vs ds
  | [], _, h => by cases h; exact .nil
  | d :: ds, _, h => by
    cases h with
    | cons h1 h2 => exact .cons (dp_same e d _ h1) (dp_sameAll e ds _ h2)
end
end
theorem small_of {n : Nat} (h : n ≤ 1000) : n ≤ sizeLine := Nat.le_of_lt (small1000 h)
theorem seq_asg {te : TE} {g : TG} {u : TS} {D : Ends} {σ : L2.St} {H : Hp} (h : te σ H fun x H1 => g x σ H1 (u D)) : tSeq (tAsg te g) u D σ H := h
theorem gname {i : Nat} {v : V} {σ : L2.St} {H : Hp} {Q : L2.St → Hp → Prop} (h : Q (σ.set i (some v)) H) : gName i v σ H Q := h
theorem nxp {N : L2.St → Hp → Prop} {R : VK} {B C : L2.St → Hp → Prop} {σ : L2.St} {H : Hp} (h : N σ H) : ({ nx := N, rt := R, bk := B, ct := C } : Ends).nx σ H := h
theorem seq_if {c : TT} {t t2 : TS} {u : TS} {D : Ends} {σ : L2.St} {H : Hp} (h : c σ H fun b H1 => if b = true then t { D with nx := u D } σ H1 else t2 { D with nx := u D } σ H1) : tSeq (tIfS c t t2) u D σ H := h
theorem seq_ifN {c : TT} {t : TS} {u : TS} {D : Ends} {σ : L2.St} {H : Hp} (h : c σ H fun b H1 => if b = true then t { D with nx := u D } σ H1 else u D σ H1) : tSeq (tIfS c t tNext) u D σ H := h
theorem seq_any {t : TS} {u : TS} {D : Ends} {σ : L2.St} {H : Hp} (h : t { D with nx := u D } σ H) : tSeq t u D σ H := h
theorem asg1 {te : TE} {g : TG} {D : Ends} {σ : L2.St} {H : Hp} (h : te σ H fun x H1 => g x σ H1 D.nx) : tAsg te g D σ H := h
section
variable {K : PySem.W.Frag} {G G' : Addr → Prop} {H H' : Hp}
mutual
theorem Im.mono2 (hH : ∀ b o, G b → H b = some o → H' b = some o) (hG : ∀ b o, H b = some o → G b → G' b) : ∀ (d : PyData) (v : V), Im K G H v d → Im K G' H' v d
  | .none, _, h => by cases h; exact .non
  | .bool b, _, h => by cases h; exact .bl b
  | .int i, _, h => by cases h; exact .int i
  | .str x, _, h => by cases h; exact .str x
  | .list ds, _, h => by
    cases h with
    | lst g e ha => exact .lst (hG _ _ e g) (hH _ _ g e) (Im.mono2All hH hG ds _ ha)
  | .tuple ds, _, h => by
    cases h with
    | tup g e ha => exact .tup (hG _ _ e g) (hH _ _ g e) (Im.mono2All hH hG ds _ ha)
  | .dict _, _, h => by cases h
theorem Im.mono2All (hH : ∀ b o, G b → H b = some o → H' b = some o) (hG : ∀ b o, H b = some o → G b → G' b) : ∀ (ds : List PyData) (vs : List V), ImAll K G H vs ds → ImAll K G' H' vs ds
  | [], _, h => by cases h; exact .nil
  | d :: ds, _, h => by
    cases h with
    | cons h1 h2 => exact .cons (Im.mono2 hH hG d _ h1) (Im.mono2All hH hG ds _ h2)
end
end
theorem join_set {c : Prop} [Decidable c] {v : V} {i : Nat} {u : TS} {D : Ends} {σ : L2.St} {H : Hp} (P : L2.St → Prop) (h : ∀ σ2, P σ2 → u D σ2 H) (h1 : c → P (σ.set i (some v))) (h2 : ¬ c → P σ) :
    if c then tAsg (tC v) (gName i) { D with nx := u D } σ H else u D σ H := by
  by_cases hc : c
  · rw [if_pos hc]
    exact h _ (h1 hc)
  · rw [if_neg hc]
    exact h _ (h2 hc)
/-- a constant tuple of the module, by its data -/
def GC (K : PySem.W.Frag) (mg : Str → Option Value) (x : Str) (d : PyData) : Prop := ∃ (u : Value) (v : V), mg x = some u ∧ RelV v u ∧ Dp K (fun _ => Option.none) v d
theorem none_same (H : Hp) : Same (fun _ => Option.none) H := fun _ _ e => nomatch e
theorem kt_of {K : PySem.W.Frag} {a : Addr} {its : Array Value} {n : Nat} {dd : Option Addr} {sl : Array (Option Value)} {xs : List V} {ds : List PyData} (h : K.lookup a = some ⟨.type "tuple", dd, .seq its n, sl⟩) (hz : its.size ≤ 1000) (hv : Vals xs its.toList) (ha : DpAll K (fun _ => Option.none) xs ds) :
    Dp K (fun _ => Option.none) (.ref a) (.tuple ds) := .tup (.inr ⟨_, its, n, h, rfl, rfl, Nat.le_trans hz (by decide), hv⟩) ha
/-! ### list.extend(tuple) -/
section
open Builtin
theorem extT (l b : Addr) (xs ys : Array Value) (n k : Nat) (dd : Option Addr) (sl : Array (Option Value)) (hlong : ¬(!xs.isEmpty && Builtin.List.listTooLong (xs.size + ys.size)) = true) (h1 : xs.size ≤ sizeLine) (h2 : xs.size + ys.size ≤ sizeLine + 1) :
    Meets (Builtin.«list.extend» ⟨[.ref l, .ref b], []⟩) (fun _ R s => s.heap.get? l = some { cls := .type "list", dict := none, data := .seq xs n, slots := #[] } ∧ s.heap.get? b = some { cls := .type "tuple", dict := dd, data := .seq ys k, slots := sl } ∧ R (.ok (.ret Value.none)) { s with heap := s.heap.update l (Obj.mapSeq fun x => x ++ ys), toks := s.toks }) := by
  refine .of_wp fun prog w A R s h => ?_
  obtain ⟨hp, g, d, tk, os⟩ := s
  obtain ⟨ea, eb, q⟩ := h
  have i1 := AutoSeq1.idx_int
  have i2 := AutoSeq1.sub_tuple_tuple
  have i3 := AutoSeq1.sub_list_list
  have i4 := AutoSeq1.sub_tuple_list
  have i5 := AutoSeq1.sub_list_tuple
  have hz : (xs ++ ys).size ≤ sizeLine + 1 := by rw [Array.size_append]; exact h2
  wp_walk using (wpAny_updateSeq ea rfl (hz := h1) (_hz' := hz)), AutoSeq1.wpAny_loadPart' ea, AutoSeq1.wpAny_loadPart' eb
  exact ⟨_, rfl, q⟩
end
section
variable {X : Cx}
def rExtT (K : PySem.W.Frag) : V → List V → Hp → VK → Prop := fun x vs H Q => ∃ l b xs zs, x = .ref l ∧ vs = [.ref b] ∧ H l = some (.lst xs) ∧ SqT K H b zs ∧ xs.length + zs.length ≤ sizeLine ∧ Q .non (upd H l (.lst (xs ++ zs)))
theorem mt_extT : MtR X "list.extend" (rExtT X.K) := by
  intro pins s σ H x vs v us Q I rx rv h
  obtain ⟨l, b, xs, zs, rfl, rfl, hH, hB, hz, q⟩ := h
  cases rx
  obtain ⟨u, rfl, ru⟩ := rv.one
  cases ru
  obtain ⟨z, its, n, r, hl, e⟩ := I.lstM hH
  obtain ⟨its2, r2, ⟨⟨oc, od, dt, sl⟩, e2, ec, k2, ed⟩, _⟩ := I.tuple hB
  simp only at ec ed
  subst ec ed
  have z1 := r.length
  have z2 := r2.length
  have hsz : its.toArray.size + its2.toArray.size ≤ sizeLine := by rw [List.size_toArray, List.size_toArray]; omega
  have nl : ¬ (!its.toArray.isEmpty && Builtin.List.listTooLong (its.toArray.size + its2.toArray.size)) = true := by
    rw [notLongL hsz, Bool.and_false]
    exact Bool.false_ne_true
  refine call_meets F.slot_list_extend ⟨_, e, rfl⟩ F.entry_list_extend (F.args_list_extend_2 _ _) (extT l b its.toArray its2.toArray n k2 od sl nl (by rw [List.size_toArray]; omega) (by omega)) ⟨e, e2, ?_⟩
  refine ⟨.non, _, I.lset (its' := its ++ its2) hH e (by simp) (r.append r2) ?_, rfl, q⟩
  rw [List.length_append]
  omega
/-! ### x in (a, b, ..), data of any depth -/
def rInT (K : PySem.W.Frag) : R2 := fun x y H Q => ∃ d ds, Dp K H x d ∧ Dp K H y (.tuple ds) ∧ SeqAt.shaped d = true ∧ SeqAt.shaped (.tuple ds) = true ∧ Q (.bl (ds.any fun z => PyData.eqv z d)) H
def rNotInT (K : PySem.W.Frag) : R2 := fun x y H Q => ∃ d ds, Dp K H x d ∧ Dp K H y (.tuple ds) ∧ SeqAt.shaped d = true ∧ SeqAt.shaped (.tuple ds) = true ∧ Q (.bl (!ds.any fun z => PyData.eqv z d)) H
theorem op_inT (hu : X.A.units + 65 < cLine) : OpR X (compareOp .In) (rInT X.K) := by
  intro pins s σ H x y v u Q I rx ry h
  obtain ⟨d, ds, hd, he, sd, se, q⟩ := h
  obtain ⟨as, r1⟩ := Dp.reads I d x v hd rx
  obtain ⟨bs, r2⟩ := Dp.reads I (.tuple ds) y u he ry
  exact SeqAt.in_tuple_reads r2 r1 (SeqAt.canLay_of_shaped se) (SeqAt.canLay_of_shaped sd) (room_in_shaped sd hu) ⟨.bl _, H, I, rfl, q⟩
theorem op_notInT (hu : X.A.units + 65 < cLine) : OpR X (compareOp .NotIn) (rNotInT X.K) := by
  intro pins s σ H x y v u Q I rx ry h
  obtain ⟨d, ds, hd, he, sd, se, q⟩ := h
  obtain ⟨as, r1⟩ := Dp.reads I d x v hd rx
  obtain ⟨bs, r2⟩ := Dp.reads I (.tuple ds) y u he ry
  exact SeqAt.notIn_tuple_reads r2 r1 (SeqAt.canLay_of_shaped se) (SeqAt.canLay_of_shaped sd) (room_in_shaped sd hu) ⟨.bl _, H, I, rfl, q⟩
theorem units65 {k : Nat} {A : Around} (r : Room k A) : A.units + 65 < cLine := by
  have := r.un
  omega
end
section
variable {K : PySem.W.Frag} {H : Hp}
theorem DpAll.dropt : ∀ {xs : List V} {ds : List PyData} (n : Nat), DpAll K H xs ds → DpAll K H (xs.drop n) (ds.drop n)
  | _, _, 0, r => r
  | _, _, _ + 1, .nil => .nil
  | _, _, n + 1, .cons _ t => DpAll.dropt n t
theorem DpAll.taket : ∀ {xs : List V} {ds : List PyData} (n : Nat), DpAll K H xs ds → DpAll K H (xs.take n) (ds.take n)
  | _, _, 0, _ => .nil
  | _, _, _ + 1, .nil => .nil
  | _, _, n + 1, .cons r t => .cons r (DpAll.taket n t)
theorem DpAll.app : ∀ {xs ys : List V} {ds es : List PyData}, DpAll K H xs ds → DpAll K H ys es → DpAll K H (xs ++ ys) (ds ++ es)
  | _, _, _, _, .nil, r => r
  | _, _, _, _, .cons q t, r => .cons q (DpAll.app t r)
theorem DpAll.getV : ∀ {vs : List V} {ds : List PyData} {i : Nat} {v : V}, DpAll K H vs ds → vs[i]? = some v → ∃ d, ds[i]? = some d ∧ Dp K H v d
  | _, _, _, _, .nil, e => by simp at e
  | _, _, 0, _, .cons r _, e => by simp at e; subst e; exact ⟨_, rfl, r⟩
  | _, _, i + 1, _, .cons _ t, e => by
    obtain ⟨u, h1, h2⟩ := DpAll.getV (i := i) t (by simpa using e)
    exact ⟨u, by simpa using h1, h2⟩
end
/-- a part of a tuple, also the whole -/
theorem cut_nat (xs : List V) (i j : Nat) (h1 : i ≤ xs.length) (h2 : j ≤ xs.length) : cutV xs (some (i : Int)) (some (j : Int)) = (xs.drop i).take (j - i) := by
  unfold cutV
  rw [HT.sIx_nat, HT.sIx_nat, Nat.min_eq_left h1, Nat.min_eq_left h2]
theorem slA_nat {K : PySem.W.Frag} {H : Hp} {a : Addr} {xs : List V} {i j : Nat} {Q : VK} (hs : SqT K H a xs) (h1 : i ≤ xs.length) (h2 : j ≤ xs.length) (h : ∀ b H', Same H H' → SqT K H' b ((xs.drop i).take (j - i)) → (∀ c, H c = Option.none → c ≠ b → H' c = Option.none) → Q (.ref b) H') :
    rSlA K (.ref a) (some (i : Int)) (some (j : Int)) H Q := by
  refine ⟨a, xs, rfl, hs, fun z => ?_, fun z p np => ?_⟩
  · rw [HT.sIx_nat, HT.sIx_nat, Nat.min_eq_left h1, Nat.min_eq_left h2] at z
    refine h a H (Same.refl H) ?_ fun _ e _ => e
    rw [z.1, z.2, List.drop_zero, Nat.sub_zero, List.take_length]
    exact hs
  · rw [cut_nat xs i j h1 h2]
    exact h p _ (same_upd np) (SqT.of upd_same) fun c e hc => by rw [upd_ne hc]; exact e
theorem cat_dp {K : PySem.W.Frag} {H : Hp} {x y : V} {ds es : List PyData} {Q : VK} (hx : Dp K H x (.tuple ds)) (hy : Dp K H y (.tuple es)) (hne : ds ≠ []) (hz : ds.length + es.length ≤ 1000) (h : ∀ v H', Same H H' → Dp K H' v (.tuple (ds ++ es)) → Q v H') : rCatT K x y H Q := by
  cases hx with
  | @tup a xs _ sx ax =>
  cases hy with
  | @tup b ys _ sy ay =>
  have lx := DpAll.len ax
  have ly := DpAll.len ay
  refine ⟨a, b, xs, ys, rfl, rfl, sx, sy, fun z => ?_, small_of (by omega), fun z => ?_, fun z p np => ?_⟩
  · rw [z] at lx
    exact hne (List.eq_nil_of_length_eq_zero lx.symm)
  · subst z
    cases ay
    rw [List.append_nil] at h
    exact h _ H (Same.refl H) (.tup sx ax)
  · exact h _ _ (same_upd np) (.tup (SqT.of upd_same) (dp_sameAll (same_upd np) _ _ (DpAll.app ax ay)))
theorem cut_from1 (v : V) (xs : List V) : cutV (v :: xs) (some 1) Option.none = xs := by
  unfold cutV
  rw [show (some (1 : Int)) = some ((1 : Nat) : Int) from rfl, HT.sIx_nat, HT.sIx_none, List.length_cons, Nat.min_eq_left (by omega), List.drop_succ_cons, List.drop_zero, Nat.add_sub_cancel]
  exact List.take_length
section
variable {σ : L2.St} {H : Hp}
theorem args1 {t : TE} {ta : TA} {Q : List V → Hp → Prop} (h : t σ H fun x H1 => ta σ H1 fun xs H2 => Q (x :: xs) H2) : tCons t ta σ H Q := h
theorem tup_of {ta : TA} {Q : VK} (h : ta σ H fun xs H1 => xs.length ≤ sizeLine ∧ ∀ p, H1 p = Option.none → Q (.ref p) (upd H1 p (.tup xs))) : tTup ta σ H Q := h
theorem const_of {v : V} {Q : VK} (h : Q v H) : tC v σ H Q := h
theorem op_of {r : R2} {ta tb : TE} {Q : VK} (h : ta σ H fun x H1 => tb σ H1 fun y H2 => r x y H2 Q) : tOp r ta tb σ H Q := h
theorem nil_of {Q : List V → Hp → Prop} (h : Q [] H) : tNil σ H Q := h
end
section
variable {σ : L2.St} {H : Hp}
theorem call_of {sp : Sp} {dvs : List V} {E : XK} {t : TA} {Q : VK} (h : t σ H fun vs H1 => sp (vs ++ dvs) H1 Q E) : tCall sp dvs E t σ H Q := h
theorem args_and {r : R2} {sp : Sp} {dvs : List V} {E : XK} {t : TA} {tb tc : TE} {D : Ends} (h : t σ H fun vs H1 => sp (vs ++ dvs) H1 (fun x H1 => tb σ H1 fun y H2 => r x y H2 fun x H1 => ∃ c, x = .bl c ∧ if c = true then tc σ H1 D.rt else D.rt (.bl false) H1) E) : tRet (tAndV (tOp r (tCall sp dvs E t) tb) tc) D σ H := h
end
theorem relStr (x : Str) (t : Tok) : RelV (.str x) (.str x t) := ⟨_, rfl⟩
theorem relInt (i : Int) (t : Tok) : RelV (.int i) (.int i t) := ⟨_, rfl⟩
theorem relRef (a : Addr) : RelV (.ref a) (.ref a) := rfl
/-! ### a < b of data whose places are alike -/
section
variable {X : Cx}
def rLtD (K : PySem.W.Frag) : R2 := fun x y H Q => ∃ d e, Dp K H x d ∧ Dp K H y e ∧ PySem.W.alike d e = true ∧ d ≠ .none ∧ d.depth ≤ 8 ∧ Q (.bl (PySem.W.dataLt d e)) H
theorem op_ltD (hu : X.A.units + 64 < cLine) : OpR X (compareOp .Lt) (rLtD X.K) := by
  intro pins s σ H x y v u Q I rx ry h
  obtain ⟨d, e, hd, he, ha, hn, hz, q⟩ := h
  obtain ⟨as, r1⟩ := Dp.reads I d x v hd rx
  obtain ⟨bs, r2⟩ := Dp.reads I e y u he ry
  have R := PySem.W.rcLt_alike d e X.A s v u as bs r1 r2 ha hn (Nat.lt_of_le_of_lt (Nat.add_le_add_left (Nat.le_trans (Nat.min_le_left _ _) (Nat.le_trans hz (by decide : 8 ≤ 64))) _) hu)
  have z : wpAny (model X.prog X.w) X.A (compareOp .Lt v u) (EP X pins σ Q) X.xe s := R X.prog X.w X.xe (EP X pins σ Q) ⟨.bl _, H, I, rfl, q⟩
  exact z
end
/-! ### zip of two tuples -/
theorem walk_zipT {K : PySem.W.Frag} {a b : Addr} {xs ys : List V} {n : Nat} (hn : n = min xs.length ys.length) : Walk (RZ.ItzT K a b) n (fun H => SqT K H a xs ∧ SqT K H b ys) (YPair (fun i => xs[i]?) (fun i => ys[i]?)) := by
  subst hn
  refine ⟨fun i H hi q => ?_, fun H q => ⟨xs, ys, q.1, q.2, by omega⟩, fun i H v H' hi q y => ?_⟩
  · have h1 : i < xs.length := by omega
    have h2 : i < ys.length := by omega
    exact ⟨xs, ys, _, _, q.1, q.2, List.getElem?_eq_getElem h1, List.getElem?_eq_getElem h2⟩
  · obtain ⟨T, x, y, e1, e2, e3, e4, e5⟩ := y
    exact ⟨T, x, y, e1, e2, e3, e4 xs q.1, e5 ys q.2⟩
/-! ### () + t -/
section
open Builtin
theorem addE (l b : Addr) (xs ys : Array Value) (n k : Nat) (dd dd2 : Option Addr) (sl sl2 : Array (Option Value)) (he : xs.isEmpty = true) :
    Meets (Builtin.«tuple.__add__» ⟨[.ref l, .ref b], []⟩) (fun _ R s => s.heap.get? l = some { cls := .type "tuple", dict := dd, data := .seq xs n, slots := sl } ∧ s.heap.get? b = some { cls := .type "tuple", dict := dd2, data := .seq ys k, slots := sl2 } ∧ R (.ok (.ret (Value.ref b))) s) := by
  refine .of_wp fun prog w A R s h => ?_
  obtain ⟨hp, g, d, tk, os⟩ := s
  obtain ⟨ea, eb, q⟩ := h
  have i1 := AutoSeq1.idx_int
  have i2 := AutoSeq1.sub_tuple_tuple
  have i3 := AutoSeq1.sub_list_list
  have i4 := AutoSeq1.sub_tuple_list
  have i5 := AutoSeq1.sub_list_tuple
  wp_walk using AutoSeq1.wpAny_loadPart' ea, AutoSeq1.wpAny_loadPart' eb
  exact ⟨_, rfl, q⟩
end
section
variable {X : Cx}
def rCatA (K : PySem.W.Frag) : R2 := fun x y H Q => ∃ a b xs ys, x = .ref a ∧ y = .ref b ∧ SqT K H a xs ∧ SqT K H b ys ∧ xs.length + ys.length ≤ sizeLine ∧ (xs = [] → Q (.ref b) H) ∧ (ys = [] → Q (.ref a) H) ∧ ∀ p, H p = Option.none → Q (.ref p) (upd H p (.tup (xs ++ ys)))
theorem op_catA : OpR X (binaryOp .Add) (rCatA X.K) := by
  intro pins s σ H x y v u Q I rx ry h
  obtain ⟨a, b, xs, ys, rfl, rfl, ha, hb, hz, q1, q2, q3⟩ := h
  by_cases hx : xs = []
  · subst hx
    cases rx
    cases ry
    obtain ⟨its, r1, p1, _⟩ := I.tuple ha
    obtain ⟨its2, r2, p2, _⟩ := I.tuple hb
    cases r1
    obtain ⟨⟨oc, od, dt, sl⟩, e1, c1, n, d1⟩ := p1
    obtain ⟨⟨oc2, od2, dt2, sl2⟩, e2, c2, n2, d2⟩ := p2
    simp only at c1 d1 c2 d2
    subst c1 d1 c2 d2
    exact concat_meets ⟨_, e1, rfl⟩ ⟨_, e2, rfl⟩ noFill_tuple_add seq_tuple_add PySem.F.slot_tuple_add PySem.F.entry_tuple_add (PySem.F.args_tuple_add_2 _ _)
      (addE a b #[] its2.toArray n n2 od od2 sl sl2 rfl) ⟨e1, e2, ⟨.ref b, H, I, rfl, q1 rfl⟩⟩
  · exact op_catT pins s σ H (.ref a) (.ref b) v u Q I rx ry ⟨a, b, xs, ys, rfl, rfl, ha, hb, hx, hz, q2, fun _ p np => q3 p np⟩
end
section
variable {K : PySem.W.Frag} {G : Addr → Prop} {H : Hp}
theorem ImAll.dropt : ∀ {xs : List V} {ds : List PyData} (n : Nat), ImAll K G H xs ds → ImAll K G H (xs.drop n) (ds.drop n)
  | _, _, 0, r => r
  | _, _, _ + 1, .nil => .nil
  | _, _, n + 1, .cons _ t => ImAll.dropt n t
theorem ImAll.taket : ∀ {xs : List V} {ds : List PyData} (n : Nat), ImAll K G H xs ds → ImAll K G H (xs.take n) (ds.take n)
  | _, _, 0, _ => .nil
  | _, _, _ + 1, .nil => .nil
  | _, _, n + 1, .cons r t => .cons r (ImAll.taket n t)
theorem im_new {xs : List V} {ds : List PyData} {p : Addr} (np : H p = Option.none) (ia : ImAll K G H xs ds) : Im K (fun b => G b ∨ H b = Option.none) (upd H p (.tup xs)) (.ref p) (.tuple ds) :=
  .tup (.inr np) upd_same (Im.monoAll (fun b o _ e => same_upd np b o e) (fun _ g => .inl g) _ _ ia)
theorem im_cut {x : V} {ds es : List PyData} {lo hi : Option Int} {Q : VK} (iv : Im K G H x (.tuple ds)) (hc : ∀ xs : List V, ImAll K G H xs ds → ImAll K G H (cutV xs lo hi) es) (h : ∀ v H', Same H H' → (∀ b, G b ∨ H b = Option.none → G b ∨ H b = Option.none) → Im K (fun b => G b ∨ H b = Option.none) H' v (.tuple es) → Q v H') : rSlA K x lo hi H Q := by
  cases iv with
  | @tup a xs _ g e ia =>
  refine ⟨a, xs, rfl, SqT.of e, fun z => ?_, fun z p np => ?_⟩
  · have hw : cutV xs lo hi = xs := by
      unfold cutV
      rw [z.1, z.2, List.drop_zero, Nat.sub_zero, List.take_length]
    have := hc xs ia
    rw [hw] at this
    exact h _ H (Same.refl H) (fun _ q => q) (.tup (.inl g) e (Im.monoAll (fun _ _ _ e => e) (fun _ g => .inl g) _ _ this))
  · exact h _ _ (same_upd np) (fun _ q => q) (im_new np (hc xs ia))
theorem im_take {x : V} {ds : List PyData} {k : Nat} {Q : VK} (iv : Im K G H x (.tuple ds)) (hk : k ≤ ds.length) (h : ∀ v H', Same H H' → Im K (fun b => G b ∨ H b = Option.none) H' v (.tuple (ds.take k)) → Q v H') : rSlA K x Option.none (some (k : Int)) H Q :=
  im_cut iv (fun xs ia => by
    unfold cutV
    rw [HT.sIx_none, HT.sIx_nat, Nat.min_eq_left (by rw [ia.len]; exact hk), List.drop_zero, Nat.sub_zero]
    exact ImAll.taket _ ia) fun v H' s _ i => h v H' s i
theorem im_drop {x : V} {ds : List PyData} {k : Nat} {Q : VK} (iv : Im K G H x (.tuple ds)) (hk : k ≤ ds.length) (h : ∀ v H', Same H H' → Im K (fun b => G b ∨ H b = Option.none) H' v (.tuple (ds.drop k)) → Q v H') : rSlA K x (some (k : Int)) Option.none H Q :=
  im_cut iv (fun xs ia => by
    unfold cutV
    rw [HT.sIx_none, HT.sIx_nat, Nat.min_eq_left (by rw [ia.len]; exact hk), List.take_of_length_le (by rw [List.length_drop]; exact Nat.le_refl _)]
    exact ImAll.dropt _ ia) fun v H' s _ i => h v H' s i
theorem im_cat {x y : V} {ds es : List PyData} {Q : VK} (iv : Im K G H x (.tuple ds)) (iw : Im K G H y (.tuple es)) (hz : ds.length + es.length ≤ 1000) (h : ∀ v H', Same H H' → Im K (fun b => G b ∨ H b = Option.none) H' v (.tuple (ds ++ es)) → Q v H') : rCatA K x y H Q := by
  have w1 := Im.mono (G' := fun b => G b ∨ H b = Option.none) (fun _ _ _ e => e) (fun _ g => .inl g) _ _ iv
  have w2 := Im.mono (G' := fun b => G b ∨ H b = Option.none) (fun _ _ _ e => e) (fun _ g => .inl g) _ _ iw
  cases iv with
  | @tup a xs _ g e ia =>
  cases iw with
  | @tup b ys _ g2 e2 ib =>
  have l1 := ia.len
  have l2 := ib.len
  refine ⟨a, b, xs, ys, rfl, rfl, SqT.of e, SqT.of e2, small_of (by omega), fun z => ?_, fun z => ?_, fun p np => ?_⟩
  · subst z
    cases ia
    exact h _ H (Same.refl H) w2
  · subst z
    cases ib
    rw [List.append_nil] at h
    exact h _ H (Same.refl H) w1
  · exact h _ _ (same_upd np) (im_new np (ImAll.app ia ib))
end
end My
namespace My
open PySem PySem.Spec PyProof.Rows L2 SkE
/-! ### defs that may raise, and the program's own error classes -/
def HasX (P : Program) (w : World) (K : PySem.W.Frag) (mg : Str → Option Value) (base : Heap) (k : Nat) (x : Str) (ps : List Str) (sp : Sp) : Prop :=
  ∃ (f : Addr) (fd : FuncData), FnOk P w K mg base (L2.CX P w) k f fd ps sp ∧ mg x = some (.ref f) ∧ PySem.W.keepIn K (.ref f) = true ∧ Binds K fd ps []
/-- where the class of this name stands -/
def clsA (K : PySem.W.Frag) (x : Str) : Addr := match PySem.W.nsIn K mainGlobals x with
  | some (some (.ref C)) => C | _ => 0
theorem clsA_of {K : PySem.W.Frag} {x : Str} {C : Addr} (h : PySem.W.nsIn K mainGlobals x = some (some (.ref C))) : clsA K x = C := by
  unfold clsA
  rw [h]
structure Xc (K : PySem.W.Frag) (mg : Str → Option Value) (x : Str) (C : Addr) : Prop where
  gC : mg x = some (.ref C)
  xC : PySem.W.excIn K C [.type "ValueError", .type "Exception", .type "BaseException", .type "object"] "ValueError.__new__" = true
  kC : PySem.W.keepIn K (.ref C) = true
  bC : PySem.W.subIn K (.ref C) (.type "BaseException") = some true
  tC : PySem.W.typeIn K (.ref C) = some (.type "type")
  iC : PySem.W.isClsIn K C = true
theorem exm_pair {K : PySem.W.Frag} {T S : Addr} {b : Bool} (h1 : PySem.W.subIn K (.ref S) (.type "BaseException") = some true) (h2 : PySem.W.isClsIn K S = true) (h3 : PySem.W.typeIn K (.ref S) = some (.type "type")) (h4 : PySem.W.subIn K (.ref T) (.ref S) = some b) :
    PySem.W.exmOne K (.ref T) (.ref S) = some b := by
  have e1 : (PySem.W.subIn K (.ref S) (.type "BaseException") == some true) = true := by rw [h1] <;> rfl
  have e2 : ((PySem.W.clsIn K S).isSome && PySem.W.typeIn K (.ref S) == some (.type "type")) = true := by
    have h2' : (PySem.W.clsIn K S).isSome = true := h2
    rw [h2', h3] <;> rfl
  show (if (PySem.W.subIn K (.ref S) (.type "BaseException") == some true) = true then (if ((PySem.W.clsIn K S).isSome && PySem.W.typeIn K (.ref S) == some (.type "type")) = true then PySem.W.subIn K (.ref T) (.ref S) else none) else none) = some b
  rw [if_pos e1, if_pos e2]
  exact h4
theorem pss_under {X : Cx} {b : List Stmt} {t : TS} {P : Prop} (h : P → PSs X b t) : PSs X b (fun D σ H => P ∧ t D σ H) := ⟨fun pins s σ H D I ⟨p, q⟩ => (h p).run pins s σ H D I q⟩
end My

namespace My
open PySem PySem.Spec PyProof.Rows L2 SkE
/-! ### the text -/
def topS (i : Nat) : Stmt := PySem.Challenge.pw_hornbook_k36_definite_clauses.main.body.getD i (.Pass ⟨0, 0, 0, 0⟩)
abbrev s_is_symbol : Stmt := topS 5
abbrev N_is_symbol : List Str := ["node"]
theorem sc_is_symbol : FnScope N_is_symbol ["node"] (defScope s_is_symbol) := ⟨rfl, rfl, rfl, by decide +kernel, rfl, by decide +kernel, by decide +kernel⟩
abbrev s_arity_of : Stmt := topS 6
abbrev N_arity_of : List Str := ["node"]
theorem sc_arity_of : FnScope N_arity_of ["node"] (defScope s_arity_of) := ⟨rfl, rfl, rfl, by decide +kernel, rfl, by decide +kernel, by decide +kernel⟩
abbrev s_end_of : Stmt := topS 7
abbrev N_end_of : List Str := ["nodes", "start", "missing", "at"]
theorem sc_end_of : FnScope N_end_of ["nodes", "start"] (defScope s_end_of) := ⟨rfl, rfl, rfl, by decide +kernel, rfl, by decide +kernel, by decide +kernel⟩
abbrev s_is_control : Stmt := topS 14
abbrev N_is_control : List Str := ["name", "arity"]
theorem sc_is_control : FnScope N_is_control ["name", "arity"] (defScope s_is_control) := ⟨rfl, rfl, rfl, by decide +kernel, rfl, by decide +kernel, by decide +kernel⟩
abbrev s_is_built_in : Stmt := topS 15
abbrev N_is_built_in : List Str := ["name", "arity"]
theorem sc_is_built_in : FnScope N_is_built_in ["name", "arity"] (defScope s_is_built_in) := ⟨rfl, rfl, rfl, by decide +kernel, rfl, by decide +kernel, by decide +kernel⟩
abbrev s_split_clause : Stmt := topS 16
abbrev N_split_clause : List Str := ["clause", "end"]
theorem sc_split_clause : FnScope N_split_clause ["clause"] (defScope s_split_clause) := ⟨rfl, rfl, rfl, by decide +kernel, rfl, by decide +kernel, by decide +kernel⟩
abbrev s_check_goal : Stmt := topS 19
abbrev N_check_goal : List Str := ["term", "_", "name", "arity"]
theorem sc_check_goal : FnScope N_check_goal ["term"] (defScope s_check_goal) := ⟨rfl, rfl, rfl, by decide +kernel, rfl, by decide +kernel, by decide +kernel⟩
abbrev s_goals_of : Stmt := topS 20
abbrev N_goals_of : List Str := ["body", "goals", "at", "end"]
theorem sc_goals_of : FnScope N_goals_of ["body"] (defScope s_goals_of) := ⟨rfl, rfl, rfl, by decide +kernel, rfl, by decide +kernel, by decide +kernel⟩
abbrev s_head_and_goals : Stmt := topS 21
abbrev N_head_and_goals : List Str := ["clause", "head", "body"]
theorem sc_head_and_goals : FnScope N_head_and_goals ["clause"] (defScope s_head_and_goals) := ⟨rfl, rfl, rfl, by decide +kernel, rfl, by decide +kernel, by decide +kernel⟩
abbrev s__law_stream : Stmt := topS 23
abbrev N__law_stream : List Str := ["script", "mixed", "cell"]
theorem sc__law_stream : FnScope N__law_stream ["script"] (defScope s__law_stream) := ⟨rfl, rfl, rfl, by decide +kernel, rfl, by decide +kernel, by decide +kernel⟩
abbrev s__law_draw : Stmt := topS 24
abbrev N__law_draw : List Str := ["stream", "many", "value"]
theorem sc__law_draw : FnScope N__law_draw ["stream", "many"] (defScope s__law_draw) := ⟨rfl, rfl, rfl, by decide +kernel, rfl, by decide +kernel, by decide +kernel⟩
abbrev s__law_leaf : Stmt := topS 25
abbrev N__law_leaf : List Str := ["stream", "widest", "pick"]
theorem sc__law_leaf : FnScope N__law_leaf ["stream", "widest"] (defScope s__law_leaf) := ⟨rfl, rfl, rfl, by decide +kernel, rfl, by decide +kernel, by decide +kernel⟩
abbrev s__law_argument : Stmt := topS 26
abbrev N__law_argument : List Str := ["stream", "widest", "pick"]
theorem sc__law_argument : FnScope N__law_argument ["stream", "widest"] (defScope s__law_argument) := ⟨rfl, rfl, rfl, by decide +kernel, rfl, by decide +kernel, by decide +kernel⟩
abbrev s__law_atom_of : Stmt := topS 27
abbrev N__law_atom_of : List Str := ["stream", "widest", "pick", "rows"]
theorem sc__law_atom_of : FnScope N__law_atom_of ["stream", "widest"] (defScope s__law_atom_of) := ⟨rfl, rfl, rfl, by decide +kernel, rfl, by decide +kernel, by decide +kernel⟩
abbrev s__law_odd : Stmt := topS 28
abbrev N__law_odd : List Str := ["stream", "a", "names", "near", "pick", "name"]
theorem sc__law_odd : FnScope N__law_odd ["stream"] (defScope s__law_odd) := ⟨rfl, rfl, rfl, by decide +kernel, rfl, by decide +kernel, by decide +kernel⟩
abbrev s__law_goal : Stmt := topS 29
abbrev N__law_goal : List Str := ["term", "node", "control"]
theorem sc__law_goal : FnScope N__law_goal ["term"] (defScope s__law_goal) := ⟨rfl, rfl, rfl, by decide +kernel, rfl, by decide +kernel, by decide +kernel⟩
abbrev s__law_nested : Stmt := topS 30
abbrev N__law_nested : List Str := ["stream", "rows", "at", "both"]
theorem sc__law_nested : FnScope N__law_nested ["stream", "rows"] (defScope s__law_nested) := ⟨rfl, rfl, rfl, by decide +kernel, rfl, by decide +kernel, by decide +kernel⟩
abbrev s__law_part : Stmt := topS 31
abbrev N__law_part : List Str := ["stream", "odd"]
theorem sc__law_part : FnScope N__law_part ["stream", "odd"] (defScope s__law_part) := ⟨rfl, rfl, rfl, by decide +kernel, rfl, by decide +kernel, by decide +kernel⟩
abbrev s_law : Stmt := topS 32
abbrev N_law : List Str := ["script", "stream", "odd", "head", "rows", "k", "clause", "goals", "row", "right", "turn", "actual", "e"]
theorem sc_law : FnScope N_law ["script"] (defScope s_law) := ⟨rfl, rfl, rfl, by decide +kernel, rfl, by decide +kernel, by decide +kernel⟩
/-- names that the top leaves to the built-ins, and its constants -/
structure Bi (K : PySem.W.Frag) (mg : Str → Option Value) : Prop where
  x_NotDefinite : Xc K mg "NotDefinite" (clsA K "NotDefinite")
  x_HornbookError : Xc K mg "HornbookError" (clsA K "HornbookError")
  x_TooLarge : Xc K mg "TooLarge" (clsA K "TooLarge")
  e_NotDefinite_HornbookError : PySem.W.exmOne K (.ref (clsA K "NotDefinite")) (.ref (clsA K "HornbookError")) = some true
  k_NotDefinite : ExcC K (clsA K "NotDefinite")
  i_NotDefinite_NotDefinite : PySem.W.kitOne K (.ref (clsA K "NotDefinite")) (.ref (clsA K "NotDefinite")) = some true
  i_NotDefinite_TooLarge : PySem.W.kitOne K (.ref (clsA K "NotDefinite")) (.ref (clsA K "TooLarge")) = some false
  b_abs : mg "abs" = Option.none
  b_int : mg "int" = Option.none
  b_isinstance : mg "isinstance" = Option.none
  b_len : mg "len" = Option.none
  b_list : mg "list" = Option.none
  b_range : mg "range" = Option.none
  b_tuple : mg "tuple" = Option.none
  c_MOST_CLAUSE_NODES : GV mg "MOST_CLAUSE_NODES" (.int 200)
  c_TRUE : GC K mg "TRUE" (.tuple [.tuple [.str "f", .str "true", .int (0)]])
  c_CLAUSE_SYMBOL : GC K mg "CLAUSE_SYMBOL" (.tuple [.str "f", .str ":-", .int (2)])
  c_CONTROL : GC K mg "CONTROL" (.tuple [.tuple [.str "true", .int (0)], .tuple [.str "fail", .int (0)], .tuple [.str "!", .int (0)], .tuple [.str ",", .int (2)], .tuple [.str ";", .int (2)], .tuple [.str "->", .int (2)], .tuple [.str "\\+", .int (1)], .tuple [.str "call", .int (1)], .tuple [.str "call", .int (2)], .tuple [.str "call", .int (3)], .tuple [.str "call", .int (4)], .tuple [.str "call", .int (5)], .tuple [.str "call", .int (6)], .tuple [.str "call", .int (7)], .tuple [.str "call", .int (8)], .tuple [.str "catch", .int (3)], .tuple [.str "findall", .int (3)], .tuple [.str "throw", .int (1)]])
  c_BUILT_IN : GC K mg "BUILT_IN" (.tuple [.tuple [.str "=", .int (2)], .tuple [.str "\\=", .int (2)], .tuple [.str "==", .int (2)], .tuple [.str "\\==", .int (2)], .tuple [.str "@<", .int (2)], .tuple [.str "compare", .int (3)], .tuple [.str "var", .int (1)], .tuple [.str "nonvar", .int (1)], .tuple [.str "atom", .int (1)], .tuple [.str "integer", .int (1)], .tuple [.str "callable", .int (1)], .tuple [.str "functor", .int (3)], .tuple [.str "arg", .int (3)], .tuple [.str "=..", .int (2)], .tuple [.str "copy_term", .int (2)], .tuple [.str "sort", .int (2)], .tuple [.str "is", .int (2)], .tuple [.str "=:=", .int (2)], .tuple [.str "<", .int (2)], .tuple [.str "=<", .int (2)], .tuple [.str "write", .int (1)], .tuple [.str "nl", .int (0)], .tuple [.str "asserta", .int (1)], .tuple [.str "assertz", .int (1)], .tuple [.str "retract", .int (1)], .tuple [.str "tabled", .int (1)], .tuple [.str "solve", .int (2)]])
  c_CONJUNCTION : GC K mg "CONJUNCTION" (.tuple [.str "f", .str ",", .int (2)])

/-! ### names, nodes, terms -/
def okSign (c : Nat) : Bool := decide (32 ≤ c) && decide (c ≤ 126) && !decide (c = 37)
def okName (x : Str) : Bool := decide (1 ≤ x.length) && decide (x.length ≤ 40) && x.cps.toList.all okSign
def names20 : List Str := ["a", "b", "f", "g", "hello", "[]", "+", "-", ",", "it's", "X", "a b", "{}", ".", "=", "'", "aB_1", "!", "0", "lvjkuwnd"]
def signs : Str := (Str.ofString " !\"#$&'()*+,-./0123456789:;<=>?@ABCDEFGHIJKLMNOPQRSTUVWXYZ[\\]^_`") ++ (Str.ofString "abcdefghijklmnopqrstuvwxyz{|}~")
theorem names20_ok : names20.all okName = true := by decide +kernel
theorem signs_ok : signs.cps.toList.all okSign = true := by decide +kernel
theorem signs_len : signs.length = 94 := by decide +kernel
theorem join_ones (e : Str) (he : e.cps = #[]) : ∀ cs : List Nat, (Str.join e (cs.map fun c => ⟨#[c]⟩)).cps.toList = cs
  | [] => rfl
  | [c] => rfl
  | c :: d :: r => by
    have ih := join_ones e he (d :: r)
    show ((⟨#[c]⟩ : Str) ++ e ++ Str.join e ((d :: r).map fun c => (⟨#[c]⟩ : Str))).cps.toList = c :: d :: r
    show (#[c] ++ e.cps ++ (Str.join e ((d :: r).map fun c => (⟨#[c]⟩ : Str))).cps).toList = c :: d :: r
    rw [he, Array.toList_append, ih]
    rfl
inductive Nd (wd : Int) : PyData → Prop
  | v (n : Int) : 0 ≤ n → n < wd → Nd wd (.tuple [.str "v", .int n])
  | i (n : Int) : -(10 ^ 40) < n → n < 10 ^ 40 → Nd wd (.int n)
  | f (x : Str) (n : Int) : okName x = true → 0 ≤ n → n ≤ 8 → Nd wd (.tuple [.str "f", .str x, .int n])
def arN : PyData → Nat
  | .tuple [_, _, c] => (match c with | .int n => n.toNat | _ => 0) | _ => 0
/-- from m missing terms on, the nodes are just these terms -/
def Cls : Nat → List PyData → Prop
  | m, [] => m = 0
  | m, d :: r => 0 < m ∧ Cls (m - 1 + arN d) r
structure Term (wd : Int) (ds : List PyData) : Prop where
  cl : Cls 1 ds
  nd : ∀ d ∈ ds, Nd wd d
/-! ### the promises -/
def sp__law_stream (K : PySem.W.Frag) : Sp := fun vs H Q _ => ∃ (a : Addr) (ns : List Int), vs = [.ref a] ∧ SqL K H a (ns.map V.int) ∧ ns.length ≤ 63 ∧ ∀ s l H', H s = Option.none → H l = Option.none → Same H H' → Stm H' s l → Q (.ref s) H'
def sp__law_draw (K : PySem.W.Frag) : Sp := fun vs H Q _ => ∃ (s l : Addr) (n : Int), vs = [.ref s, .int n] ∧ Stm H s l ∧ 0 < n ∧ n.natAbs < 2 ^ 9000 ∧ ∀ r H', 0 ≤ r → r < n → But s H H' → Stm H' s l → Q (.int r) H'
/-! ### nodes -/
def isSymN : PyData → Bool
  | .tuple [_, _, _] => true | _ => false
def NdA (d : PyData) : Prop := ∃ wd, Nd wd d
/-- how many nodes m terms take -/
def tk : Nat → List PyData → Nat
  | _, [] => 0
  | m, d :: r => if m = 0 then 0 else 1 + tk (m - 1 + arN d) r
theorem tk_zero (l : List PyData) : tk 0 l = 0 := by
  cases l with
  | nil => rfl
  | cons d r => exact if_pos rfl
theorem tk_cons {m : Nat} (h : 0 < m) (d : PyData) (r : List PyData) : tk m (d :: r) = 1 + tk (m - 1 + arN d) r := if_neg (by omega)
theorem arN_nsym {d : PyData} (h : isSymN d = false) : arN d = 0 := by
  cases d with
  | tuple ds =>
    rcases ds with _ | ⟨a, _ | ⟨b, _ | ⟨c, _ | ⟨e, r⟩⟩⟩⟩
    · rfl
    · rfl
    · rfl
    · cases h
    · rfl
  | _ => rfl
theorem tk_le : ∀ (l : List PyData) (m : Nat), tk m l ≤ l.length
  | [], _ => Nat.le_refl 0
  | d :: r, m => by
    by_cases h : m = 0
    · subst h; rw [tk_zero]; exact Nat.zero_le _
    · rw [tk_cons (by omega)]
      have := tk_le r (m - 1 + arN d)
      rw [List.length_cons]
      omega
theorem tk_add : ∀ (l : List PyData) (j m : Nat), tk (j + m) l = tk j l + tk m (l.drop (tk j l))
  | [], j, m => by simp [tk]
  | d :: r, j, m => by
    by_cases h : j = 0
    · subst h
      rw [tk_zero, Nat.zero_add, Nat.zero_add, List.drop_zero]
    · rw [tk_cons (by omega), tk_cons (m := j) (by omega), show j + m - 1 + arN d = (j - 1 + arN d) + m by omega, tk_add r (j - 1 + arN d) m]
      rw [show 1 + tk (j - 1 + arN d) r = tk (j - 1 + arN d) r + 1 by omega, List.drop_succ_cons]
      omega
/-- the rest of what is closed is closed -/
theorem cls_drop : ∀ (l : List PyData) (k j : Nat), Cls k l → j ≤ k → Cls (k - j) (l.drop (tk j l))
  | [], k, j, h, hj => by
    have hk : k = 0 := h
    rw [List.drop_nil]
    show k - j = 0
    omega
  | d :: r, k, j, h, hj => by
    by_cases z : j = 0
    · subst z
      rw [tk_zero]
      exact h
    · rw [tk_cons (by omega), show 1 + tk (j - 1 + arN d) r = tk (j - 1 + arN d) r + 1 by omega, List.drop_succ_cons]
      have := cls_drop r (k - 1 + arN d) (j - 1 + arN d) h.2 (by omega)
      rwa [show k - 1 + arN d - (j - 1 + arN d) = k - j by omega] at this
theorem cls_take : ∀ (l : List PyData) (k j : Nat), Cls k l → j ≤ k → Cls j (l.take (tk j l))
  | [], k, j, h, hj => by
    have hk : k = 0 := h
    rw [List.take_nil]
    show j = 0
    omega
  | d :: r, k, j, h, hj => by
    by_cases z : j = 0
    · subst z
      rw [tk_zero]
      rfl
    · rw [tk_cons (by omega), show 1 + tk (j - 1 + arN d) r = tk (j - 1 + arN d) r + 1 by omega, List.take_succ_cons]
      exact ⟨by omega, cls_take r (k - 1 + arN d) (j - 1 + arN d) h.2 (by omega)⟩
theorem tk_take : ∀ (l : List PyData) (i j : Nat), i ≤ j → tk i (l.take (tk j l)) = tk i l
  | [], i, j, _ => by rw [List.take_nil]
  | d :: r, i, j, h => by
    by_cases z : i = 0
    · subst z
      rw [tk_zero, tk_zero]
    · rw [tk_cons (m := j) (by omega), show 1 + tk (j - 1 + arN d) r = tk (j - 1 + arN d) r + 1 by omega, List.take_succ_cons, tk_cons (by omega), tk_cons (by omega), tk_take r _ _ (by omega)]
theorem take_full : ∀ (l : List PyData) (k : Nat), Cls k l → l.take (tk k l) = l
  | [], _, _ => List.take_nil
  | d :: r, k, h => by
    rw [tk_cons h.1, show 1 + tk (k - 1 + arN d) r = tk (k - 1 + arN d) r + 1 by omega, List.take_succ_cons, take_full r _ h.2]
theorem cls_map : ∀ (ds es : List PyData) (m : Nat), es.map arN = ds.map arN → Cls m ds → Cls m es
  | [], [], m, _, h => h
  | [], e :: es, m, h, _ => by cases h
  | d :: ds, [], m, h, _ => by cases h
  | d :: ds, e :: es, m, h, hc => by
    rw [List.map_cons, List.map_cons] at h
    obtain ⟨h1, h2⟩ := List.cons.inj h
    exact ⟨hc.1, by rw [h1]; exact cls_map ds es _ h2 hc.2⟩
/-! ### nodes can be compared -/
theorem okName_cps {x : Str} (h : okName x = true) : PyData.strOk x = true := by
  unfold okName at h
  rw [Bool.and_eq_true] at h
  unfold PyData.strOk
  rw [← Array.all_toList]
  refine List.all_eq_true.mpr fun c hc => ?_
  have := List.all_eq_true.mp h.2 c hc
  unfold okSign at this
  simp only [Bool.and_eq_true, decide_eq_true_eq] at this
  exact decide_eq_true (by omega)
theorem nd_lay {d : PyData} (h : NdA d) : d.canLay0 = true ∧ d.depth ≤ 1 ∧ d.eqv d = true := by
  obtain ⟨wd, h⟩ := h
  cases h with
  | v n _ _ => exact ⟨by simp only [PyData.canLay0, PyData.canLayAll0]; decide +kernel, by simp [PyData.depth, PyData.depthAll], by simp only [PyData.eqv, PyData.eqvAll, beq_self_eq_true, Bool.and_self]⟩
  | i n _ _ => exact ⟨by simp only [PyData.canLay0], by simp [PyData.depth], by simp only [PyData.eqv, beq_self_eq_true]⟩
  | f x n hx _ _ => exact ⟨by simp only [PyData.canLay0, PyData.canLayAll0]; rw [okName_cps hx]; decide +kernel, by simp [PyData.depth, PyData.depthAll], by simp only [PyData.eqv, PyData.eqvAll, beq_self_eq_true, Bool.and_self]⟩
theorem nds_lay : ∀ {ds : List PyData}, (∀ d ∈ ds, NdA d) → PyData.canLayAll0 ds = true ∧ PyData.depthAll ds ≤ 1 ∧ PyData.eqvAll ds ds = true
  | [], _ => ⟨by simp only [PyData.canLayAll0], by simp [PyData.depthAll], by simp only [PyData.eqvAll]⟩
  | d :: r, h => by
    obtain ⟨a1, a2, a3⟩ := nd_lay (h d List.mem_cons_self)
    obtain ⟨b1, b2, b3⟩ := nds_lay (ds := r) fun e he => h e (List.mem_cons_of_mem _ he)
    refine ⟨by simp only [PyData.canLayAll0, a1, b1, Bool.and_self], ?_, by simp only [PyData.eqvAll, a3, b3, Bool.and_self]⟩
    simp only [PyData.depthAll]
    omega
theorem nd_shaped {d : PyData} (h : NdA d) : SeqAt.shaped d = true := by
  obtain ⟨a1, a2, _⟩ := nd_lay h
  show (d.canLay0 && decide (d.depth ≤ 64)) = true
  rw [a1, decide_eq_true (by omega)]
  rfl
theorem tup_shaped {ds : List PyData} (h : ∀ d ∈ ds, NdA d) : SeqAt.shaped (.tuple ds) = true := by
  obtain ⟨a1, a2, _⟩ := nds_lay h
  have hd : (PyData.tuple ds).depth ≤ 64 := by
    simp only [PyData.depth]
    omega
  have hc : (PyData.tuple ds).canLay0 = true := by
    simp only [PyData.canLay0]
    exact a1
  show ((PyData.tuple ds).canLay0 && decide ((PyData.tuple ds).depth ≤ 64)) = true
  rw [hc, decide_eq_true hd]
  rfl
theorem tup_eqv {ds : List PyData} (h : ∀ d ∈ ds, NdA d) : PyData.eqv (.tuple ds) (.tuple ds) = true := by
  simp only [PyData.eqv]
  exact (nds_lay h).2.2
/-- name = {k: v for ..} on one line, the name a local -/
theorem ps_setDc {X : Cx} {i : Nat} {y : Str} {py : Pos} {kx vx tg iter : Expr} {ifs : List Expr} {scope : Scope} {own : List (Str × Nat)} {pos spos : Pos} {wi : TI} {g : TG} {tt : TT} {tk tv : TE} (c1 : X.calm = true) (c2 : X.N.Nodup) (c3 : X.N[i]? = some y) (c4 : X.env.scope.names.lookup y = some .local)
    (c5 : swapsWith (.DictComp kx vx [⟨tg, iter, ifs, 0⟩] scope pos) (some (.Name y py)) spos.line X.env = pure true) (c6 : PI X tg iter wi) (c7 : BlkOk X.N X.env.scope scope own)
    (c8 : ∀ (z : Shared) (H : Hp) (C : Addr) (cl : List (Str × Addr)) (fp : List Addr), PG (X.blk z H scope (compEnvC scope cl C X.env) fp) tg g) (c9 : ∀ (z : Shared) (H : Hp) (C : Addr) (cl : List (Str × Addr)) (fp : List Addr), PTs (X.blk z H scope (compEnvC scope cl C X.env) fp) ifs tt)
    (d1 : ∀ (z : Shared) (H : Hp) (C : Addr) (cl : List (Str × Addr)) (fp : List Addr), PE (X.blk z H scope (compEnvC scope cl C X.env) fp) kx tk)
    (d2 : ∀ (z : Shared) (H : Hp) (C : Addr) (cl : List (Str × Addr)) (fp : List Addr), PE (X.blk z H scope (compEnvC scope cl C X.env) fp) vx tv) (d3 : ∀ x, foldedSetIterable iter X.env x = pure x := by intro _; rfl) :
    PS X (.Assign [.Name y py] (.DictComp kx vx [⟨tg, iter, ifs, 0⟩] scope pos) spos) (tAsg (tDc wi g tt tk tv (own.map (·.2))) (gName i)) := by
  refine ⟨fun pins st0 σ H D inv hyp => ?_⟩
  have hyp' : tDc wi g tt tk tv (own.map (·.2)) σ H (fun v Hq => gName i v σ Hq D.nx) := hyp
  rw [exec_Assign_Name_used _ _ _ _ c5]
  refine wpAny_bind <| wpAny_standAt <| wpAny_bind ?_
  show wpAny _ X.A (do let _ ← comprehension (.DictComp kx vx [⟨tg, iter, ifs, 0⟩] scope pos) scope X.env (firstIterPos [⟨tg, iter, ifs, 0⟩] pos) newDict false (eval iter X.env) (some (assign (.Name y py) X.env))) _ _ st0
  have core := dc_core (Qf := fun _ fin => SP X pins D .next fin) (pos := pos) (pos' := firstIterPos [⟨tg, iter, ifs, 0⟩] pos) (use := some (assign (.Name y py) X.env)) c1 c2 inv c6 c7 c8 c9 d1 d2 d3 hyp' fun L C fin mm Hf inv' qf nsC fp => by
    show wpAny _ _ (assign (.Name y py) X.env (.ref L)) _ _ _
    obtain ⟨e0, e1, e2, e3, e4, e5⟩ := fp
    refine wpAny_assign_Name (store_ok2 (v := V.ref L) inv' c2 c3 (.inl c4) rfl (fun fin2 inv2 ⟨w, same, hw⟩ => ?_) (.inr c4))
    have cw : C ≠ w := by
      intro z
      cases hw with
      | inl hw => exact e1 (z.trans hw)
      | inr hw => exact e4 y w hw z.symm
    exact ⟨mm, nsC.sameBut same cw, fun h3 sb3 => ⟨_, Hf, inv2.turned (t' := fin2.toks) (fun b o hb e => (sb3.2 b hb).trans e) e0 e1 e3 e4 e5, qf⟩⟩
  exact wpAny_bind (thn core fun _ fin hq => wpAny_pure (wpAny_pure hq))
theorem seq_via {t u : TS} {D : Ends} {σ : L2.St} {H : Hp} (P : L2.St → Hp → Prop) (hu : ∀ σ H, P σ H → u D σ H) (ht : (∀ σ H, P σ H → u D σ H) → t { D with nx := u D } σ H) : tSeq t u D σ H := ht hu
def isVarN : PyData → Bool
  | .tuple [_, _] => true | _ => false
def numN : PyData → Int
  | .tuple [_, .int n] => n | _ => 0
theorem var_arN {d : PyData} (h : isVarN d = true) : arN d = 0 := by
  cases d with
  | tuple ds =>
    rcases ds with _ | ⟨a, _ | ⟨b, _ | ⟨c, r⟩⟩⟩
    · rfl
    · rfl
    · rfl
    · cases h
  | _ => rfl
theorem nd_eq {d e : PyData} (h : NdA d) (h2 : NdA e) (q : PyData.eqv d e = true) : d = e := by
  obtain ⟨wd, h⟩ := h
  obtain ⟨we, h2⟩ := h2
  cases h with
  | v n _ _ =>
    cases h2 with
    | v m _ _ =>
      simp only [PyData.eqv, PyData.eqvAll, Bool.and_eq_true, beq_iff_eq] at q
      rw [q.2.1]
    | i m _ _ => simp [PyData.eqv] at q
    | f x m _ _ _ => simp [PyData.eqv, PyData.eqvAll] at q
  | i n _ _ =>
    cases h2 with
    | v m _ _ => simp [PyData.eqv] at q
    | i m _ _ =>
      simp only [PyData.eqv, beq_iff_eq] at q
      rw [q]
    | f x m _ _ _ => simp [PyData.eqv] at q
  | f x n _ _ _ =>
    cases h2 with
    | v m _ _ => simp [PyData.eqv, PyData.eqvAll] at q
    | i m _ _ => simp [PyData.eqv] at q
    | f y m _ _ _ =>
      simp only [PyData.eqv, PyData.eqvAll, Bool.and_eq_true, beq_iff_eq] at q
      rw [q.2.1, q.2.2.1]
theorem nds_eq : ∀ {ds es : List PyData}, (∀ d ∈ ds, NdA d) → (∀ e ∈ es, NdA e) → PyData.eqvAll ds es = true → ds = es
  | [], [], _, _, _ => rfl
  | [], _ :: _, _, _, h => by simp [PyData.eqvAll] at h
  | _ :: _, [], _, _, h => by simp [PyData.eqvAll] at h
  | d :: ds, e :: es, h1, h2, h => by
    simp only [PyData.eqvAll, Bool.and_eq_true] at h
    rw [nd_eq (h1 d List.mem_cons_self) (h2 e List.mem_cons_self) h.1, nds_eq (fun x hx => h1 x (List.mem_cons_of_mem _ hx)) (fun x hx => h2 x (List.mem_cons_of_mem _ hx)) h.2]
theorem tup_eq {ds es : List PyData} (h1 : ∀ d ∈ ds, NdA d) (h2 : ∀ e ∈ es, NdA e) (h : PyData.eqv (.tuple ds) (.tuple es) = true) : ds = es := by
  simp only [PyData.eqv] at h
  exact nds_eq h1 h2 h
theorem cls_app : ∀ (l r : List PyData) (j k : Nat), Cls j l → Cls k r → Cls (j + k) (l ++ r)
  | [], r, j, k, h, h2 => by
    have e : j = 0 := h
    rw [e, Nat.zero_add]
    exact h2
  | d :: l, r, j, k, h, h2 => by
    refine ⟨by have := h.1; omega, ?_⟩
    have := cls_app l r (j - 1 + arN d) k h.2 h2
    have e := h.1
    rwa [show j - 1 + arN d + k = j + k - 1 + arN d by omega] at this
/-- at each place of what is closed so many terms are missing -/
theorem cls_split : ∀ (ds : List PyData) (m i : Nat), Cls m ds → i ≤ ds.length → ∃ k, Cls k (ds.drop i) ∧ ∀ t, Cls k t → Cls m (ds.take i ++ t)
  | ds, m, 0, h, _ => ⟨m, h, fun t ht => ht⟩
  | [], m, i + 1, h, hi => absurd hi (by simp)
  | d :: ds, m, i + 1, h, hi => by
    obtain ⟨k, h1, h2⟩ := cls_split ds (m - 1 + arN d) i h.2 (by simpa using hi)
    exact ⟨k, h1, fun t ht => ⟨h.1, h2 t ht⟩⟩
abbrev Tab := List (Int × List PyData)
def valT (t : Tab) (n : Int) : Option (List PyData) := (t.find? fun p => decide (p.1 = n)).map (·.2)
/-- a dict with this table -/
def TabK (K : PySem.W.Frag) (H : Hp) : List (Key × V) → Tab → Prop
  | [], [] => True
  | p :: kvs, q :: t => p.1 = Sum.inl q.1 ∧ Dp K H p.2 (.tuple q.2) ∧ TabK K H kvs t
  | _, _ => False
def TabN (t : Tab) : Prop := ∀ p ∈ t, (∀ d ∈ p.2, NdA d)
theorem TabK.len {K : PySem.W.Frag} {H : Hp} : ∀ {kvs : List (Key × V)} {t : Tab}, TabK K H kvs t → kvs.length = t.length
  | [], [], _ => rfl
  | [], _ :: _, h => h.elim
  | _ :: _, [], h => h.elim
  | p :: kvs, q :: t, h => congrArg (· + 1) (TabK.len h.2.2)
theorem TabK.mono {K : PySem.W.Frag} {H H' : Hp} (f : ∀ v ds, (∀ d ∈ ds, NdA d) → Dp K H v (.tuple ds) → Dp K H' v (.tuple ds)) : ∀ {kvs : List (Key × V)} {t : Tab}, TabN t → TabK K H kvs t → TabK K H' kvs t
  | [], [], _, _ => True.intro
  | [], _ :: _, _, h => h.elim
  | _ :: _, [], _, h => h.elim
  | p :: kvs, q :: t, n, h => ⟨h.1, f _ _ (n q List.mem_cons_self) h.2.1, TabK.mono f (fun x hx => n x (List.mem_cons_of_mem _ hx)) h.2.2⟩
theorem TabK.val {K : PySem.W.Frag} {H : Hp} (n : Int) : ∀ {kvs : List (Key × V)} {t : Tab}, TabK K H kvs t → (valV kvs (Sum.inl n) = none ∧ valT t n = none) ∨ ∃ v ds, valV kvs (Sum.inl n) = some v ∧ valT t n = some ds ∧ Dp K H v (.tuple ds)
  | [], [], _ => .inl ⟨rfl, rfl⟩
  | [], _ :: _, h => h.elim
  | _ :: _, [], h => h.elim
  | p :: kvs, q :: t, h => by
    by_cases e : q.1 = n
    · refine .inr ⟨p.2, q.2, valV_pos (by rw [h.1, e]), ?_, h.2.1⟩
      unfold valT
      rw [List.find?_cons, decide_eq_true e]
      rfl
    · have e1 : ¬ p.1 = Sum.inl n := fun z => e (Sum.inl.inj (h.1.symm.trans z))
      have e2 : valT (q :: t) n = valT t n := by
        unfold valT
        rw [List.find?_cons, decide_eq_false e]
      rw [valV_neg e1, e2]
      exact TabK.val n h.2.2
theorem TabK.snoc {K : PySem.W.Frag} {H : Hp} {n : Int} {v : V} {ds : List PyData} (hd : Dp K H v (.tuple ds)) : ∀ {kvs : List (Key × V)} {t : Tab}, TabK K H kvs t → TabK K H (kvs ++ [(Sum.inl n, v)]) (t ++ [(n, ds)])
  | [], [], _ => ⟨rfl, hd, True.intro⟩
  | [], _ :: _, h => h.elim
  | _ :: _, [], h => h.elim
  | p :: kvs, q :: t, h => ⟨h.1, h.2.1, TabK.snoc hd h.2.2⟩
theorem valT_snoc (t : Tab) (n m : Int) (ds : List PyData) (h : valT t n = none) : valT (t ++ [(n, ds)]) m = if m = n then some ds else valT t m := by
  unfold valT at *
  rw [List.find?_append]
  cases e : t.find? fun p => decide (p.1 = m) with
  | some p =>
    have hm : ¬ m = n := fun z => by rw [z] at e; rw [e] at h; cases h
    rw [if_neg hm]
    rfl
  | none =>
    by_cases hm : m = n
    · rw [if_pos hm, Option.none_or]
      rw [List.find?_cons, decide_eq_true hm.symm]
      rfl
    · rw [if_neg hm, Option.none_or]
      rw [List.find?_cons, decide_eq_false (fun z => hm z.symm)]
      rfl
theorem valT_none {t : Tab} {n : Int} (h : valT t n = none) : ∀ q ∈ t, q.1 ≠ n := by
  intro q hq e
  unfold valT at h
  rw [Option.map_eq_none_iff, List.find?_eq_none] at h
  exact h q hq (decide_eq_true e)
mutual
def noL : PyData → Bool
  | .none => true
  | .bool _ => true
  | .int _ => true
  | .str _ => true
  | .tuple ds => noLA ds
  | .list _ => false
  | .dict _ => false
def noLA : List PyData → Bool
  | [] => true
  | d :: ds => noL d && noLA ds
end
def notTup (H : Hp) (p : Addr) : Prop := (∃ ys, H p = some (.lst ys)) ∨ (∃ kvs, H p = some (.dK kvs)) ∨ ∃ o kvs, H p = some (.frz o (.dK kvs))
theorem sqT_put {K : PySem.W.Frag} {H : Hp} {p b : Addr} {o : HO} {xs : List V} (hp : notTup H p) (h : SqT K H b xs) : SqT K (upd H p o) b xs := by
  rcases h with (h | ⟨q, h⟩) | h
  · exact .inl (.inl (by rw [upd_ne (fun z => by rw [z] at h; rcases hp with ⟨_, hp⟩ | ⟨_, hp⟩ | ⟨_, _, hp⟩ <;> (rw [hp] at h; cases h))]; exact h))
  · exact .inl (.inr ⟨q, by rw [upd_ne (fun z => by rw [z] at h; rcases hp with ⟨_, hp⟩ | ⟨_, hp⟩ | ⟨_, _, hp⟩ <;> (rw [hp] at h; cases h))]; exact h⟩)
  · exact .inr h
section
variable {K : PySem.W.Frag} {H : Hp} {p : Addr} {o : HO}
mutual
theorem dp_put (hp : notTup H p) : ∀ (d : PyData) (v : V), noL d = true → Dp K H v d → Dp K (upd H p o) v d
  | .none, _, _, h => by cases h; exact .non
  | .bool b, _, _, h => by cases h; exact .bl b
  | .int i, _, _, h => by cases h; exact .int i
  | .str x, _, _, h => by cases h; exact .str x
  | .list ds, _, n, h => by simp [noL] at n
  | .tuple ds, _, n, h => by
    cases h with
    | tup g ha => exact .tup (sqT_put hp g) (dp_putAll hp ds _ (by simpa [noL] using n) ha)
  | .dict _, _, n, h => by cases h
theorem dp_putAll (hp : notTup H p) : ∀ (ds : List PyData) (vs : List V), noLA ds = true → DpAll K H vs ds → DpAll K (upd H p o) vs ds
  | [], _, _, h => by cases h; exact .nil
  | d :: ds, _, n, h => by
    rw [noLA, Bool.and_eq_true] at n
    cases h with
    | cons h1 h2 => exact .cons (dp_put hp d _ n.1 h1) (dp_putAll hp ds _ n.2 h2)
end
end
theorem nd_noL {d : PyData} (h : NdA d) : noL d = true := by
  obtain ⟨wd, h⟩ := h
  cases h <;> simp [noL, noLA]
theorem nds_noL : ∀ {ds : List PyData}, (∀ d ∈ ds, NdA d) → noLA ds = true
  | [], _ => by simp [noLA]
  | d :: r, h => by rw [noLA, nd_noL (h d List.mem_cons_self), nds_noL fun e he => h e (List.mem_cons_of_mem _ he)]; rfl
theorem tup_noL {ds : List PyData} (h : ∀ d ∈ ds, NdA d) : noL (.tuple ds) = true := by rw [noL]; exact nds_noL h
theorem tab_put {K : PySem.W.Frag} {H : Hp} {p : Addr} {o : HO} {kvs : List (Key × V)} {t : Tab} (hp : notTup H p) (n : TabN t) (h : TabK K H kvs t) : TabK K (upd H p o) kvs t := TabK.mono (fun v ds hn hd => dp_put hp _ _ (tup_noL hn) hd) n h
theorem tab_same {K : PySem.W.Frag} {H H' : Hp} {kvs : List (Key × V)} {t : Tab} (s : Same H H') (n : TabN t) (h : TabK K H kvs t) : TabK K H' kvs t := TabK.mono (fun v ds _ hd => dp_same s _ _ hd) n h
section
variable {K : PySem.W.Frag} {H H' : Hp}
mutual
theorem dp_map (f : ∀ b xs, SqT K H b xs → SqT K H' b xs) : ∀ (d : PyData) (v : V), noL d = true → Dp K H v d → Dp K H' v d
  | .none, _, _, h => by cases h; exact .non
  | .bool b, _, _, h => by cases h; exact .bl b
  | .int i, _, _, h => by cases h; exact .int i
  | .str x, _, _, h => by cases h; exact .str x
  | .list ds, _, n, h => by simp [noL] at n
  | .tuple ds, _, n, h => by
    cases h with
    | tup g ha => exact .tup (f _ _ g) (dp_mapAll f ds _ (by simpa [noL] using n) ha)
  | .dict _, _, n, h => by cases h
theorem dp_mapAll (f : ∀ b xs, SqT K H b xs → SqT K H' b xs) : ∀ (ds : List PyData) (vs : List V), noLA ds = true → DpAll K H vs ds → DpAll K H' vs ds
  | [], _, _, h => by cases h; exact .nil
  | d :: ds, _, n, h => by
    rw [noLA, Bool.and_eq_true] at n
    cases h with
    | cons h1 h2 => exact .cons (dp_map f d _ n.1 h1) (dp_mapAll f ds _ n.2 h2)
end
theorem sqT_but {p b : Addr} {xs : List V} (hp : notTup H p) (hb : But p H H') (h : SqT K H b xs) : SqT K H' b xs := by
  rcases h with (h | ⟨q, h⟩) | h
  · exact .inl (.inl (hb _ _ (fun z => by rw [z] at h; rcases hp with ⟨_, hp⟩ | ⟨_, hp⟩ | ⟨_, _, hp⟩ <;> (rw [hp] at h; cases h)) h))
  · exact .inl (.inr ⟨q, hb _ _ (fun z => by rw [z] at h; rcases hp with ⟨_, hp⟩ | ⟨_, hp⟩ | ⟨_, _, hp⟩ <;> (rw [hp] at h; cases h)) h⟩)
  · exact .inr h
/-- draws change the stream alone -/
theorem dp_but {s l : Addr} {v : V} {ds : List PyData} (S : Stm H s l) (b : But s H H') (n : ∀ d ∈ ds, NdA d) (h : Dp K H v (.tuple ds)) : Dp K H' v (.tuple ds) := by
  obtain ⟨x, y, m, ns, e, _⟩ := S.ex
  exact dp_map (fun c xs g => sqT_but (.inl ⟨_, e⟩) b g) _ _ (tup_noL n) h
end
theorem TabK.rep {K : PySem.W.Frag} {H : Hp} {n : Int} {v : V} {ds : List PyData} (hd : Dp K H v (.tuple ds)) : ∀ {kvs : List (Key × V)} {t : Tab}, TabK K H kvs t → TabK K H (kvs.map fun kv => if kv.1 = Sum.inl n then (kv.1, v) else kv) (t.map fun q => if q.1 = n then (q.1, ds) else q)
  | [], [], _ => True.intro
  | [], _ :: _, h => h.elim
  | _ :: _, [], h => h.elim
  | p :: kvs, q :: t, h => by
    have i : p.1 = Sum.inl n ↔ q.1 = n := by rw [h.1]; exact ⟨fun z => Sum.inl.inj z, fun z => congrArg _ z⟩
    refine ⟨?_, ?_, TabK.rep hd h.2.2⟩
    · by_cases e : q.1 = n
      · simp only [if_pos e, if_pos (i.mpr e)]; exact h.1
      · simp only [if_neg e, if_neg (fun z => e (i.mp z))]; exact h.1
    · by_cases e : q.1 = n
      · simp only [if_pos e, if_pos (i.mpr e)]; exact hd
      · simp only [if_neg e, if_neg (fun z => e (i.mp z))]; exact h.2.1
theorem TabK.put {K : PySem.W.Frag} {H : Hp} {n : Int} {v : V} {ds : List PyData} (hd : Dp K H v (.tuple ds)) {kvs : List (Key × V)} {t : Tab} (h : TabK K H kvs t) : ∃ t', TabK K H (putK kvs (Sum.inl n) v) t' ∧ (∀ q ∈ t', q ∈ t ∨ q.2 = ds) ∧ t'.length ≤ t.length + 1 := by
  unfold putK
  split
  · refine ⟨_, TabK.rep hd h, fun q hq => ?_, by rw [List.length_map]; exact Nat.le_succ _⟩
    obtain ⟨q', h1, h2⟩ := List.mem_map.mp hq
    split at h2
    · right; rw [← h2]
    · left; rw [← h2]; exact h1
  · refine ⟨_, TabK.snoc hd h, fun q hq => ?_, by rw [List.length_append]; exact Nat.le_refl _⟩
    rcases List.mem_append.mp hq with z | z
    · exact .inl z
    · right; rw [List.mem_singleton.mp z]
theorem TabK.at_ {K : PySem.W.Frag} {H : Hp} : ∀ {kvs : List (Key × V)} {t : Tab} {i : Nat} {k : Key} {v : V}, TabK K H kvs t → kvs[i]? = some (k, v) → ∃ q, q ∈ t ∧ k = Sum.inl q.1
  | [], [], i, k, v, _, h => by simp at h
  | [], _ :: _, _, _, _, h, _ => h.elim
  | _ :: _, [], _, _, _, h, _ => h.elim
  | p :: kvs, q :: t, 0, k, v, h, e => by
    rw [List.getElem?_cons_zero] at e
    cases e
    exact ⟨q, List.mem_cons_self, h.1⟩
  | p :: kvs, q :: t, i + 1, k, v, h, e => by
    rw [List.getElem?_cons_succ] at e
    obtain ⟨q', h1, h2⟩ := TabK.at_ h.2.2 e
    exact ⟨q', List.mem_cons_of_mem _ h1, h2⟩
theorem valT_of {t : Tab} {q : Int × List PyData} (h : q ∈ t) : ∃ ds, valT t q.1 = some ds := by
  cases e : valT t q.1 with
  | some ds => exact ⟨ds, rfl⟩
  | none => exact absurd rfl (valT_none e q h)
theorem putK_old {kvs : List (Key × V)} {k : Key} {v w : V} (h : valV kvs k = some w) : putK kvs k v = kvs.map fun kv => if kv.1 = k then (kv.1, v) else kv := by
  unfold putK
  rw [if_pos (by rw [valV_any, h]; rfl)]
theorem valT_mem {t : Tab} {n : Int} {ds : List PyData} (h : valT t n = some ds) : ∃ q ∈ t, q.2 = ds := by
  unfold valT at h
  cases e : t.find? fun p => decide (p.1 = n) with
  | none => rw [e] at h; cases h
  | some p =>
    rw [e] at h
    exact ⟨p, List.mem_of_find?_eq_some e, Option.some.inj h⟩
/-- a dict comprehension over what is walked -/
theorem dc_it {J : It} {n : Nat} {G : Hp → Prop} {Y : Nat → Hp → V → Hp → Prop} (wk : Walk J n G Y) {g : TG} {tt : TT} {tk tv : TE} {vs : List Nat} {σ : L2.St} {H1 : Hp} {D : Addr} {Qd : Hp → Prop} (Pv : Nat → Hp → Prop) (p0 : Pv 0 (upd H1 D (.dK []))) (pG : ∀ i H, i ≤ n → Pv i H → G H)
    (turn : ∀ i x H H', i < n → Pv i H → Y i H x H' → g x (wipe σ vs) H' fun σ2 H2 => wipe σ2 vs = wipe σ vs ∧ tt σ2 H2 fun b H3 =>
      if b = true then tk σ2 H3 fun y H4 => tv σ2 H4 fun z H5 => ∃ kvs k, y = kV k ∧ H5 D = some (.dK kvs) ∧ kvs.length < sizeLine ∧ Pv (i + 1) (upd H5 D (.dK (putK kvs k z))) else Pv (i + 1) H3) (pd : ∀ H, Pv n H → Qd H) :
    ∃ W : Nat → Nat → Hp → Prop, (∃ m, W 0 m (upd H1 D (.dK []))) ∧ ∀ i m H, W i m H →
      (J.stop i H ∧ Qd H) ∨ (J.go i H ∧ ∃ Nx : Hp → Prop, (∀ H', Nx H' → ∃ m', m' < m ∧ W (i + 1) m' H') ∧ ∀ x H', J.yld i H x H' → g x (wipe σ vs) H' fun σ2 H2 => wipe σ2 vs = wipe σ vs ∧ tt σ2 H2 fun b H3 =>
        if b = true then tk σ2 H3 fun y H4 => tv σ2 H4 fun z H5 => ∃ kvs k, y = kV k ∧ H5 D = some (.dK kvs) ∧ kvs.length < sizeLine ∧ Nx (upd H5 D (.dK (putK kvs k z))) else Nx H3) := by
  refine ⟨fun i m H => m = n - i ∧ i ≤ n ∧ Pv i H, ⟨n, by simp, Nat.zero_le _, p0⟩, ?_⟩
  rintro i m H ⟨rfl, hi, hp⟩
  have hg := pG i H hi hp
  rcases Nat.lt_or_ge i n with hlt | hge
  · exact .inr ⟨wk.goes i H hlt hg, Pv (i + 1), fun σ' p' => ⟨n - (i + 1), by omega, rfl, hlt, p'⟩, fun x H' y => turn i x H H' hlt hp (wk.yields i H x H' hlt hg y)⟩
  · obtain rfl : i = n := by omega
    exact .inl ⟨wk.stops H hg, pd H hp⟩
theorem TabK.get {K : PySem.W.Frag} {H : Hp} : ∀ {kvs : List (Key × V)} {t : Tab} {i : Nat} {kv : Key × V}, TabK K H kvs t → kvs[i]? = some kv → ∃ q, t[i]? = some q ∧ kv.1 = Sum.inl q.1 ∧ Dp K H kv.2 (.tuple q.2)
  | [], [], i, kv, _, h => by simp at h
  | [], _ :: _, _, _, h, _ => h.elim
  | _ :: _, [], _, _, h, _ => h.elim
  | p :: kvs, q :: t, 0, kv, h, e => by
    rw [List.getElem?_cons_zero] at e
    cases e
    exact ⟨q, rfl, h.1, h.2.1⟩
  | p :: kvs, q :: t, i + 1, kv, h, e => by
    rw [List.getElem?_cons_succ] at e
    obtain ⟨q', h1, h2⟩ := TabK.get h.2.2 e
    exact ⟨q', by rw [List.getElem?_cons_succ]; exact h1, h2⟩
theorem valT_notin {t : Tab} {n : Int} (h : n ∉ t.map (·.1)) : valT t n = none := by
  unfold valT
  rw [Option.map_eq_none_iff, List.find?_eq_none]
  exact fun q hq e => h (List.mem_map.mpr ⟨q, hq, of_decide_eq_true e⟩)
theorem TabK.none {K : PySem.W.Frag} {H : Hp} {kvs : List (Key × V)} {t : Tab} {n : Int} (T : TabK K H kvs t) (h : n ∉ t.map (·.1)) : valV kvs (Sum.inl n) = Option.none := by
  rcases TabK.val n T with ⟨w, _⟩ | ⟨v, ds, _, w, _⟩
  · exact w
  · rw [valT_notin h] at w; cases w
theorem TabK.some {K : PySem.W.Frag} {H : Hp} {kvs : List (Key × V)} {t : Tab} {n : Int} (T : TabK K H kvs t) (h : n ∈ t.map (·.1)) : (valV kvs (Sum.inl n)).isSome = true := by
  obtain ⟨q, hq, rfl⟩ := List.mem_map.mp h
  rcases TabK.val q.1 T with ⟨_, w⟩ | ⟨v, ds, w, _, _⟩
  · exact absurd rfl (valT_none w q hq)
  · rw [w]; rfl
/-- a key that is new goes to the end -/
theorem TabK.add {K : PySem.W.Frag} {H : Hp} {kvs : List (Key × V)} {t : Tab} {n : Int} {v : V} {ds : List PyData} (T : TabK K H kvs t) (h : n ∉ t.map (·.1)) (hd : Dp K H v (.tuple ds)) : TabK K H (putK kvs (Sum.inl n) v) (t ++ [(n, ds)]) := by
  rw [putK_new _ (T.none h)]
  exact TabK.snoc hd T
/-- the i-th key is none of those before -/
theorem nodup_new {t : Tab} {i : Nat} {q : Int × List PyData} (h : (t.map (·.1)).Nodup) (hq : t[i]? = some q) : q.1 ∉ (t.take i).map (·.1) := by
  intro hm
  obtain ⟨x, hx, e⟩ := List.mem_map.mp hm
  obtain ⟨j, hj⟩ := List.getElem?_of_mem hx
  have hji : j < i := by
    have := (List.getElem?_eq_some_iff.mp hj).1
    rw [List.length_take] at this
    omega
  rw [List.getElem?_take_of_lt hji] at hj
  have a1 : (t.map (·.1))[j]? = some q.1 := by rw [List.getElem?_map, hj, ← e]; rfl
  have a2 : (t.map (·.1))[i]? = some q.1 := by rw [List.getElem?_map, hq]; rfl
  have b1 := (List.getElem?_eq_some_iff.mp a1).1
  have := (List.getElem?_inj b1 h).mp (a1.trans a2.symm)
  omega
/-! ### substitutions -/
def varN (n : Int) : List PyData := [.tuple [.str "v", .int n]]
def appN (t : Tab) (d : PyData) : List PyData := if isVarN d = true then (match valT t (numN d) with | some w => w | none => [d]) else [d]
def appM (t : Tab) (ds : List PyData) : List PyData := ds.flatMap (appN t)
/-- a value that is the key itself falls out -/
def keepN (n : Int) (w : List PyData) : Option (List PyData) := if PyData.eqv (.tuple w) (.tuple (varN n)) = true then none else some w
def compV (t u : Tab) (n : Int) : Option (List PyData) :=
  match valT t n with
  | some w => keepN n (appM u w)
  | none => (match valT u n with | some w => keepN n w | none => none)
theorem var_form {d : PyData} (h : NdA d) (v : isVarN d = true) : ∃ n, d = .tuple [.str "v", .int n] := by
  obtain ⟨wd, nd⟩ := h
  cases nd with
  | v n _ _ => exact ⟨n, rfl⟩
  | i n _ _ => cases v
  | f x n _ _ _ => cases v
theorem var_nd {n : Int} (h : 0 ≤ n) : ∀ d ∈ varN n, NdA d := fun d hd => ⟨n + 1, by rw [List.mem_singleton.mp hd]; exact .v n h (by omega)⟩
theorem valT_nd {t : Tab} {n : Int} {w : List PyData} (ht : TabN t) (h : valT t n = some w) : ∀ d ∈ w, NdA d := by
  obtain ⟨q, hq, e⟩ := valT_mem h
  rw [← e]
  exact ht q hq
theorem appN_nd {t : Tab} (ht : TabN t) {d : PyData} (hd : NdA d) : ∀ e ∈ appN t d, NdA e := by
  unfold appN
  by_cases v : isVarN d = true
  · rw [if_pos v]
    cases e : valT t (numN d) with
    | some w => exact valT_nd ht e
    | none => exact fun e he => by rw [List.mem_singleton.mp he]; exact hd
  · rw [if_neg v]
    exact fun e he => by rw [List.mem_singleton.mp he]; exact hd
theorem appM_nd {t : Tab} (ht : TabN t) {ds : List PyData} (hd : ∀ d ∈ ds, NdA d) : ∀ e ∈ appM t ds, NdA e := fun e he => by
  obtain ⟨d, h1, h2⟩ := List.mem_flatMap.mp he
  exact appN_nd ht (hd d h1) e h2
theorem var_num {d : PyData} (h : NdA d) (v : isVarN d = true) : ∃ n, 0 ≤ n ∧ d = .tuple [.str "v", .int n] := by
  obtain ⟨wd, nd⟩ := h
  cases nd with
  | v n h1 _ => exact ⟨n, h1, rfl⟩
  | i n _ _ => cases v
  | f x n _ _ _ => cases v
theorem comp_app {t u c : Tab} (nt : TabN t) (nu : TabN u) (hc : ∀ n, valT c n = compV t u n) {ds : List PyData} (nd : ∀ d ∈ ds, NdA d) : appM c ds = appM u (appM t ds) := by
  unfold appM
  rw [List.flatMap_assoc]
  have h : ∀ d ∈ ds, appN c d = (appN t d).flatMap (appN u) := by
    intro d hd
    by_cases v : isVarN d = true
    · obtain ⟨n, n0, rfl⟩ := var_num (nd d hd) v
      have e1 : ∀ s : Tab, appN s (.tuple [.str "v", .int n]) = (match valT s n with | some w => w | none => varN n) := fun s => by
        unfold appN
        rw [if_pos v]
        rfl
      rw [e1, e1, hc n]
      unfold compV
      cases ht : valT t n with
      | some w =>
        simp only
        unfold keepN
        by_cases hk : PyData.eqv (.tuple (appM u w)) (.tuple (varN n)) = true
        · rw [if_pos hk]
          exact (tup_eq (appM_nd nu (valT_nd nt ht)) (var_nd n0) hk).symm
        · rw [if_neg hk]
          rfl
      | none =>
        simp only
        have e2 : (varN n).flatMap (appN u) = (match valT u n with | some w => w | none => varN n) := by
          unfold varN
          rw [List.flatMap_cons, List.flatMap_nil, List.append_nil]
          exact e1 u
        rw [e2]
        cases hu : valT u n with
        | some w =>
          simp only
          unfold keepN
          by_cases hk : PyData.eqv (.tuple w) (.tuple (varN n)) = true
          · rw [if_pos hk]
            exact (tup_eq (valT_nd nu hu) (var_nd n0) hk).symm
          · rw [if_neg hk]
        | none => rfl
    · have e3 : ∀ s : Tab, appN s d = [d] := fun s => if_neg v
      rw [e3, e3, List.flatMap_cons, List.flatMap_nil, List.append_nil, e3]
  clear hc
  induction ds with
  | nil => rfl
  | cons d r ih =>
    rw [List.flatMap_cons, List.flatMap_cons, h d List.mem_cons_self, ih (fun x hx => nd x (List.mem_cons_of_mem _ hx)) fun x hx => h x (List.mem_cons_of_mem _ hx)]
theorem appM_take {t : Tab} {ds : List PyData} {i : Nat} {d : PyData} (h : ds[i]? = some d) : appM t (ds.take (i + 1)) = appM t (ds.take i) ++ appN t d := by
  unfold appM
  rw [List.take_add_one, h, List.flatMap_append]
  show _ ++ (appN t d ++ []) = _
  rw [List.append_nil]
theorem appN_non {t : Tab} {d : PyData} (v : ¬ isVarN d = true) : appN t d = [d] := if_neg v
theorem appN_out {t : Tab} {n : Int} (h : valT t n = none) : appN t (.tuple [.str "v", .int n]) = [.tuple [.str "v", .int n]] := by
  unfold appN
  rw [if_pos (show isVarN (.tuple [.str "v", .int n]) = true from rfl), show numN (.tuple [.str "v", .int n]) = n from rfl, h]
theorem appN_in {t : Tab} {n : Int} {w : List PyData} (h : valT t n = some w) : appN t (.tuple [.str "v", .int n]) = w := by
  unfold appN
  rw [if_pos (show isVarN (.tuple [.str "v", .int n]) = true from rfl), show numN (.tuple [.str "v", .int n]) = n from rfl, h]
/-- the composed table: the first one's values with the second applied, then what the second adds, without a key that is its own value -/
def comp1 (t u : Tab) : Tab := t.map fun x => (x.1, appM u x.2)
def newK (t : Tab) (x : Int × List PyData) : Bool := !(decide (x.1 ∈ t.map (·.1)))
def notOwn (x : Int × List PyData) : Bool := !PyData.eqv (.tuple x.2) (.tuple (varN x.1))
def compT (t u : Tab) : Tab := (comp1 t u ++ u.filter (newK t)).filter notOwn
theorem comp1_keys (t u : Tab) : (comp1 t u).map (·.1) = t.map (·.1) := by unfold comp1; rw [List.map_map]; rfl
theorem comp1_nd {t u : Tab} (ht : TabN t) (hu : TabN u) : TabN (comp1 t u) := fun x hx => by
  obtain ⟨q, h1, rfl⟩ := List.mem_map.mp hx
  exact appM_nd hu (ht q h1)
/-! ### definite clauses -/
theorem cat_dpA {K : PySem.W.Frag} {H : Hp} {x y : V} {ds es : List PyData} {Q : VK} (hx : Dp K H x (.tuple ds)) (hy : Dp K H y (.tuple es)) (hz : ds.length + es.length ≤ 1000) (h : ∀ v H', Same H H' → Dp K H' v (.tuple (ds ++ es)) → Q v H') : rCatA K x y H Q := by
  have hx0 := hx
  have hy0 := hy
  cases hx with
  | @tup a xs _ sx ax =>
  cases hy with
  | @tup b ys _ sy ay =>
  have lx := DpAll.len ax
  have ly := DpAll.len ay
  refine ⟨a, b, xs, ys, rfl, rfl, sx, sy, small_of (by omega), fun z => ?_, fun z => ?_, fun p np => ?_⟩
  · subst z
    cases ax
    exact h _ H (Same.refl H) hy0
  · subst z
    cases ay
    rw [List.append_nil] at h
    exact h _ H (Same.refl H) hx0
  · exact h _ _ (same_upd np) (.tup (SqT.of upd_same) (dp_sameAll (same_upd np) _ _ (DpAll.app ax ay)))
theorem dp_cut {K : PySem.W.Frag} {H : Hp} {x : V} {ds es : List PyData} {lo hi : Option Int} {Q : VK} (iv : Dp K H x (.tuple ds)) (hc : ∀ xs : List V, DpAll K H xs ds → DpAll K H (cutV xs lo hi) es) (h : ∀ v H', Same H H' → Dp K H' v (.tuple es) → Q v H') : rSlA K x lo hi H Q := by
  cases iv with
  | @tup a xs _ g ia =>
  refine ⟨a, xs, rfl, g, fun z => ?_, fun z p np => ?_⟩
  · have hw : cutV xs lo hi = xs := by
      unfold cutV
      rw [z.1, z.2, List.drop_zero, Nat.sub_zero, List.take_length]
    have := hc xs ia
    rw [hw] at this
    exact h _ H (Same.refl H) (.tup g this)
  · exact h _ _ (same_upd np) (.tup (SqT.of upd_same) (dp_sameAll (same_upd np) _ _ (hc xs ia)))
theorem dp_take {K : PySem.W.Frag} {H : Hp} {x : V} {ds : List PyData} {k : Nat} {Q : VK} (iv : Dp K H x (.tuple ds)) (hk : k ≤ ds.length) (h : ∀ v H', Same H H' → Dp K H' v (.tuple (ds.take k)) → Q v H') : rSlA K x Option.none (some (k : Int)) H Q :=
  dp_cut iv (fun xs ia => by
    unfold cutV
    rw [HT.sIx_none, HT.sIx_nat, Nat.min_eq_left (by rw [DpAll.len ia]; exact hk), List.drop_zero, Nat.sub_zero]
    exact DpAll.taket _ ia) h
theorem dp_drop {K : PySem.W.Frag} {H : Hp} {x : V} {ds : List PyData} {k : Nat} {Q : VK} (iv : Dp K H x (.tuple ds)) (hk : k ≤ ds.length) (h : ∀ v H', Same H H' → Dp K H' v (.tuple (ds.drop k)) → Q v H') : rSlA K x (some (k : Int)) Option.none H Q :=
  dp_cut iv (fun xs ia => by
    unfold cutV
    rw [HT.sIx_none, HT.sIx_nat, Nat.min_eq_left (by rw [DpAll.len ia]; exact hk), List.take_of_length_le (by rw [List.length_drop]; exact Nat.le_refl _)]
    exact DpAll.dropt _ ia) h
theorem nopart_of {σ : L2.St} {H : Hp} {Q : Option Int → Hp → Prop} (h : Q Option.none H) : tNoPart σ H Q := h
/-! ### matching -/

def rRepA (K : PySem.W.Frag) : R2 := fun x y H Q => ∃ l k xs, x = .ref l ∧ y = .int k ∧ SqT K H l xs ∧ xs ≠ [] ∧ 0 ≤ k ∧ k ≤ 1000 ∧ xs.length ≤ 1000 ∧ (k = 1 → Q (.ref l) H) ∧ ∀ p, H p = Option.none → Q (.ref p) (upd H p (.tup (List.replicate k.toNat xs).flatten))
theorem tuple_mul0 (l : Addr) (items : Array Value) (n : Nat) (dd : Option Addr) (sl : Array (Option Value)) (u : Tok) (c1 : items.isEmpty = false) :
    Meets (Builtin.«tuple.__mul__» ⟨[.ref l, .int 0 u], []⟩) (fun _ R s => s.heap.get? l = some { cls := .type "tuple", dict := dd, data := .seq items n, slots := sl } ∧
      R (.ok (.ret (Value.ref s.heap.objs.size))) { s with heap := s.heap.push { cls := Value.type "tuple", data := Data.seq #[] }, toks := s.toks }) :=
  .of_wp fun prog w A R s h => by
    obtain ⟨hp, g, d, tk, os⟩ := s
    obtain ⟨hl, h⟩ := h
    have f1 := AutoSeq1.idx_int
    have e1 : (items.isEmpty || (0 : Int) == 1) = false := by rw [c1]; rfl
    have e2 : (decide ((0 : Int) ≤ 0) || items.isEmpty) = true := by rw [c1]; rfl
    wp_walk using wpAny_loadPart' hl
    repeat (first
      | (refine wpAny_ite_false (decide_eq_false (by rw [e1]; exact Bool.false_ne_true)) ?_; wp_walk using wpAny_loadPart' hl)
      | (refine wpAny_ite_true (decide_eq_true e2) ?_; wp_walk using wpAny_loadPart' hl))
    exact ⟨_, rfl, h⟩
theorem tuple_mul1 (l : Addr) (items : Array Value) (n : Nat) (dd : Option Addr) (sl : Array (Option Value)) (u : Tok) :
    Meets (Builtin.«tuple.__mul__» ⟨[.ref l, .int 1 u], []⟩) (fun _ R s => s.heap.get? l = some { cls := .type "tuple", dict := dd, data := .seq items n, slots := sl } ∧
      R (.ok (.ret (Value.ref l))) s) :=
  .of_wp fun prog w A R s h => by
    obtain ⟨hp, g, d, tk, os⟩ := s
    obtain ⟨hl, h⟩ := h
    have f1 := AutoSeq1.idx_int
    have e1 : (items.isEmpty || (1 : Int) == 1) = true := by cases items.isEmpty <;> rfl
    wp_walk using wpAny_loadPart' hl
    repeat (first
      | (refine wpAny_ite_true (decide_eq_true e1) ?_; wp_walk using wpAny_loadPart' hl))
    exact ⟨_, rfl, h⟩

theorem op_repA {X : Cx} : OpR X (binaryOp .Mult) (rRepA X.K) := by
  intro pins s σ H x y v u Q I rx ry h
  obtain ⟨l, k, xs, rfl, rfl, hT, hne, h1, h2, hz, q1, q⟩ := h
  by_cases k2 : 2 ≤ k
  · exact op_repT pins s σ H (.ref l) (.int k) v u Q I rx ry ⟨l, k, xs, rfl, rfl, hT, hne, k2, h2, hz, q⟩
  · cases rx
    obtain ⟨t, rfl⟩ := ry
    obtain ⟨its, r, ⟨⟨cls, dd, data, sl⟩, ho, hc, n, hd⟩, hs⟩ := I.tuple hT
    simp only at hc hd
    subst hc hd
    have hle : its.length = xs.length := r.length.symm
    have hn : its ≠ [] := fun e => hne (by
      rw [e] at hle
      exact List.eq_nil_of_length_eq_zero hle.symm)
    have hi : its.toArray.isEmpty = false := by
      cases its with
      | nil => exact absurd rfl hn
      | cons a b => rfl
    rcases (show k = 0 ∨ k = 1 by omega) with e | e
    · subst e
      refine wpAny_binaryOp_repeat_ref (T := "tuple") (U := "int") (by decide) ⟨_, ho, rfl⟩ (fun s' => typeIs_int s' 0 t) noFill_tuple_mul F.fills_int_mul F.slot_int_rmul repeat_tuple F.slot_int_index.lookup
        (call_meets F.slot_int_rmul (typeIs_int s 0 t) F.entry_int_rmul (F.args_int_rmul_2 _ _) (int_rmul_tuple 0 t l its.toArray n dd sl)
          ⟨ho, rfl, ⟨_, ho, rfl⟩, call_meets F.slot_tuple_mul ⟨_, ho, rfl⟩ F.entry_tuple_mul (F.args_tuple_mul_2 _ _) (tuple_mul0 l its.toArray n dd sl t hi) ⟨ho, ?_⟩⟩)
      refine ⟨.ref s.heap.objs.size, _, I.laid (t' := s.toks) (o := .tup (List.replicate (0 : Int).toNat xs).flatten) (fun b ob q => Heap.get?_push_of_some _ q) (Nat.le_refl _) ?_, rfl, q _ (I.hok.fresh (Nat.le_refl _))⟩
      exact ⟨by show 0 ≤ sizeLine; exact Nat.zero_le _, [], .nil, IsTup.new _ _⟩
    · subst e
      exact wpAny_binaryOp_repeat_ref (T := "tuple") (U := "int") (by decide) ⟨_, ho, rfl⟩ (fun s' => typeIs_int s' 1 t) noFill_tuple_mul F.fills_int_mul F.slot_int_rmul repeat_tuple F.slot_int_index.lookup
        (call_meets F.slot_int_rmul (typeIs_int s 1 t) F.entry_int_rmul (F.args_int_rmul_2 _ _) (int_rmul_tuple 1 t l its.toArray n dd sl)
          ⟨ho, rfl, ⟨_, ho, rfl⟩, call_meets F.slot_tuple_mul ⟨_, ho, rfl⟩ F.entry_tuple_mul (F.args_tuple_mul_2 _ _) (tuple_mul1 l its.toArray n dd sl t) ⟨ho, ⟨.ref l, H, I, rfl, q1 rfl⟩⟩⟩)
def pd (p : Str × Int) : PyData := .tuple [.str p.1, .int p.2]
def nodeF (x : Str) (n : Int) : PyData := .tuple [.str "f", .str x, .int n]
def trueN : PyData := nodeF "true" 0
def commaN : PyData := nodeF "," 2
def clN : PyData := nodeF ":-" 2
def CTL : List (Str × Int) := [("true", 0), ("fail", 0), ("!", 0), (",", 2), (";", 2), ("->", 2), ("\\+", 1), ("call", 1), ("call", 2), ("call", 3), ("call", 4), ("call", 5), ("call", 6), ("call", 7), ("call", 8), ("catch", 3), ("findall", 3), ("throw", 1)]
def BIN : List (Str × Int) := [("=", 2), ("\\=", 2), ("==", 2), ("\\==", 2), ("@<", 2), ("compare", 3), ("var", 1), ("nonvar", 1), ("atom", 1), ("integer", 1), ("callable", 1), ("functor", 3), ("arg", 3), ("=..", 2), ("copy_term", 2), ("sort", 2), ("is", 2), ("=:=", 2), ("<", 2), ("=<", 2), ("write", 1), ("nl", 0), ("asserta", 1), ("assertz", 1), ("retract", 1), ("tabled", 1), ("solve", 2)]
def LC1 : List (Str × Int) := [("true", 0), ("fail", 0), ("!", 0), (",", 2), (";", 2), ("->", 2), ("\\+", 1), ("catch", 3)]
def LC2 : List (Str × Int) := [("findall", 3), ("throw", 1), ("=", 2), ("\\=", 2), ("==", 2), ("\\==", 2), ("@<", 2)]
def LC3 : List (Str × Int) := [("compare", 3), ("var", 1), ("nonvar", 1), ("atom", 1), ("integer", 1), ("callable", 1)]
def LC4 : List (Str × Int) := [("functor", 3), ("arg", 3), ("=..", 2), ("copy_term", 2), ("sort", 2), ("is", 2)]
def LC5 : List (Str × Int) := [("=:=", 2), ("<", 2), ("=<", 2), ("write", 1), ("nl", 0), ("asserta", 1), ("assertz", 1)]
def LC6 : List (Str × Int) := [("retract", 1), ("tabled", 1), ("solve", 2)]
def LCT : List (Str × Int) := LC1 ++ LC2 ++ LC3 ++ LC4 ++ LC5 ++ LC6
def ON1 : List (Str × Int) := [("fail", 0), ("!", 0), (";", 2), ("->", 2), ("\\+", 1), ("catch", 3), ("findall", 3), ("throw", 1)]
def ON2 : List (Str × Int) := [("call", 1), ("call", 8), ("=", 2), ("is", 2), ("write", 1), ("nl", 0), ("assertz", 1)]
def ON3 : List (Str × Int) := [("retract", 1), ("tabled", 1), ("solve", 2), ("sort", 2), ("functor", 3), ("<", 2)]
def ON4 : List (Str × Int) := [("compare", 3), ("var", 1), ("nonvar", 1), ("atom", 1), ("integer", 1), ("arg", 3)]
def NEAR : List (Str × Int) := [("fail", 1), ("!", 2), (";", 1), ("->", 3), ("call", 0), ("true", 1), (":-", 1), ("tabled", 2), ("in", 2)]
def ON5 : List (Str × Int) := [("callable", 1), ("copy_term", 2), ("=..", 2), ("\\=", 2), ("==", 2), ("\\==", 2), ("@<", 2), ("=:=", 2), ("=<", 2), ("asserta", 1)]
def isG : PyData → Bool
  | .tuple [_, .str x, .int n] => !(decide ((x, n) ∈ CTL) || decide ((x, n) ∈ BIN))
  | _ => false
theorem any_pd (x : Str) (n : Int) : ∀ l : List (Str × Int), (l.map pd).any (fun z => PyData.eqv z (pd (x, n))) = decide ((x, n) ∈ l)
  | [] => rfl
  | (y, k) :: l => by
    rw [List.map_cons, List.any_cons, any_pd x n l]
    have e : PyData.eqv (pd (y, k)) (pd (x, n)) = decide ((x, n) = (y, k)) := by
      unfold pd
      simp only [PyData.eqv, PyData.eqvAll, Bool.and_true]
      rw [Bool.eq_iff_iff]
      simp only [Bool.and_eq_true, beq_iff_eq, decide_eq_true_eq, Prod.mk.injEq]
      exact ⟨fun h => ⟨h.1.symm, h.2.symm⟩, fun h => ⟨h.1.symm, h.2.symm⟩⟩
    rw [e, ← Bool.decide_or]
    exact decide_eq_decide.mpr (by rw [List.mem_cons])
theorem pd_shaped {x : Str} {n : Int} (h : okName x = true) : SeqAt.shaped (pd (x, n)) = true := by
  have hd : (pd (x, n)).depth ≤ 64 := by unfold pd; simp [PyData.depth, PyData.depthAll]
  have hc : (pd (x, n)).canLay0 = true := by unfold pd; simp only [PyData.canLay0, PyData.canLayAll0]; rw [okName_cps h]; rfl
  show ((pd (x, n)).canLay0 && decide ((pd (x, n)).depth ≤ 64)) = true
  rw [hc, decide_eq_true hd]
  rfl
theorem pds_lay : ∀ l : List (Str × Int), l.all (fun p => okName p.1) = true → PyData.canLayAll0 (l.map pd) = true ∧ PyData.depthAll (l.map pd) ≤ 1
  | [], _ => ⟨by simp [PyData.canLayAll0], by simp [PyData.depthAll]⟩
  | p :: l, h => by
    rw [List.all_cons, Bool.and_eq_true] at h
    obtain ⟨a, b⟩ := pds_lay l h.2
    rw [List.map_cons]
    have c : (pd p).canLay0 = true := by unfold pd; simp only [PyData.canLay0, PyData.canLayAll0]; rw [okName_cps h.1]; rfl
    have d : (pd p).depth = 1 := by unfold pd; simp [PyData.depth, PyData.depthAll]
    refine ⟨by simp only [PyData.canLayAll0, a, c, Bool.and_self], ?_⟩
    simp only [PyData.depthAll]
    omega
theorem pds_shaped {l : List (Str × Int)} (h : l.all (fun p => okName p.1) = true) : SeqAt.shaped (.tuple (l.map pd)) = true ∧ SeqAt.shaped (.list (l.map pd)) = true := by
  obtain ⟨a, b⟩ := pds_lay l h
  have hd : (PyData.tuple (l.map pd)).depth ≤ 64 := by simp only [PyData.depth]; omega
  have hc : (PyData.tuple (l.map pd)).canLay0 = true := by simp only [PyData.canLay0]; exact a
  have hd2 : (PyData.list (l.map pd)).depth ≤ 64 := by simp only [PyData.depth]; omega
  have hc2 : (PyData.list (l.map pd)).canLay0 = true := by simp only [PyData.canLay0]; exact a
  constructor
  · show ((PyData.tuple (l.map pd)).canLay0 && decide ((PyData.tuple (l.map pd)).depth ≤ 64)) = true
    rw [hc, decide_eq_true hd]; rfl
  · show ((PyData.list (l.map pd)).canLay0 && decide ((PyData.list (l.map pd)).depth ≤ 64)) = true
    rw [hc2, decide_eq_true hd2]; rfl
theorem ctl_ok : CTL.all (fun p => okName p.1) = true := by decide +kernel
theorem bin_ok : BIN.all (fun p => okName p.1) = true := by decide +kernel
theorem lct_ok : LCT.all (fun p => okName p.1) = true := by decide +kernel
theorem lc_in1 : LCT.all (fun p => decide (p ∈ CTL) || decide (p ∈ BIN)) = true := by decide +kernel
theorem lc_in2 : (CTL ++ BIN).all (fun p => decide (p ∈ LCT) || (decide (p.1 = "call") && decide (1 ≤ p.2))) = true := by decide +kernel
theorem call_in : ∀ n : Int, 1 ≤ n → n ≤ 8 → (("call" : Str), n) ∈ CTL := by
  intro n h1 h2
  have h : ∀ k : Fin 8, (("call" : Str), ((k.val + 1 : Nat) : Int)) ∈ CTL := by decide +kernel
  have := h ⟨n.toNat - 1, by omega⟩
  simp only at this
  rwa [show ((n.toNat - 1 + 1 : Nat) : Int) = n by omega] at this
/-- the law's own reading of what a goal is -/
theorem goal_law {x : Str} {n : Int} (h8 : n ≤ 8) : isG (nodeF x n) = (!(decide (x = "call") && decide (1 ≤ n)) && !decide ((x, n) ∈ LCT)) := by
  show (!(decide ((x, n) ∈ CTL) || decide ((x, n) ∈ BIN))) = _
  rw [← Bool.not_or]
  congr 1
  rw [Bool.eq_iff_iff]
  simp only [Bool.or_eq_true, Bool.and_eq_true, decide_eq_true_eq]
  constructor
  · intro h
    have := List.all_eq_true.mp lc_in2 (x, n) (List.mem_append.mpr h)
    simp only [Bool.or_eq_true, Bool.and_eq_true, decide_eq_true_eq] at this
    exact this.symm
  · rintro (⟨rfl, h1⟩ | h)
    · exact .inl (call_in n h1 h8)
    · have := List.all_eq_true.mp lc_in1 (x, n) h
      simpa only [Bool.or_eq_true, decide_eq_true_eq] using this
def OkR (ds : List PyData) : Prop := (∀ d ∈ ds, NdA d) ∧ Cls 1 ds ∧ ds.length ≤ 9 ∧ ∀ d, ds.head? = some d → PyData.eqv d commaN = false ∧ PyData.eqv d clN = false
/-- rows in their order, with commas between them -/
inductive Flat : List (List PyData) → List PyData → Prop
  | nil : Flat [] []
  | comma {rs : List (List PyData)} {ds : List PyData} : Flat rs ds → Flat rs (commaN :: ds)
  | row {r : List PyData} {rs : List (List PyData)} {ds : List PyData} : OkR r → Flat rs ds → Flat (r :: rs) (r ++ ds)
theorem Flat.app {as bs : List (List PyData)} {a b : List PyData} (h : Flat as a) (k : Flat bs b) : Flat (as ++ bs) (a ++ b) := by
  induction h with
  | nil => exact k
  | comma _ ih => exact .comma ih
  | row r _ ih => rw [List.append_assoc]; exact .row r ih
theorem flat_nil {rs : List (List PyData)} {ds : List PyData} (h : Flat rs ds) (e : ds = []) : rs = [] := by
  cases h with
  | nil => rfl
  | comma _ => cases e
  | @row r rs ds ok _ =>
    cases r with
    | nil => exact absurd ok.2.1 (by show ¬ (1 = 0); decide)
    | cons d r => cases e
def isGr : List PyData → Bool
  | d :: _ => isG d | [] => false
def isTr (r : List PyData) : Bool := PyData.eqv (.tuple r) (.tuple [trueN])
def goalsM (rows : List (List PyData)) : List (List PyData) := rows.filter fun r => !isTr r
def goodM (rows : List (List PyData)) : Bool := (goalsM rows).all isGr
theorem tk_app : ∀ (r t : List PyData) (k : Nat), Cls k r → tk k (r ++ t) = r.length
  | [], t, k, h => by
    have hk : k = 0 := h
    subst hk
    exact tk_zero t
  | d :: r, t, k, h => by
    rw [List.cons_append, tk_cons h.1, tk_app r t _ h.2, List.length_cons]
    omega
theorem cls_rest : ∀ (r t : List PyData) (m j : Nat), Cls j r → Cls m (r ++ t) → j ≤ m → Cls (m - j) t
  | [], t, m, j, h, hm, _ => by
    have hj : j = 0 := h
    subst hj
    exact hm
  | d :: r, t, m, j, h, hm, hjm => by
    have h1 := h.1
    have h2 : Cls (m - 1 + arN d) (r ++ t) := hm.2
    have := cls_rest r t (m - 1 + arN d) (j - 1 + arN d) h.2 h2 (by omega)
    rwa [show m - 1 + arN d - (j - 1 + arN d) = m - j by omega] at this
def splitM : List PyData → List PyData × List PyData
  | [] => ([], [trueN])
  | d :: r => if PyData.eqv d clN = true then (r.take (tk 1 r), r.drop (tk 1 r)) else (d :: r, [trueN])
theorem comma_nd : NdA commaN := ⟨1, .f "," 2 (by decide +kernel) (by decide) (by decide)⟩
theorem cl_nd : NdA clN := ⟨1, .f ":-" 2 (by decide +kernel) (by decide) (by decide)⟩
theorem true_nd : NdA trueN := ⟨1, .f "true" 0 (by decide +kernel) (by decide) (by decide)⟩
theorem true_row : OkR [trueN] := ⟨fun d hd => by rw [List.mem_singleton.mp hd]; exact true_nd, ⟨by decide, rfl⟩, by decide, fun d hd => by
  have e : trueN = d := Option.some.inj hd
  subst e
  exact ⟨by decide +kernel, by decide +kernel⟩⟩
inductive Parts : List (List PyData) → List (List PyData) → Prop
  | nil : Parts [] []
  | cons {as cs R : List (List PyData)} {c : List PyData} : Flat as c → Cls 1 c → (∀ d ∈ c, NdA d) → Parts cs R → Parts (c :: cs) (as ++ R)
theorem Parts.merge : ∀ {i : Nat} {cs R : List (List PyData)} {a b : List PyData}, Parts cs R → cs[i]? = some a → cs[i + 1]? = some b → Parts (cs.take i ++ [commaN :: (a ++ b)] ++ cs.drop (i + 2)) R
  | 0, _, _, a, b, h, ha, hb => by
    cases h with
    | nil => simp at ha
    | @cons as cs R c f1 c1 n1 h =>
      rw [List.getElem?_cons_zero] at ha
      rw [List.getElem?_cons_succ] at hb
      cases ha
      cases h with
      | nil => simp at hb
      | @cons bs cs R c f2 c2 n2 h =>
        rw [List.getElem?_cons_zero] at hb
        cases hb
        rw [← List.append_assoc]
        refine .cons (.comma (f1.app f2)) ⟨by decide, ?_⟩ (fun d hd => ?_) h
        · exact cls_app a b 1 1 c1 c2
        · rcases List.mem_cons.mp hd with z | z
          · rw [z]; exact comma_nd
          · rcases List.mem_append.mp z with z | z
            · exact n1 d z
            · exact n2 d z
  | i + 1, _, _, a, b, h, ha, hb => by
    cases h with
    | nil => simp at ha
    | cons f1 c1 n1 h =>
      rw [List.getElem?_cons_succ] at ha hb
      exact .cons f1 c1 n1 (Parts.merge h ha hb)
theorem imAll_rep {K : PySem.W.Frag} {G : Addr → Prop} {H : Hp} {xs : List V} {ds : List PyData} (h : ImAll K G H xs ds) : ∀ n : Nat, ImAll K G H (List.replicate n xs).flatten (List.replicate n ds).flatten
  | 0 => .nil
  | n + 1 => by
    rw [List.replicate_succ, List.replicate_succ, List.flatten_cons, List.flatten_cons]
    exact ImAll.app h (imAll_rep h n)
theorem im_rep {K : PySem.W.Frag} {G : Addr → Prop} {H : Hp} {x : V} {ds : List PyData} {k : Int} {Q : VK} (iv : Im K G H x (.tuple ds)) (hne : ds ≠ []) (h0 : 0 ≤ k) (h1 : k ≤ 1000) (hl : ds.length ≤ 1000) (h : ∀ v H', Same H H' → Im K (fun b => G b ∨ H b = Option.none) H' v (.tuple (List.replicate k.toNat ds).flatten) → Q v H') : rRepA K x (.int k) H Q := by
  cases id iv with
  | @tup a xs _ ga ea ia =>
  have hxl := ia.len
  refine ⟨a, k, xs, rfl, rfl, SqT.of ea, fun z => hne (by rw [z] at hxl; exact List.eq_nil_of_length_eq_zero hxl.symm), h0, h1, by omega, fun k1 => ?_, fun p np => ?_⟩
  · refine h _ _ (Same.refl _) ?_
    rw [k1, show ((1 : Int).toNat) = 1 from rfl, List.replicate_one, List.flatten_cons, List.flatten_nil, List.append_nil]
    exact Im.mono (fun _ _ _ e => e) (fun _ g => .inl g) _ _ iv
  · exact h _ _ (same_upd np) (im_new np (imAll_rep ia k.toNat))
theorem okN_len {y : Str} (h : okName y = true) : y.length ≤ 40 := by
  unfold okName at h
  simp only [Bool.and_eq_true, decide_eq_true_eq] at h
  exact h.1.2
theorem digit_ok {n : Int} (h0 : 0 ≤ n) (h8 : n ≤ 8) : n.natAbs.log2 < 1920 ∧ (toString n : Str).length ≤ 10 := by
  rcases (show n = 0 ∨ n = 1 ∨ n = 2 ∨ n = 3 ∨ n = 4 ∨ n = 5 ∨ n = 6 ∨ n = 7 ∨ n = 8 by omega) with z | z | z | z | z | z | z | z | z <;> subst z <;> decide +kernel
theorem len_app (a b : Str) : (a ++ b).length = a.length + b.length := by
  show (a.cps ++ b.cps).size = _
  rw [Array.size_append]
  rfl
theorem rowsP {rows : List (List PyData)} {r : List PyData} (h : r ∈ rows) (t : isTr r = false) (g : isGr r = false) : goodM rows = false := by
  cases e : goodM rows with
  | false => rfl
  | true =>
    have := List.all_eq_true.mp e r (List.mem_filter.mpr ⟨h, by rw [t]; rfl⟩)
    rw [g] at this
    cases this
def okP (p : Str × Int) : Bool := okName p.1 && decide (0 ≤ p.2) && decide (p.2 ≤ 8) && !decide (p = ((",", 2) : Str × Int)) && !decide (p = ((":-", 2) : Str × Int))
theorem okP_of {p : Str × Int} (h : okP p = true) : okName p.1 = true ∧ 0 ≤ p.2 ∧ p.2 ≤ 8 ∧ PyData.eqv (nodeF p.1 p.2) commaN = false ∧ PyData.eqv (nodeF p.1 p.2) clN = false := by
  unfold okP at h
  simp only [Bool.and_eq_true, decide_eq_true_eq, Bool.not_eq_true', decide_eq_false_iff_not] at h
  obtain ⟨⟨⟨⟨a, b⟩, c⟩, d⟩, e⟩ := h
  have ne : ∀ y k, p ≠ (y, k) → PyData.eqv (nodeF p.1 p.2) (nodeF y k) = false := fun y k hne => by
    cases z : PyData.eqv (nodeF p.1 p.2) (nodeF y k) with
    | false => rfl
    | true =>
      unfold nodeF at z
      simp only [PyData.eqv, PyData.eqvAll, Bool.and_eq_true, beq_iff_eq] at z
      exact absurd (Prod.ext z.2.1 z.2.2.1) hne
  exact ⟨a, b, c, ne _ _ d, ne _ _ e⟩
def aN : PyData := nodeF "a" 0
theorem aN_nd : NdA aN := ⟨1, .f "a" 0 (by decide +kernel) (by decide) (by decide)⟩
theorem cls_as : ∀ n : Nat, Cls n (List.replicate n [aN]).flatten
  | 0 => rfl
  | n + 1 => by
    rw [List.replicate_succ, List.flatten_cons]
    exact ⟨Nat.succ_pos n, cls_as n⟩
theorem as_len : ∀ n : Nat, ((List.replicate n [aN]).flatten).length = n
  | 0 => rfl
  | n + 1 => by
    rw [List.replicate_succ, List.flatten_cons, List.length_append, as_len n]
    show 1 + n = _
    omega
theorem odd_row {p : Str × Int} (h : okP p = true) : OkR (nodeF p.1 p.2 :: (List.replicate p.2.toNat [aN]).flatten) := by
  obtain ⟨a, b, c, d, e⟩ := okP_of h
  have hl := as_len p.2.toNat
  refine ⟨fun x hx => ?_, ⟨by decide, ?_⟩, by rw [List.length_cons, hl]; omega, fun x hx => ?_⟩
  · rcases List.mem_cons.mp hx with z | z
    · rw [z]; exact ⟨1, .f _ _ a b c⟩
    · obtain ⟨l, hl, hx⟩ := List.mem_flatten.mp z
      rw [List.eq_of_mem_replicate hl] at hx
      rw [List.mem_singleton.mp hx]
      exact aN_nd
  · have : 1 - 1 + arN (nodeF p.1 p.2) = p.2.toNat := by show 0 + p.2.toNat = _; omega
    rw [this]
    exact cls_as _
  · have ex : nodeF p.1 p.2 = x := Option.some.inj hx
    rw [← ex]
    exact ⟨d, e⟩
theorem one_row {d : PyData} (h : NdA d) (a : arN d = 0) (k1 : PyData.eqv d commaN = false) (k2 : PyData.eqv d clN = false) : OkR [d] :=
  ⟨fun x hx => by rw [List.mem_singleton.mp hx]; exact h, ⟨by decide, by show Cls (1 - 1 + arN d) []; rw [a]; rfl⟩, by show 1 ≤ 9; decide, fun x hx => by
    have ex : d = x := Option.some.inj hx
    rw [← ex]
    exact ⟨k1, k2⟩⟩
theorem split_facts {d : PyData} {r : List PyData} (h : ∀ e ∈ d :: r, NdA e) : (∀ e ∈ (splitM (d :: r)).1, NdA e) ∧ (∀ e ∈ (splitM (d :: r)).2, NdA e) ∧ (splitM (d :: r)).2.length ≤ r.length + 1 := by
  show (∀ e ∈ (if PyData.eqv d clN = true then (r.take (tk 1 r), r.drop (tk 1 r)) else (d :: r, [trueN])).1, NdA e) ∧ (∀ e ∈ (if PyData.eqv d clN = true then (r.take (tk 1 r), r.drop (tk 1 r)) else (d :: r, [trueN])).2, NdA e) ∧ (if PyData.eqv d clN = true then (r.take (tk 1 r), r.drop (tk 1 r)) else (d :: r, [trueN])).2.length ≤ r.length + 1
  by_cases e : PyData.eqv d clN = true
  · rw [if_pos e]
    exact ⟨fun x hx => h x (List.mem_cons_of_mem _ (List.mem_of_mem_take hx)), fun x hx => h x (List.mem_cons_of_mem _ (List.mem_of_mem_drop hx)), by show (r.drop _).length ≤ _; rw [List.length_drop]; omega⟩
  · rw [if_neg e]
    exact ⟨h, fun x hx => by rw [List.mem_singleton.mp hx]; exact true_nd, by show 1 ≤ _; omega⟩
theorem lit_add {K : PySem.W.Frag} {σ : L2.St} {t u : TE} {i j : Int} (h1 : Lit K σ t (.int i)) (h2 : Lit K σ u (.int j)) : Lit K σ (tOp (rI0 fun i j => .int (i + j)) t u) (.int (i + j)) := fun H Q h =>
  h1 H _ fun v H1 s1 i1 => h2 H1 _ fun w H2 s2 i2 => by
    cases i1
    cases i2
    exact ⟨_, _, rfl, rfl, h _ _ (s1.trans s2) (.int _)⟩
section
variable {K : PySem.W.Frag} {H Ha Hb Hn H' : Hp} {s l : Addr} {v : V} {d : PyData}
theorem fr_of (bn : But s H Hn) (Sn : Stm Hn s l) : ∀ b, Hn b = Option.none → H b = Option.none := fun b np => by
  obtain ⟨on, hon⟩ := Sn.at_s
  cases e : H b with
  | none => rfl
  | some o =>
    by_cases z : b = s
    · rw [z, hon] at np; cases np
    · rw [bn _ _ z e] at np; cases np
theorem frs_of (bn : But s H Hn) (Sn : Stm Hn s l) (i : Im K (fun b => Hn b = Option.none) H' v d) : Im K (fun b => H b = Option.none) H' v d := Im.mono (fun _ _ _ e => e) (fr_of bn Sn) _ _ i
theorem frs_keep (S0 : Stm H s l) (b : But s Ha Hb) (i : Im K (fun b => H b = Option.none) Ha v d) : Im K (fun b => H b = Option.none) Hb v d := by
  obtain ⟨os, hos⟩ := S0.at_s
  exact Im.mono (fun c o g e => b c o (fun z => by rw [z, hos] at g; cases g) e) (fun _ g => g) _ _ i
theorem frs_cat {x y : V} {ds es : List PyData} {Q : VK} (bn : But s H Ha) (Sn : Stm Ha s l) (iv : Im K (fun b => H b = Option.none) Ha x (.tuple ds)) (iw : Im K (fun b => H b = Option.none) Ha y (.tuple es)) (hz : ds.length + es.length ≤ 1000)
    (h : ∀ v H', Same Ha H' → Im K (fun b => H b = Option.none) H' v (.tuple (ds ++ es)) → Q v H') : rCatA K x y Ha Q :=
  im_cat iv iw hz fun v H' s' i => h v H' s' (Im.mono (fun _ _ _ e => e) (fun b g => g.elim id (fr_of bn Sn b)) _ _ i)
/-- away from the stream -/
theorem far_of (S0 : Stm H s l) (i : Im K (fun b => H b = Option.none) Ha v d) : Im K (fun b => b ≠ s) Ha v d := by
  obtain ⟨os, hos⟩ := S0.at_s
  exact Im.mono (fun _ _ _ e => e) (fun b g z => by rw [z, hos] at g; cases g) _ _ i
theorem far_keep (b : But s Ha Hb) (i : Im K (fun b => b ≠ s) Ha v d) : Im K (fun b => b ≠ s) Hb v d := Im.mono (fun c o g e => b c o g e) (fun _ g => g) _ _ i
theorem far_cat {x y : V} {ds es : List PyData} {Q : VK} (Sn : Stm Ha s l) (iv : Im K (fun b => b ≠ s) Ha x (.tuple ds)) (iw : Im K (fun b => b ≠ s) Ha y (.tuple es)) (hz : ds.length + es.length ≤ 1000)
    (h : ∀ v H', Same Ha H' → Im K (fun b => b ≠ s) H' v (.tuple (ds ++ es)) → Q v H') : rCatA K x y Ha Q :=
  im_cat iv iw hz fun v H' s' i => h v H' s' (Im.mono (fun _ _ _ e => e) (fun b g => g.elim id fun g z => by obtain ⟨o, ho⟩ := Sn.at_s; rw [z, ho] at g; cases g) _ _ i)
end
theorem okr_of {x : Str} {n : Int} {ds : List PyData} (h : okP (x, n) = true) (nd : ∀ d ∈ ds, NdA d) (hc : Cls n.toNat ds) (hl : ds.length ≤ 8) : OkR (nodeF x n :: ds) := by
  obtain ⟨a, b, c, d, e⟩ := okP_of h
  refine ⟨fun y hy => ?_, ⟨by decide, ?_⟩, by rw [List.length_cons]; omega, fun y hy => ?_⟩
  · rcases List.mem_cons.mp hy with z | z
    · rw [z]; exact ⟨1, .f _ _ a b c⟩
    · exact nd y z
  · have : 1 - 1 + arN (nodeF x n) = n.toNat := by show 0 + n.toNat = _; omega
    rw [this]
    exact hc
  · have ex : nodeF x n = y := Option.some.inj hy
    rw [← ex]
    exact ⟨d, e⟩
def abc : List Str := ["a", "b", "c"]
def ppp : List Str := ["p", "p", "pp"]
theorem lit_pick {K : PySem.W.Frag} {G : Addr → Prop} {H : Hp} {xs : List V} {names : List Str} {r : Int} (a : ImAll K G H xs (names.map PyData.str)) (r0 : 0 ≤ r) (r1 : r < (names.length : Int)) : ∃ x, x ∈ names ∧ atI xs r = some (.str x) := by
  have hr : r.toNat < names.length := by omega
  have hd : (names.map PyData.str)[r.toNat]? = some (.str names[r.toNat]) := by
    rw [List.getElem?_map, List.getElem?_eq_getElem hr]
    rfl
  obtain ⟨v, hv, iv⟩ := ImAll.get a hd
  cases iv
  exact ⟨_, List.getElem_mem hr, at_of (j := r.toNat) (by omega) hv⟩
def fourI : List Int := [-1, 10 ^ 30, 10 ^ 30 + 1, -(10 ^ 39)]
theorem fourI_ok : ∀ i ∈ fourI, -(10 ^ 40) < i ∧ i < 10 ^ 40 := by decide +kernel
theorem int_pick {K : PySem.W.Frag} {G : Addr → Prop} {H : Hp} {xs : List V} {is : List Int} {r : Int} (a : ImAll K G H xs (is.map PyData.int)) (r0 : 0 ≤ r) (r1 : r < (is.length : Int)) : ∃ x, x ∈ is ∧ atI xs r = some (.int x) := by
  have hr : r.toNat < is.length := by omega
  have hd : (is.map PyData.int)[r.toNat]? = some (.int is[r.toNat]) := by
    rw [List.getElem?_map, List.getElem?_eq_getElem hr]
    rfl
  obtain ⟨v, hv, iv⟩ := ImAll.get a hd
  cases iv
  exact ⟨_, List.getElem_mem hr, at_of (j := r.toNat) (by omega) hv⟩
theorem lst_of {ta : TA} {σ : L2.St} {H : Hp} {Q : VK} (h : ta σ H fun xs H1 => xs.length ≤ sizeLine ∧ ∀ p, H1 p = Option.none → Q (.ref p) (upd H1 p (.lst xs))) : tLst ta σ H Q := h
theorem litA_at {K : PySem.W.Frag} {σ : L2.St} {ta : TA} {ds : List PyData} (h : LitA K σ ta ds) {H : Hp} {Q : List V → Hp → Prop} (q : ∀ vs H', Same H H' → ImAll K (fun b => H b = Option.none) H' vs ds → Q vs H') : ta σ H Q := h H Q q
theorem on_ok : (ON1 ++ ON2 ++ ON3 ++ ON4 ++ ON5 ++ NEAR).all okP = true := by decide +kernel
theorem call_ok {r : Int} (h0 : 0 ≤ r) (h6 : r < 6) : okP ("call", 2 + r) = true := by
  rcases (show r = 0 ∨ r = 1 ∨ r = 2 ∨ r = 3 ∨ r = 4 ∨ r = 5 by omega) with z | z | z | z | z | z <;> subst z <;> decide +kernel
theorem pd_pick {K : PySem.W.Frag} {G : Addr → Prop} {H : Hp} {xs : List V} {ps : List (Str × Int)} {r : Int} (a : ImAll K G H xs (ps.map pd)) (r0 : 0 ≤ r) (r1 : r < (ps.length : Int)) : ∃ p v, p ∈ ps ∧ atI xs r = some v ∧ Im K G H v (pd p) := by
  have hr : r.toNat < ps.length := by omega
  have hd : (ps.map pd)[r.toNat]? = some (pd ps[r.toNat]) := by
    rw [List.getElem?_map, List.getElem?_eq_getElem hr]
    rfl
  obtain ⟨v, hv, iv⟩ := ImAll.get a hd
  exact ⟨_, v, List.getElem_mem hr, at_of (j := r.toNat) (by omega) hv, iv⟩
theorem cut_take (xs : List V) (i : Nat) (h : i ≤ xs.length) : cutV xs Option.none (some (i : Int)) = xs.take i := by
  unfold cutV
  rw [HT.sIx_none, HT.sIx_nat, Nat.min_eq_left h, List.drop_zero, Nat.sub_zero]
theorem cut_drop (xs : List V) (i : Nat) (h : i ≤ xs.length) : cutV xs (some (i : Int)) Option.none = xs.drop i := by
  unfold cutV
  rw [HT.sIx_none, HT.sIx_nat, Nat.min_eq_left h, List.take_of_length_le (by rw [List.length_drop]; exact Nat.le_refl _)]
theorem parts_of : ∀ {rows : List (List PyData)}, (∀ r ∈ rows, OkR r) → Parts rows rows
  | [], _ => .nil
  | r :: rows, h => by
    have ok := h r List.mem_cons_self
    have f : Flat [r] r := by
      have := Flat.row ok .nil
      rwa [List.append_nil] at this
    exact Parts.cons (as := [r]) f ok.2.1 ok.1 (parts_of fun x hx => h x (List.mem_cons_of_mem _ hx))
def szP (cs : List (List PyData)) : Nat := (cs.map List.length).sum + cs.length
theorem sz_merge {cs : List (List PyData)} {i : Nat} {a b : List PyData} (ha : cs[i]? = some a) (hb : cs[i + 1]? = some b) : szP (cs.take i ++ [commaN :: (a ++ b)] ++ cs.drop (i + 2)) = szP cs ∧ (cs.take i ++ [commaN :: (a ++ b)] ++ cs.drop (i + 2)).length + 1 = cs.length := by
  obtain ⟨k1, g1⟩ := List.getElem?_eq_some_iff.mp ha
  obtain ⟨k2, g2⟩ := List.getElem?_eq_some_iff.mp hb
  have e : cs = cs.take i ++ (a :: b :: cs.drop (i + 2)) := by
    conv => lhs; rw [← List.take_append_drop i cs]
    rw [List.drop_eq_getElem_cons k1, g1, List.drop_eq_getElem_cons k2, g2]
  constructor
  · conv => rhs; rw [e]
    unfold szP
    simp only [List.map_append, List.map_cons, List.map_nil, List.sum_append, List.sum_cons, List.sum_nil, List.length_append, List.length_cons, List.length_nil]
    omega
  · conv => rhs; rw [e]
    simp only [List.length_append, List.length_cons, List.length_nil]
    omega
theorem sz_rows : ∀ {rows : List (List PyData)}, (∀ r ∈ rows, OkR r) → szP rows ≤ 10 * rows.length
  | [], _ => Nat.le_refl 0
  | r :: rows, h => by
    have ih := sz_rows (rows := rows) fun x hx => h x (List.mem_cons_of_mem _ hx)
    have := (h r List.mem_cons_self).2.2.1
    unfold szP at *
    simp only [List.map_cons, List.sum_cons, List.length_cons]
    omega
theorem rows_facts : ∀ {l : List (List PyData)}, (∀ r ∈ l, ∀ d ∈ r, NdA d) → PyData.canLayAll0 (l.map PyData.tuple) = true ∧ PyData.depthAll (l.map PyData.tuple) ≤ 2 ∧ PyData.eqvAll (l.map PyData.tuple) (l.map PyData.tuple) = true ∧ noLA (l.map PyData.tuple) = true
  | [], _ => ⟨by simp [PyData.canLayAll0], by simp [PyData.depthAll], by simp [PyData.eqvAll], by simp [noLA]⟩
  | r :: l, h => by
    obtain ⟨a1, a2, a3⟩ := nds_lay (h r List.mem_cons_self)
    obtain ⟨b1, b2, b3, b4⟩ := rows_facts (l := l) fun x hx => h x (List.mem_cons_of_mem _ hx)
    rw [List.map_cons]
    refine ⟨by simp only [PyData.canLayAll0, PyData.canLay0, a1, b1, Bool.and_self], ?_, by simp only [PyData.eqvAll, PyData.eqv, a3, b3, Bool.and_self], by simp only [noLA, tup_noL (h r List.mem_cons_self), b4, Bool.and_self]⟩
    simp only [PyData.depthAll, PyData.depth]
    omega
theorem rows_shaped {l : List (List PyData)} (h : ∀ r ∈ l, ∀ d ∈ r, NdA d) : SeqAt.shaped (.list (l.map PyData.tuple)) = true := by
  obtain ⟨a, b, _⟩ := rows_facts h
  have hd : (PyData.list (l.map PyData.tuple)).depth ≤ 64 := by simp only [PyData.depth]; omega
  have hc : (PyData.list (l.map PyData.tuple)).canLay0 = true := by simp only [PyData.canLay0]; exact a
  show ((PyData.list (l.map PyData.tuple)).canLay0 && decide ((PyData.list (l.map PyData.tuple)).depth ≤ 64)) = true
  rw [hc, decide_eq_true hd]
  rfl
theorem good_len (rows : List (List PyData)) : decide (V.int (((goalsM rows).filter fun r => !isGr r).length : Int) = V.int 0) = goodM rows := by
  unfold goodM
  generalize goalsM rows = l
  rw [Bool.eq_iff_iff, decide_eq_true_eq, List.all_eq_true]
  constructor
  · intro h r hr
    have h0 := V.int.inj h
    cases g : isGr r with
    | true => rfl
    | false =>
      have hm : r ∈ l.filter fun r => !isGr r := List.mem_filter.mpr ⟨hr, by rw [g]; rfl⟩
      have := List.length_pos_of_mem hm
      omega
  · intro h
    have : (l.filter fun r => !isGr r) = [] := List.filter_eq_nil_iff.mpr fun r hr => by rw [h r hr]; decide
    rw [this]
    rfl
/-! ### the promises -/
def Frs (K : PySem.W.Frag) (H H' : Hp) (v : V) (ds : List PyData) : Prop := Im K (fun b => H b = Option.none) H' v (.tuple ds)
def ndC (K : PySem.W.Frag) : Value := .ref (clsA K "NotDefinite")
def sp_is_symbol (K : PySem.W.Frag) : Sp := fun vs H Q _ => ∃ (x : V) (d : PyData), vs = [x] ∧ Dp K H x d ∧ NdA d ∧ Q (.bl (isSymN d)) H
def sp_arity_of (K : PySem.W.Frag) : Sp := fun vs H Q _ => ∃ (x : V) (d : PyData), vs = [x] ∧ Dp K H x d ∧ NdA d ∧ Q (.int (arN d)) H
def sp_end_of (K : PySem.W.Frag) : Sp := fun vs H Q _ => ∃ (x : V) (ds : List PyData) (i k : Nat), vs = [x, .int i] ∧ Dp K H x (.tuple ds) ∧ (∀ d ∈ ds, NdA d) ∧ Cls (k + 1) (ds.drop i) ∧ Q (.int ((i + tk 1 (ds.drop i) : Nat) : Int)) H
def sp_is_control (K : PySem.W.Frag) : Sp := fun vs H Q _ => ∃ (x : Str) (n : Int), vs = [.str x, .int n] ∧ okName x = true ∧ ∀ H', Same H H' → Q (.bl (decide ((x, n) ∈ CTL))) H'
def sp_is_built_in (K : PySem.W.Frag) : Sp := fun vs H Q _ => ∃ (x : Str) (n : Int), vs = [.str x, .int n] ∧ okName x = true ∧ ∀ H', Same H H' → Q (.bl (decide ((x, n) ∈ BIN))) H'
def sp_split_clause (K : PySem.W.Frag) : Sp := fun vs H Q _ => ∃ (x : V) (d : PyData) (r : List PyData), vs = [x] ∧ Dp K H x (.tuple (d :: r)) ∧ (∀ e ∈ d :: r, NdA e) ∧ (PyData.eqv d clN = true → Cls 2 r) ∧ r.length ≤ 200 ∧ ∀ v H', Same H H' → Dp K H' v (.tuple [.tuple (splitM (d :: r)).1, .tuple (splitM (d :: r)).2]) → Q v H'
def sp_check_goal (K : PySem.W.Frag) : Sp := fun vs H Q E => ∃ (x : V) (d : PyData) (r : List PyData), vs = [x] ∧ Dp K H x (.tuple (d :: r)) ∧ NdA d ∧ (isG d = true → ∀ H', Same H H' → Q .non H') ∧ (isG d = false → ∀ H', Same H H' → E (ndC K) Option.none H')
def sp_goals_of (K : PySem.W.Frag) : Sp := fun vs H Q E => ∃ (x : V) (ds : List PyData) (rows : List (List PyData)) (m : Nat), vs = [x] ∧ Dp K H x (.tuple ds) ∧ (∀ d ∈ ds, NdA d) ∧ Flat rows ds ∧ Cls m ds ∧ ds.length ≤ 200 ∧ rows.length ≤ 200 ∧
  (goodM rows = true → ∀ r ys H', Same H H' → H r = Option.none → H' r = some (.lst ys) → DpAll K H' ys ((goalsM rows).map PyData.tuple) → Q (.ref r) H') ∧ (goodM rows = false → ∀ H', Same H H' → E (ndC K) Option.none H')
def sp_head_and_goals (K : PySem.W.Frag) : Sp := fun vs H Q E => ∃ (x : V) (d : PyData) (r : List PyData) (rows : List (List PyData)) (m : Nat), vs = [x] ∧ Dp K H x (.tuple (d :: r)) ∧ (∀ e ∈ d :: r, NdA e) ∧ (PyData.eqv d clN = true → Cls 2 r) ∧ r.length < 200 ∧ (splitM (d :: r)).1 ≠ [] ∧ Flat rows (splitM (d :: r)).2 ∧ Cls m (splitM (d :: r)).2 ∧ rows.length ≤ 200 ∧
  ((isGr (splitM (d :: r)).1 && goodM rows) = true → ∀ p hv g ys H', Same H H' → H g = Option.none → H' p = some (.tup [hv, .ref g]) → Dp K H' hv (.tuple (splitM (d :: r)).1) → H' g = some (.lst ys) → DpAll K H' ys ((goalsM rows).map PyData.tuple) → p ≠ g → Q (.ref p) H') ∧ ((isGr (splitM (d :: r)).1 && goodM rows) = false → ∀ H', Same H H' → E (ndC K) Option.none H')
def sp__law_leaf (K : PySem.W.Frag) : Sp := fun vs H Q _ => ∃ (s l : Addr) (wd : Int), vs = [.ref s, .int wd] ∧ Stm H s l ∧ 0 < wd ∧ wd ≤ 1000 ∧ ∀ v d H', NdA d → arN d = 0 → But s H H' → Stm H' s l → Frs K H H' v [d] → Q v H'
def sp__law_argument (K : PySem.W.Frag) : Sp := fun vs H Q _ => ∃ (s l : Addr) (wd : Int), vs = [.ref s, .int wd] ∧ Stm H s l ∧ 0 < wd ∧ wd ≤ 1000 ∧ ∀ v ds H', (∀ d ∈ ds, NdA d) → Cls 1 ds → ds.length ≤ 3 → But s H H' → Stm H' s l → Frs K H H' v ds → Q v H'
def sp__law_atom_of (K : PySem.W.Frag) : Sp := fun vs H Q _ => ∃ (s l : Addr) (wd : Int), vs = [.ref s, .int wd] ∧ Stm H s l ∧ 0 < wd ∧ wd ≤ 1000 ∧ ∀ v ds H', OkR ds → But s H H' → Stm H' s l → Frs K H H' v ds → Q v H'
def sp__law_odd (K : PySem.W.Frag) : Sp := fun vs H Q _ => ∃ (s l : Addr), vs = [.ref s] ∧ Stm H s l ∧ ∀ v ds H', OkR ds → But s H H' → Stm H' s l → Frs K H H' v ds → Q v H'
def sp__law_goal (K : PySem.W.Frag) : Sp := fun vs H Q _ => ∃ (x : V) (d : PyData) (r : List PyData), vs = [x] ∧ Dp K H x (.tuple (d :: r)) ∧ NdA d ∧ ∀ H', Same H H' → Q (.bl (isG d)) H'
def sp__law_nested (K : PySem.W.Frag) : Sp := fun vs H Q _ => ∃ (s l a : Addr) (xs : List V) (rows : List (List PyData)), vs = [.ref s, .ref a] ∧ Stm H s l ∧ a ≠ s ∧ H a = some (.lst xs) ∧ ImAll K (fun b => b ≠ s) H xs (rows.map PyData.tuple) ∧ (∀ r ∈ rows, OkR r) ∧ rows ≠ [] ∧ rows.length ≤ 5 ∧ ∀ v ds H', Flat rows ds → Cls 1 ds → (∀ d ∈ ds, NdA d) → ds.length ≤ 60 → But s H H' → Stm H' s l → Im K (fun b => b ≠ s) H' v (.tuple ds) → Q v H'
def sp__law_part (K : PySem.W.Frag) : Sp := fun vs H Q _ => ∃ (s l : Addr) (o : Bool), vs = [.ref s, .bl o] ∧ Stm H s l ∧ ∀ v ds H', OkR ds → But s H H' → Stm H' s l → Frs K H H' v ds → Q v H'
def sp_law (K : PySem.W.Frag) : Sp := fun vs H Q _ => ∃ (a : Addr) (ns : List Int), vs = [.ref a] ∧ SqL K H a (ns.map V.int) ∧ ns.length ≤ 63 ∧ ∀ H', Q (.bl true) H'

local macro_rules | `(tactic| walk_at "lits") => `(tactic| repeat' (first | exact lit_int | exact lit_str | exact lit_bl | exact lit_non | exact litA_nil | refine litA_cons ?_ ?_ | refine lit_tup ?_ (by decide) | refine lit_lst ?_ (by decide) | refine lit_neg ?_ | refine lit_sub ?_ ?_ | refine lit_pow ?_ ?_ ⟨by decide, by decide, by decide⟩ | refine lit_mulS ?_ ?_ ⟨by decide, by decide, by decide⟩))
section
variable {P : Program} {w : World} {K : PySem.W.Frag} {mg : Str → Option Value} {base : Heap}
theorem ok_is_symbol {f : Addr} {fd : FuncData} (F : Fun K "is_symbol" "is_symbol" s_is_symbol f fd) (E : Bi K mg)  : FnOk P w K mg base CX0 1 f fd ["node"] (sp_is_symbol K) := by
  refine F.ok sc_is_symbol (fun vs H Q E h => ?_) (fun cdv A outer s H vs Q E' hr h => ?_)
  · obtain ⟨x, d, rfl, _⟩ := h
    rfl
  · obtain ⟨x, d, rfl, hd, ⟨wd, nd⟩, q⟩ := h
    refine ⟨_, (pss_one (ps_ret (pe_and (pe_callB call_isi (by rfl) E.b_isinstance (by decide +kernel) (pa_cons (pv 0) (pa_cons (pe_ty "tuple" (by rfl) E.b_tuple (by decide +kernel)) pa_nil))) (pe_one (pe_cmpR op_eq (pe_ix ix_tup (pv 0) pe_int (fun _ _ => rfl)) pe_str (nomark _)))))), ?_⟩
    refine ⟨x, rfl, _, _, _, _, _, rfl, .ty _, tyx_of hd, kit_ty (kitT _), _, rfl, ?_⟩
    cases nd with
    | v n h1 h2 =>
      cases hd with
      | tup hs ha =>
        obtain ⟨v, hv, hdv⟩ := DpAll.get (i := 0) ha rfl
        cases hdv
        refine iteT ⟨_, rfl, _, _, _, _, rfl, rfl, hs, atI_nat (j := 0) hv, rfl, ?_⟩
        rw [show decide (V.str (Str.ofString "v") = V.str (Str.ofString "f")) = false by decide +kernel]
        exact q
    | i n h1 h2 => exact iteF q
    | f y n h1 h2 h3 =>
      cases hd with
      | tup hs ha =>
        obtain ⟨v, hv, hdv⟩ := DpAll.get (i := 0) ha rfl
        cases hdv
        refine iteT ⟨_, rfl, _, _, _, _, rfl, rfl, hs, atI_nat (j := 0) hv, rfl, ?_⟩
        rw [decide_eq_true rfl]
        exact q

theorem ok_is_control {f : Addr} {fd : FuncData} (F : Fun K "is_control" "is_control" s_is_control f fd) (E : Bi K mg)  : FnOk P w K mg base CX0 1 f fd ["name", "arity"] (sp_is_control K) := by
  obtain ⟨u_CONTROL, v_CONTROL, e_CONTROL, r_CONTROL, d_CONTROL⟩ := E.c_CONTROL
  refine F.ok sc_is_control (fun vs H Q E h => ?_) (fun cdv A outer s H vs Q E' hr h => ?_)
  · obtain ⟨x, n, rfl, _⟩ := h
    rfl
  · obtain ⟨x, n, rfl, hx, q⟩ := h
    refine ⟨_, (pss_one (ps_ret (pe_cmpR (op_inT (units65 hr)) (pe_tup (pa_cons (pv 0) (pa_cons (pv 1) pa_nil))) (pe_glob (by rfl) e_CONTROL r_CONTROL) (by rfl)))), ?_⟩
    refine ⟨_, rfl, _, rfl, (by show 2 ≤ sizeLine; decide), fun p np => ?_⟩
    have sp := same_upd (o := .tup [.str x, .int n]) np
    refine ⟨pd (x, n), CTL.map pd, .tup (SqT.of upd_same) (.cons (.str _) (.cons (.int _) .nil)), dp_same (none_same _) _ _ d_CONTROL, pd_shaped hx, (pds_shaped ctl_ok).1, ?_⟩
    rw [any_pd]
    exact q _ sp

theorem ok_is_built_in {f : Addr} {fd : FuncData} (F : Fun K "is_built_in" "is_built_in" s_is_built_in f fd) (E : Bi K mg)  : FnOk P w K mg base CX0 1 f fd ["name", "arity"] (sp_is_built_in K) := by
  obtain ⟨u_BUILT_IN, v_BUILT_IN, e_BUILT_IN, r_BUILT_IN, d_BUILT_IN⟩ := E.c_BUILT_IN
  refine F.ok sc_is_built_in (fun vs H Q E h => ?_) (fun cdv A outer s H vs Q E' hr h => ?_)
  · obtain ⟨x, n, rfl, _⟩ := h
    rfl
  · obtain ⟨x, n, rfl, hx, q⟩ := h
    refine ⟨_, (pss_one (ps_ret (pe_cmpR (op_inT (units65 hr)) (pe_tup (pa_cons (pv 0) (pa_cons (pv 1) pa_nil))) (pe_glob (by rfl) e_BUILT_IN r_BUILT_IN) (by rfl)))), ?_⟩
    refine ⟨_, rfl, _, rfl, (by show 2 ≤ sizeLine; decide), fun p np => ?_⟩
    have sp := same_upd (o := .tup [.str x, .int n]) np
    refine ⟨pd (x, n), BIN.map pd, .tup (SqT.of upd_same) (.cons (.str _) (.cons (.int _) .nil)), dp_same (none_same _) _ _ d_BUILT_IN, pd_shaped hx, (pds_shaped bin_ok).1, ?_⟩
    rw [any_pd]
    exact q _ sp

theorem ok__law_stream {f : Addr} {fd : FuncData} (F : Fun K "_law_stream" "_law_stream" s__law_stream f fd) (E : Bi K mg)  : FnOk P w K mg base CX0 1 f fd ["script"] (sp__law_stream K) := by
  refine F.ok sc__law_stream (fun vs H Q E h => ?_) (fun cdv A outer s H vs Q E' hr h => ?_)
  · obtain ⟨a, ns, rfl, _⟩ := h
    rfl
  · obtain ⟨a, ns, rfl, hS, hl, q⟩ := h
    refine ⟨_, (pss_cons (ps_set (i := 1) sc__law_stream.nd rfl (Or.inl rfl) pe_int)
      (pss_cons (ps_for PassesOwn.never rfl (pi_list (pv 0)) (pg_name (i := 2) sc__law_stream.nd rfl (Or.inl rfl)) (pss_one (ps_set (i := 1) sc__law_stream.nd rfl (Or.inl rfl) (pe_op op_mod (pe_callTy call_int1 (by rfl) E.b_int (by decide +kernel) (pa_cons (pe_op op_add (pe_op op_add (pe_op op_mul (pv 1) pe_int) (pe_op op_mod (pe_callTy call_int1 (by rfl) E.b_int (by decide +kernel) (pa_cons (pv 2) pa_nil)) pe_int)) pe_int) pa_nil)) pe_int))))
      (pss_one (ps_ret (pe_lst (pa_cons (pe_callTy call_list_of (by rfl) E.b_list (by decide +kernel) (pa_cons (pv 0) pa_nil)) (pa_cons pe_int (pa_cons pe_int (pa_cons (pv 1) pa_nil))))))))), ?_⟩
    refine ⟨_, rfl, a, rfl, ⟨_, hS⟩, for_list (K := K) (a := a) (xs := ns.map V.int) (fun i σ H1 => ∃ (m : Int) (v : Option V), σ = [some (.ref a), some (.int m), v] ∧ H1 = H ∧ 0 ≤ m ∧ m < 2147483647)
      ⟨17, none, rfl, rfl, by decide, by decide⟩ (fun i σ H1 _ ⟨_, _, _, e, _⟩ => by rw [e]; exact hS) ?_ ?_⟩
    · rintro i y σ H1 hi ⟨m, v, rfl, rfl, h0, h1⟩
      obtain ⟨z, rfl⟩ : ∃ z, y = V.int z := by
        rw [List.getElem?_map] at hi
        cases e : ns[i]? with
        | none =>
          rw [e] at hi
          cases hi
        | some z =>
          rw [e] at hi
          exact ⟨z, (Option.some.inj hi).symm⟩
      refine ⟨_, rfl, _, _, rfl, rfl, .inr ⟨by decide, by decide⟩, _, rfl, .inl ⟨_, rfl, _, _, rfl, rfl, (by decide : (0 : Int) < 65521), _, _, rfl, rfl, _, _, rfl, rfl, .inl ⟨_, rfl, _, _, rfl, rfl, (by decide : (0 : Int) < 2147483647), ?_⟩⟩⟩
      exact ⟨_, _, rfl, rfl, Int.emod_nonneg _ (by decide), Int.emod_lt_of_pos _ (by decide)⟩
    · rintro σ H1 ⟨m, v, rfl, rfl, h0, h1⟩
      refine ⟨_, rfl, a, _, rfl, .inl hS, fun l hl2 => ⟨_, rfl, (by show 4 ≤ sizeLine; decide), fun p hp => ?_⟩⟩
      have npl : l ≠ p := fun z => by
        rw [← z, upd_same] at hp
        cases hp
      refine q p l _ ((same_upd hl2).free hp) hl2 ((same_upd hl2).trans (same_upd hp)) ⟨0, 0, m, ns, upd_same, ?_, hl, Int.le_refl 0, Int.le_refl 0, h0, h1⟩
      rw [upd_ne npl, upd_same]

theorem ok__law_draw {f : Addr} {fd : FuncData} (F : Fun K "_law_draw" "_law_draw" s__law_draw f fd) (E : Bi K mg)  : FnOk P w K mg base CX0 1 f fd ["stream", "many"] (sp__law_draw K) := by
  refine F.ok sc__law_draw (fun vs H Q E h => ?_) (fun cdv A outer s H vs Q E' hr h => ?_)
  · obtain ⟨s, l, n, rfl, _⟩ := h
    rfl
  · obtain ⟨p, l, n, rfl, hS, hn, hn2, q⟩ := h
    obtain ⟨a, b, m, ns, h1, h2, hlen, ha, hb, hm, hm2⟩ := hS.ex
    have nlp : l ≠ p := fun z => by
      rw [z, h1] at h2
      have h3 := HO.lst.inj (Option.some.inj h2)
      cases ns with
      | nil => cases h3
      | cons x r => cases (List.cons.inj h3).1
    refine ⟨_, (pss_cons (ps_if (pw_and (pt_cmpR op_eq (pe_ix ix_list (pv 0) pe_int (fun _ _ => rfl)) pe_int (nomark _)) (pw_and1 (pt_cmpR op_lt (pe_ix ix_list (pv 0) pe_int (fun _ _ => rfl)) (pe_callB call_len_seq (by rfl) E.b_len PySem.boot_len (pa_cons (pe_ix ix_list (pv 0) pe_int (fun _ _ => rfl)) pa_nil)) (nomark _)))).pt (pss_cons (ps_asg (pe_callB call_abs (by rfl) E.b_abs (by decide +kernel) (pa_cons (pe_callTy call_int1 (by rfl) E.b_int (by decide +kernel) (pa_cons (pe_ix ix_list (pe_ix ix_list (pv 0) pe_int (fun _ _ => rfl)) (pe_ix ix_list (pv 0) pe_int (fun _ _ => rfl)) (fun _ _ => rfl)) pa_nil)) pa_nil)) (pg_sub (pv 0) pe_int set_list))
      (pss_one (ps_asg (pe_op op_add (pe_ix ix_list (pv 0) pe_int (fun _ _ => rfl)) pe_int) (pg_sub (pv 0) pe_int set_list)))) pss_nil)
      (pss_cons (ps_if (pt_cmpR op_eq (pe_ix ix_list (pv 0) pe_int (fun _ _ => rfl)) pe_int (nomark _)) (pss_cons (ps_asg (pe_op op_mod (pe_callTy call_int1 (by rfl) E.b_int (by decide +kernel) (pa_cons (pe_op op_add (pe_op op_mul (pe_ix ix_list (pv 0) pe_int (fun _ _ => rfl)) pe_int) pe_int) pa_nil)) pe_int) (pg_sub (pv 0) pe_int set_list))
      (pss_one (ps_ret (pe_op op_mod (pe_callTy call_int1 (by rfl) E.b_int (by decide +kernel) (pa_cons (pe_op op_fdivW (pe_ix ix_list (pv 0) pe_int (fun _ _ => rfl)) pe_int) pa_nil)) (pv 1))))) pss_nil)
      (pss_cons (ps_set (i := 2) sc__law_draw.nd rfl (Or.inl rfl) (pe_op op_mod (pe_callTy call_int1 (by rfl) E.b_int (by decide +kernel) (pa_cons (pe_ix ix_list (pv 0) pe_int (fun _ _ => rfl)) pa_nil)) (pv 1)))
      (pss_cons (ps_asg (pe_op op_fdivW (pe_ix ix_list (pv 0) pe_int (fun _ _ => rfl)) (pv 1)) (pg_sub (pv 0) pe_int set_list))
      (pss_one (ps_ret (pv 2))))))), ?_⟩
    refine ⟨_, rfl, _, _, _, _, rfl, rfl, SqL.of h1, atI_nat (j := 1) rfl, rfl, _, rfl, ite2 (fun e => ?_) (fun e => ?_)⟩
    · refine ⟨_, rfl, _, _, _, _, rfl, rfl, SqL.of h1, atI_nat (j := 2) rfl, _, rfl, _, _, _, _, rfl, rfl, SqL.of h1, atI_nat (j := 0) rfl, _, _, rfl, .inl (SqL.of h2), _, _, rfl, rfl, _, rfl, ite2 (fun e1 => ?_) (fun e1 => ?_)⟩
      · have e2 : b < (ns.map V.int).length := of_decide_eq_true e1
        rw [List.length_map] at e2
        have hz : (ns.map V.int)[b.toNat]? = some (V.int (ns[b.toNat]'(by omega))) := by
          rw [List.getElem?_map, List.getElem?_eq_getElem (by omega)]
          rfl
        refine ⟨_, rfl, _, _, _, _, rfl, rfl, SqL.of h1, atI_nat (j := 0) rfl, _, rfl, _, _, _, _, rfl, rfl, SqL.of h1, atI_nat (j := 2) rfl, _, _, _, _, rfl, rfl, SqL.of h2, at_of (j := b.toNat) (by omega) hz, .inl ⟨_, rfl, _, rfl, _, rfl, _, _, _, _, rfl, rfl, h1, rfl, ?_⟩⟩
        refine ⟨_, rfl, _, _, _, _, rfl, rfl, SqL.of upd_same, atI_nat (j := 2) rfl, _, _, rfl, rfl, _, rfl, _, _, _, _, rfl, rfl, upd_same, rfl, ?_⟩
        generalize hH : upd _ p _ = H1
        have hX : ∃ a' b' : Int, H1 p = some (.lst [.ref l, .int a', .int b', .int m]) ∧ 0 ≤ a' ∧ 0 ≤ b' := ⟨_, _, by rw [← hH]; exact upd_same, by split <;> omega, by omega⟩
        have hB : But p H H1 := by rw [← hH]; exact But.put.trans But.put
        have hL : H1 l = some (.lst (ns.map V.int)) := hB l _ nlp h2
        clear hH
        obtain ⟨a', b', hX, ha', hb'⟩ := hX
        refine ⟨_, rfl, _, _, _, _, rfl, rfl, SqL.of hX, atI_nat (j := 1) rfl, rfl, _, rfl, ite2 (fun e3 => ?_) (fun e3 => ?_)⟩
        · refine ⟨_, rfl, _, _, _, _, rfl, rfl, SqL.of hX, atI_nat (j := 3) rfl, _, _, rfl, rfl, .inr ⟨by decide, by decide⟩, _, _, rfl, rfl, .inl ⟨_, rfl, _, _, rfl, rfl, (by decide : (0 : Int) < 2147483647), _, rfl, _, _, _, _, rfl, rfl, hX, rfl, ?_⟩⟩
          refine ⟨_, rfl, _, _, _, _, rfl, rfl, SqL.of upd_same, atI_nat (j := 3) rfl, _, _, rfl, rfl, wide_div (b := 64) (by decide) (by decide) (by decide) (by decide), .inl ⟨_, rfl, _, rfl, _, _, rfl, rfl, hn, ?_⟩⟩
          exact q _ _ (Int.emod_nonneg _ (by omega)) (Int.emod_lt_of_pos _ hn) (hB.trans But.put) ⟨a', b', _, ns, upd_same, by rw [upd_ne nlp]; exact hL, hlen, ha', hb', Int.emod_nonneg _ (by decide), Int.emod_lt_of_pos _ (by decide)⟩
        · refine ⟨_, rfl, _, _, _, _, rfl, rfl, SqL.of hX, atI_nat (j := 1) rfl, .inl ⟨_, rfl, _, rfl, _, _, rfl, rfl, hn, ?_⟩⟩
          refine ⟨_, rfl, _, _, _, _, rfl, rfl, SqL.of hX, atI_nat (j := 1) rfl, _, rfl, _, _, rfl, rfl, wide_div hn hn2 (by decide) (by decide), _, rfl, _, _, _, _, rfl, rfl, hX, rfl, ?_⟩
          refine ⟨_, rfl, ?_⟩
          exact q _ _ (Int.emod_nonneg _ (by omega)) (Int.emod_lt_of_pos _ hn) (hB.trans But.put) ⟨_, b', m, ns, upd_same, by rw [upd_ne nlp]; exact hL, hlen, Int.ediv_nonneg ha' (by omega), hb', hm, hm2⟩
      · have hX : ∃ a' b' : Int, H p = some (.lst [.ref l, .int a', .int b', .int m]) ∧ 0 ≤ a' ∧ 0 ≤ b' := ⟨_, _, h1, ha, hb⟩
        have hB : But p H H := But.refl p H
        have hL := h2
        obtain ⟨a', b', hX, ha', hb'⟩ := hX
        refine ⟨_, rfl, _, _, _, _, rfl, rfl, SqL.of hX, atI_nat (j := 1) rfl, rfl, _, rfl, ite2 (fun e3 => ?_) (fun e3 => ?_)⟩
        · refine ⟨_, rfl, _, _, _, _, rfl, rfl, SqL.of hX, atI_nat (j := 3) rfl, _, _, rfl, rfl, .inr ⟨by decide, by decide⟩, _, _, rfl, rfl, .inl ⟨_, rfl, _, _, rfl, rfl, (by decide : (0 : Int) < 2147483647), _, rfl, _, _, _, _, rfl, rfl, hX, rfl, ?_⟩⟩
          refine ⟨_, rfl, _, _, _, _, rfl, rfl, SqL.of upd_same, atI_nat (j := 3) rfl, _, _, rfl, rfl, wide_div (b := 64) (by decide) (by decide) (by decide) (by decide), .inl ⟨_, rfl, _, rfl, _, _, rfl, rfl, hn, ?_⟩⟩
          exact q _ _ (Int.emod_nonneg _ (by omega)) (Int.emod_lt_of_pos _ hn) (hB.trans But.put) ⟨a', b', _, ns, upd_same, by rw [upd_ne nlp]; exact hL, hlen, ha', hb', Int.emod_nonneg _ (by decide), Int.emod_lt_of_pos _ (by decide)⟩
        · refine ⟨_, rfl, _, _, _, _, rfl, rfl, SqL.of hX, atI_nat (j := 1) rfl, .inl ⟨_, rfl, _, rfl, _, _, rfl, rfl, hn, ?_⟩⟩
          refine ⟨_, rfl, _, _, _, _, rfl, rfl, SqL.of hX, atI_nat (j := 1) rfl, _, rfl, _, _, rfl, rfl, wide_div hn hn2 (by decide) (by decide), _, rfl, _, _, _, _, rfl, rfl, hX, rfl, ?_⟩
          refine ⟨_, rfl, ?_⟩
          exact q _ _ (Int.emod_nonneg _ (by omega)) (Int.emod_lt_of_pos _ hn) (hB.trans But.put) ⟨_, b', m, ns, upd_same, by rw [upd_ne nlp]; exact hL, hlen, Int.ediv_nonneg ha' (by omega), hb', hm, hm2⟩
    · have hX : ∃ a' b' : Int, H p = some (.lst [.ref l, .int a', .int b', .int m]) ∧ 0 ≤ a' ∧ 0 ≤ b' := ⟨_, _, h1, ha, hb⟩
      have hB : But p H H := But.refl p H
      have hL := h2
      obtain ⟨a', b', hX, ha', hb'⟩ := hX
      refine ⟨_, rfl, _, _, _, _, rfl, rfl, SqL.of hX, atI_nat (j := 1) rfl, rfl, _, rfl, ite2 (fun e3 => ?_) (fun e3 => ?_)⟩
      · refine ⟨_, rfl, _, _, _, _, rfl, rfl, SqL.of hX, atI_nat (j := 3) rfl, _, _, rfl, rfl, .inr ⟨by decide, by decide⟩, _, _, rfl, rfl, .inl ⟨_, rfl, _, _, rfl, rfl, (by decide : (0 : Int) < 2147483647), _, rfl, _, _, _, _, rfl, rfl, hX, rfl, ?_⟩⟩
        refine ⟨_, rfl, _, _, _, _, rfl, rfl, SqL.of upd_same, atI_nat (j := 3) rfl, _, _, rfl, rfl, wide_div (b := 64) (by decide) (by decide) (by decide) (by decide), .inl ⟨_, rfl, _, rfl, _, _, rfl, rfl, hn, ?_⟩⟩
        exact q _ _ (Int.emod_nonneg _ (by omega)) (Int.emod_lt_of_pos _ hn) (hB.trans But.put) ⟨a', b', _, ns, upd_same, by rw [upd_ne nlp]; exact hL, hlen, ha', hb', Int.emod_nonneg _ (by decide), Int.emod_lt_of_pos _ (by decide)⟩
      · refine ⟨_, rfl, _, _, _, _, rfl, rfl, SqL.of hX, atI_nat (j := 1) rfl, .inl ⟨_, rfl, _, rfl, _, _, rfl, rfl, hn, ?_⟩⟩
        refine ⟨_, rfl, _, _, _, _, rfl, rfl, SqL.of hX, atI_nat (j := 1) rfl, _, rfl, _, _, rfl, rfl, wide_div hn hn2 (by decide) (by decide), _, rfl, _, _, _, _, rfl, rfl, hX, rfl, ?_⟩
        refine ⟨_, rfl, ?_⟩
        exact q _ _ (Int.emod_nonneg _ (by omega)) (Int.emod_lt_of_pos _ hn) (hB.trans But.put) ⟨_, b', m, ns, upd_same, by rw [upd_ne nlp]; exact hL, hlen, Int.ediv_nonneg ha' (by omega), hb', hm, hm2⟩

theorem ok__law_goal {f : Addr} {fd : FuncData} (F : Fun K "_law_goal" "_law_goal" s__law_goal f fd) (E : Bi K mg)  : FnOk P w K mg base CX0 1 f fd ["term"] (sp__law_goal K) := by
  refine F.ok sc__law_goal (fun vs H Q E h => ?_) (fun cdv A outer s H vs Q E' hr h => ?_)
  · obtain ⟨x, d, r, rfl, _⟩ := h
    rfl
  · obtain ⟨x, d, r, rfl, hx, hn, q⟩ := h
    refine ⟨_, (pss_cons (ps_set (i := 1) sc__law_goal.nd rfl (Or.inl rfl) (pe_ix ix_tup (pv 0) pe_int (fun _ _ => rfl)))
      (pss_cons (ps_if (pw_or (pt_not (pt_val (pe_callB call_isi (by rfl) E.b_isinstance (by decide +kernel) (pa_cons (pv 1) (pa_cons (pe_ty "tuple" (by rfl) E.b_tuple (by decide +kernel)) pa_nil))))) (pw_or1 (pt_cmpR op_ne (pe_ix ix_tup (pv 1) pe_int (fun _ _ => rfl)) pe_str (nomark _)))).pt (pss_one (ps_ret pe_bl)) pss_nil)
      (pss_cons (ps_if (pw_and (pt_cmpR op_eq (pe_ix ix_tup (pv 1) pe_int (fun _ _ => rfl)) pe_str (nomark _)) (pw_and1 (pt_cmpR op_ge (pe_ix ix_tup (pv 1) pe_int (fun _ _ => rfl)) pe_int (nomark _)))).pt (pss_one (ps_ret pe_bl)) pss_nil)
      (pss_cons (ps_set (i := 2) sc__law_goal.nd rfl (Or.inl rfl) (pe_lst (pa_cons (pe_tup (pa_cons pe_str (pa_cons pe_int pa_nil))) (pa_cons (pe_tup (pa_cons pe_str (pa_cons pe_int pa_nil))) (pa_cons (pe_tup (pa_cons pe_str (pa_cons pe_int pa_nil))) (pa_cons (pe_tup (pa_cons pe_str (pa_cons pe_int pa_nil))) (pa_cons (pe_tup (pa_cons pe_str (pa_cons pe_int pa_nil))) (pa_cons (pe_tup (pa_cons pe_str (pa_cons pe_int pa_nil))) (pa_cons (pe_tup (pa_cons pe_str (pa_cons pe_int pa_nil))) (pa_cons (pe_tup (pa_cons pe_str (pa_cons pe_int pa_nil))) pa_nil))))))))))
      (pss_cons (ps_set (i := 2) sc__law_goal.nd rfl (Or.inl rfl) (pe_op op_cat (pv 2) (pe_lst (pa_cons (pe_tup (pa_cons pe_str (pa_cons pe_int pa_nil))) (pa_cons (pe_tup (pa_cons pe_str (pa_cons pe_int pa_nil))) (pa_cons (pe_tup (pa_cons pe_str (pa_cons pe_int pa_nil))) (pa_cons (pe_tup (pa_cons pe_str (pa_cons pe_int pa_nil))) (pa_cons (pe_tup (pa_cons pe_str (pa_cons pe_int pa_nil))) (pa_cons (pe_tup (pa_cons pe_str (pa_cons pe_int pa_nil))) (pa_cons (pe_tup (pa_cons pe_str (pa_cons pe_int pa_nil))) pa_nil))))))))))
      (pss_cons (ps_set (i := 2) sc__law_goal.nd rfl (Or.inl rfl) (pe_op op_cat (pv 2) (pe_lst (pa_cons (pe_tup (pa_cons pe_str (pa_cons pe_int pa_nil))) (pa_cons (pe_tup (pa_cons pe_str (pa_cons pe_int pa_nil))) (pa_cons (pe_tup (pa_cons pe_str (pa_cons pe_int pa_nil))) (pa_cons (pe_tup (pa_cons pe_str (pa_cons pe_int pa_nil))) (pa_cons (pe_tup (pa_cons pe_str (pa_cons pe_int pa_nil))) (pa_cons (pe_tup (pa_cons pe_str (pa_cons pe_int pa_nil))) pa_nil)))))))))
      (pss_cons (ps_set (i := 2) sc__law_goal.nd rfl (Or.inl rfl) (pe_op op_cat (pv 2) (pe_lst (pa_cons (pe_tup (pa_cons pe_str (pa_cons pe_int pa_nil))) (pa_cons (pe_tup (pa_cons pe_str (pa_cons pe_int pa_nil))) (pa_cons (pe_tup (pa_cons pe_str (pa_cons pe_int pa_nil))) (pa_cons (pe_tup (pa_cons pe_str (pa_cons pe_int pa_nil))) (pa_cons (pe_tup (pa_cons pe_str (pa_cons pe_int pa_nil))) (pa_cons (pe_tup (pa_cons pe_str (pa_cons pe_int pa_nil))) pa_nil)))))))))
      (pss_cons (ps_set (i := 2) sc__law_goal.nd rfl (Or.inl rfl) (pe_op op_cat (pv 2) (pe_lst (pa_cons (pe_tup (pa_cons pe_str (pa_cons pe_int pa_nil))) (pa_cons (pe_tup (pa_cons pe_str (pa_cons pe_int pa_nil))) (pa_cons (pe_tup (pa_cons pe_str (pa_cons pe_int pa_nil))) (pa_cons (pe_tup (pa_cons pe_str (pa_cons pe_int pa_nil))) (pa_cons (pe_tup (pa_cons pe_str (pa_cons pe_int pa_nil))) (pa_cons (pe_tup (pa_cons pe_str (pa_cons pe_int pa_nil))) (pa_cons (pe_tup (pa_cons pe_str (pa_cons pe_int pa_nil))) pa_nil))))))))))
      (pss_cons (ps_set (i := 2) sc__law_goal.nd rfl (Or.inl rfl) (pe_op op_cat (pv 2) (pe_lst (pa_cons (pe_tup (pa_cons pe_str (pa_cons pe_int pa_nil))) (pa_cons (pe_tup (pa_cons pe_str (pa_cons pe_int pa_nil))) (pa_cons (pe_tup (pa_cons pe_str (pa_cons pe_int pa_nil))) pa_nil))))))
      (pss_one (ps_ret (pe_cmpR (op_notInD (units65 hr)) (pe_tup (pa_cons (pe_ix ix_tup (pv 1) pe_int (fun _ _ => rfl)) (pa_cons (pe_ix ix_tup (pv 1) pe_int (fun _ _ => rfl)) pa_nil))) (pv 2) (by rfl))))))))))))), ?_⟩
    cases id hx with
    | @tup a xs _ hs ha =>
    obtain ⟨v0, hv0, dv0⟩ := DpAll.get (i := 0) ha rfl
    refine seq_asg ?_
    refine ⟨_, rfl, _, _, _, _, rfl, rfl, hs, atI_nat (j := 0) hv0, gname (seq_ifN ?_)⟩
    refine ⟨_, rfl, _, _, _, _, _, rfl, .ty _, tyx_of dv0, kit_ty (kitT _), _, rfl, ?_⟩
    obtain ⟨wd, nd⟩ := id hn
    cases nd with
    | i n z1 z2 => exact iteT (iteT (q _ (Same.refl H)))
    | v n z1 z2 =>
      cases dv0 with
      | @tup c zs _ hz az =>
      obtain ⟨w0, hw0, dw0⟩ := DpAll.get (i := 0) az rfl
      cases dw0
      refine iteF ⟨_, rfl, _, _, _, _, rfl, rfl, hz, atI_nat (j := 0) hw0, rfl, _, rfl, ?_⟩
      rw [show decide (V.str (Str.ofString "v") = V.str (Str.ofString "f")) = false by decide +kernel]
      exact iteT (q _ (Same.refl H))
    | f y n z0 z1 z2 =>
      cases dv0 with
      | @tup c zs _ hz az =>
      obtain ⟨w0, hw0, dw0⟩ := DpAll.get (i := 0) az rfl
      obtain ⟨w1, hw1, dw1⟩ := DpAll.get (i := 1) az rfl
      obtain ⟨w2, hw2, dw2⟩ := DpAll.get (i := 2) az rfl
      cases dw0
      cases dw1
      cases dw2
      have gl := goal_law (x := y) z2
      refine iteF ⟨_, rfl, _, _, _, _, rfl, rfl, hz, atI_nat (j := 0) hw0, rfl, _, rfl, ?_⟩
      rw [decide_eq_true rfl]
      refine iteF ?_
      refine seq_via (fun σ' H' => σ' = [some (.ref a), some (.ref c), none] ∧ H' = H ∧ (decide (y = "call") && decide (1 ≤ n)) = false) ?_ (fun go => ?_)
      · rintro σ' H' ⟨rfl, rfl, hc⟩
        refine seq_asg ?_
        refine lit_lst (K := K) (ds := LC1.map pd) ?_ (by decide) H' _ fun v1 H1 t1 i1 => ?_
        · unfold LC1
          simp only [List.map_cons, List.map_nil, pd]
          walk_at "lits"
        cases i1 with
        | @lst p1 xs1 _ g1 e1 a1 =>
        have D1 : DpAll K H1 xs1 (LC1.map pd) := Im.dpAll _ _ a1
        have L1 := DpAll.len D1
        have S1 := t1
        refine gname (seq_asg ?_)
        refine ⟨_, rfl, ?_⟩
        refine lit_lst (K := K) (ds := LC2.map pd) ?_ (by decide) _ _ fun v2 G2 t2 i2 => ?_
        · unfold LC2
          simp only [List.map_cons, List.map_nil, pd]
          walk_at "lits"
        cases i2 with
        | @lst q2 zs2 _ g2 f2 a2 =>
        have M2 := DpAll.len (Im.dpAll _ _ a2)
        refine ⟨_, _, _, _, rfl, rfl, t2 _ _ e1, f2, small_of (by rw [L1, M2]; decide), fun p2 np2 => ?_⟩
        have u2 := same_upd (o := .lst (xs1 ++ zs2)) np2
        have D2 : DpAll K (upd G2 p2 (.lst (xs1 ++ zs2))) (xs1 ++ zs2) (LC1.map pd ++ LC2.map pd) := DpAll.app (dp_sameAll (t2.trans u2) _ _ D1) (dp_sameAll u2 _ _ (Im.dpAll _ _ a2))
        have L2 := DpAll.len D2
        have S2 := S1.trans (t2.trans u2)
        have e2 : (upd G2 p2 (.lst (xs1 ++ zs2))) p2 = some (.lst (xs1 ++ zs2)) := upd_same
        clear np2 u2 f2 g2 a2 M2
        generalize upd G2 p2 (.lst (xs1 ++ zs2)) = H2 at D2 S2 e2
        generalize xs1 ++ zs2 = xs2 at D2 e2 L2
        refine gname (seq_asg ?_)
        refine ⟨_, rfl, ?_⟩
        refine lit_lst (K := K) (ds := LC3.map pd) ?_ (by decide) _ _ fun v3 G3 t3 i3 => ?_
        · unfold LC3
          simp only [List.map_cons, List.map_nil, pd]
          walk_at "lits"
        cases i3 with
        | @lst q3 zs3 _ g3 f3 a3 =>
        have M3 := DpAll.len (Im.dpAll _ _ a3)
        refine ⟨_, _, _, _, rfl, rfl, t3 _ _ e2, f3, small_of (by rw [L2, M3]; decide), fun p3 np3 => ?_⟩
        have u3 := same_upd (o := .lst (xs2 ++ zs3)) np3
        have D3 : DpAll K (upd G3 p3 (.lst (xs2 ++ zs3))) (xs2 ++ zs3) (LC1.map pd ++ LC2.map pd ++ LC3.map pd) := DpAll.app (dp_sameAll (t3.trans u3) _ _ D2) (dp_sameAll u3 _ _ (Im.dpAll _ _ a3))
        have L3 := DpAll.len D3
        have S3 := S2.trans (t3.trans u3)
        have e3 : (upd G3 p3 (.lst (xs2 ++ zs3))) p3 = some (.lst (xs2 ++ zs3)) := upd_same
        clear np3 u3 f3 g3 a3 M3
        generalize upd G3 p3 (.lst (xs2 ++ zs3)) = H3 at D3 S3 e3
        generalize xs2 ++ zs3 = xs3 at D3 e3 L3
        refine gname (seq_asg ?_)
        refine ⟨_, rfl, ?_⟩
        refine lit_lst (K := K) (ds := LC4.map pd) ?_ (by decide) _ _ fun v4 G4 t4 i4 => ?_
        · unfold LC4
          simp only [List.map_cons, List.map_nil, pd]
          walk_at "lits"
        cases i4 with
        | @lst q4 zs4 _ g4 f4 a4 =>
        have M4 := DpAll.len (Im.dpAll _ _ a4)
        refine ⟨_, _, _, _, rfl, rfl, t4 _ _ e3, f4, small_of (by rw [L3, M4]; decide), fun p4 np4 => ?_⟩
        have u4 := same_upd (o := .lst (xs3 ++ zs4)) np4
        have D4 : DpAll K (upd G4 p4 (.lst (xs3 ++ zs4))) (xs3 ++ zs4) (LC1.map pd ++ LC2.map pd ++ LC3.map pd ++ LC4.map pd) := DpAll.app (dp_sameAll (t4.trans u4) _ _ D3) (dp_sameAll u4 _ _ (Im.dpAll _ _ a4))
        have L4 := DpAll.len D4
        have S4 := S3.trans (t4.trans u4)
        have e4 : (upd G4 p4 (.lst (xs3 ++ zs4))) p4 = some (.lst (xs3 ++ zs4)) := upd_same
        clear np4 u4 f4 g4 a4 M4
        generalize upd G4 p4 (.lst (xs3 ++ zs4)) = H4 at D4 S4 e4
        generalize xs3 ++ zs4 = xs4 at D4 e4 L4
        refine gname (seq_asg ?_)
        refine ⟨_, rfl, ?_⟩
        refine lit_lst (K := K) (ds := LC5.map pd) ?_ (by decide) _ _ fun v5 G5 t5 i5 => ?_
        · unfold LC5
          simp only [List.map_cons, List.map_nil, pd]
          walk_at "lits"
        cases i5 with
        | @lst q5 zs5 _ g5 f5 a5 =>
        have M5 := DpAll.len (Im.dpAll _ _ a5)
        refine ⟨_, _, _, _, rfl, rfl, t5 _ _ e4, f5, small_of (by rw [L4, M5]; decide), fun p5 np5 => ?_⟩
        have u5 := same_upd (o := .lst (xs4 ++ zs5)) np5
        have D5 : DpAll K (upd G5 p5 (.lst (xs4 ++ zs5))) (xs4 ++ zs5) (LC1.map pd ++ LC2.map pd ++ LC3.map pd ++ LC4.map pd ++ LC5.map pd) := DpAll.app (dp_sameAll (t5.trans u5) _ _ D4) (dp_sameAll u5 _ _ (Im.dpAll _ _ a5))
        have L5 := DpAll.len D5
        have S5 := S4.trans (t5.trans u5)
        have e5 : (upd G5 p5 (.lst (xs4 ++ zs5))) p5 = some (.lst (xs4 ++ zs5)) := upd_same
        clear np5 u5 f5 g5 a5 M5
        generalize upd G5 p5 (.lst (xs4 ++ zs5)) = H5 at D5 S5 e5
        generalize xs4 ++ zs5 = xs5 at D5 e5 L5
        refine gname (seq_asg ?_)
        refine ⟨_, rfl, ?_⟩
        refine lit_lst (K := K) (ds := LC6.map pd) ?_ (by decide) _ _ fun v6 G6 t6 i6 => ?_
        · unfold LC6
          simp only [List.map_cons, List.map_nil, pd]
          walk_at "lits"
        cases i6 with
        | @lst q6 zs6 _ g6 f6 a6 =>
        have M6 := DpAll.len (Im.dpAll _ _ a6)
        refine ⟨_, _, _, _, rfl, rfl, t6 _ _ e5, f6, small_of (by rw [L5, M6]; decide), fun p6 np6 => ?_⟩
        have u6 := same_upd (o := .lst (xs5 ++ zs6)) np6
        have D6 : DpAll K (upd G6 p6 (.lst (xs5 ++ zs6))) (xs5 ++ zs6) (LC1.map pd ++ LC2.map pd ++ LC3.map pd ++ LC4.map pd ++ LC5.map pd ++ LC6.map pd) := DpAll.app (dp_sameAll (t6.trans u6) _ _ D5) (dp_sameAll u6 _ _ (Im.dpAll _ _ a6))
        have L6 := DpAll.len D6
        have S6 := S5.trans (t6.trans u6)
        have e6 : (upd G6 p6 (.lst (xs5 ++ zs6))) p6 = some (.lst (xs5 ++ zs6)) := upd_same
        clear np6 u6 f6 g6 a6 M6
        generalize upd G6 p6 (.lst (xs5 ++ zs6)) = H6 at D6 S6 e6
        generalize xs5 ++ zs6 = xs6 at D6 e6 L6
        refine gname ?_
        have hz6 := same_sqT S6 hz
        refine ⟨_, rfl, _, _, _, _, rfl, rfl, hz6, atI_nat (j := 1) hw1, _, rfl, _, _, _, _, rfl, rfl, hz6, atI_nat (j := 2) hw2, (by show 2 ≤ sizeLine; decide), fun p np => ⟨_, rfl, ?_⟩⟩
        have sp := same_upd (o := .tup [.str y, .int n]) np
        have eL : LC1.map pd ++ LC2.map pd ++ LC3.map pd ++ LC4.map pd ++ LC5.map pd ++ LC6.map pd = LCT.map pd := by unfold LCT; simp only [List.map_append]
        rw [eL] at D6
        refine ⟨pd (y, n), LCT.map pd, .tup (SqT.of upd_same) (.cons (.str _) (.cons (.int _) .nil)), .lst (SqL.of (sp _ _ e6)) (dp_sameAll sp _ _ D6), pd_shaped z0, (pds_shaped lct_ok).2, ?_⟩
        rw [any_pd]
        have := q _ (S6.trans sp)
        rw [show isG (.tuple [.str "f", .str y, .int n]) = _ from gl, hc] at this
        exact this
      · refine ⟨_, rfl, _, _, _, _, rfl, rfl, hz, atI_nat (j := 1) hw1, rfl, _, rfl, ?_⟩
        by_cases c1 : y = "call"
        · rw [decide_eq_true (show V.str y = V.str (Str.ofString "call") from congrArg V.str c1)]
          refine iteT ⟨_, rfl, _, _, _, _, rfl, rfl, hz, atI_nat (j := 2) hw2, _, _, rfl, rfl, _, rfl, ite2 (fun e => ?_) (fun e => ?_)⟩
          · have := q _ (Same.refl H)
            rw [show isG (.tuple [.str "f", .str y, .int n]) = _ from gl, decide_eq_true c1, e] at this
            exact this
          · exact go _ _ ⟨rfl, rfl, by rw [Bool.eq_false_iff.mpr e, Bool.and_false]⟩
        · rw [decide_eq_false (fun z => c1 (V.str.inj z))]
          exact iteF (iteF (go _ _ ⟨rfl, rfl, by rw [decide_eq_false c1]; rfl⟩))

theorem ok_arity_of {f : Addr} {fd : FuncData} (F : Fun K "arity_of" "arity_of" s_arity_of f fd) (E : Bi K mg) (D_is_symbol : Has P w K mg base 1 "is_symbol" ["node"] (sp_is_symbol K)) : FnOk P w K mg base CX0 2 f fd ["node"] (sp_arity_of K) := by
  obtain ⟨f_is_symbol, fd_is_symbol, G_is_symbol, g_is_symbol, kp_is_symbol, b_is_symbol⟩ := D_is_symbol
  refine F.ok sc_arity_of (fun vs H Q E h => ?_) (fun cdv A outer s H vs Q E' hr h => ?_)
  · obtain ⟨x, d, rfl, _⟩ := h
    rfl
  · obtain ⟨x, d, rfl, hd, hn, q⟩ := h
    refine ⟨_, (pss_one (ps_ret (pe_ifExp (pt_val (pe_call G_is_symbol (hr.mono (by decide)) (by rfl) g_is_symbol kp_is_symbol b_is_symbol .nil pass0 (pa_cons (pv 0) pa_nil))) (pe_ix ix_tup (pv 0) pe_int (fun _ _ => rfl)) pe_int))), ?_⟩
    refine ⟨x, rfl, x, d, rfl, hd, hn, _, rfl, ite2 (fun e => ?_) (fun e => ?_)⟩
    · obtain ⟨wd, nd⟩ := hn
      cases nd with
      | v n h1 h2 => cases e
      | i n h1 h2 => cases e
      | f y n h1 h2 h3 =>
        cases hd with
        | tup hs ha =>
          obtain ⟨v, hv, hdv⟩ := DpAll.get (i := 2) ha rfl
          cases hdv
          refine ⟨_, rfl, _, _, _, _, rfl, rfl, hs, atI_nat (j := 2) hv, ?_⟩
          have e2 : ((arN (.tuple [.str "f", .str y, .int n]) : Nat) : Int) = n := Int.toNat_of_nonneg h2
          rw [e2] at q
          exact q
    · rw [arN_nsym (Bool.eq_false_iff.mpr e)] at q
      exact q

theorem ok_check_goal {f : Addr} {fd : FuncData} (F : Fun K "check_goal" "check_goal" s_check_goal f fd) (E : Bi K mg) (D_is_symbol : Has P w K mg base 1 "is_symbol" ["node"] (sp_is_symbol K)) (D_is_built_in : Has P w K mg base 1 "is_built_in" ["name", "arity"] (sp_is_built_in K)) (D_is_control : Has P w K mg base 1 "is_control" ["name", "arity"] (sp_is_control K)) : FnOk P w K mg base (L2.CX P w) 2 f fd ["term"] (sp_check_goal K) := by
  obtain ⟨f_is_symbol, fd_is_symbol, G_is_symbol, g_is_symbol, kp_is_symbol, b_is_symbol⟩ := D_is_symbol
  obtain ⟨f_is_built_in, fd_is_built_in, G_is_built_in, g_is_built_in, kp_is_built_in, b_is_built_in⟩ := D_is_built_in
  obtain ⟨f_is_control, fd_is_control, G_is_control, g_is_control, kp_is_control, b_is_control⟩ := D_is_control
  refine F.okX sc_check_goal (fun vs H Q E h => ?_) (fun cdv A outer s H vs Q E' hr h => ?_)
  · obtain ⟨x, d, r, rfl, _⟩ := h
    rfl
  · obtain ⟨x, d, r, rfl, hx, hn, q1, q2⟩ := h
    refine ⟨_, (pss_cons (ps_if (pt_not (pt_val (pe_call G_is_symbol (hr.mono (by decide)) (by rfl) g_is_symbol kp_is_symbol b_is_symbol .nil pass0 (pa_cons (pe_ix ix_tup (pv 0) pe_int (fun _ _ => rfl)) pa_nil)))) (pss_one (ps_raise rfl (takes_of rfl rfl rfl rfl) (pmk_own PySem.F.excBase_ValueError E.x_NotDefinite.xC E.x_NotDefinite.gC E.x_NotDefinite.kC (raises_own E.x_NotDefinite.bC E.x_NotDefinite.tC) rfl))) pss_nil)
      (pss_cons (ps_asg (pe_ix ix_tup (pv 0) pe_int (fun _ _ => rfl)) (pg_tup rfl (pgs_cons (pg_name (i := 1) sc_check_goal.nd rfl (Or.inl rfl)) (pgs_cons (pg_name (i := 2) sc_check_goal.nd rfl (Or.inl rfl)) (pgs_cons (pg_name (i := 3) sc_check_goal.nd rfl (Or.inl rfl)) pgs_nil)))))
      (pss_one (ps_if (pw_or (pt_val (pe_call G_is_control (hr.mono (by decide)) (by rfl) g_is_control kp_is_control b_is_control .nil pass0 (pa_cons (pv 2) (pa_cons (pv 3) pa_nil)))) (pw_or1 (pt_val (pe_call G_is_built_in (hr.mono (by decide)) (by rfl) g_is_built_in kp_is_built_in b_is_built_in .nil pass0 (pa_cons (pv 2) (pa_cons (pv 3) pa_nil)))))).pt (pss_one (ps_raise rfl (takes_of rfl rfl rfl rfl) (pmk_own1 PySem.F.excBase_ValueError E.x_NotDefinite.xC E.x_NotDefinite.gC E.x_NotDefinite.kC (raises_own E.x_NotDefinite.bC E.x_NotDefinite.tC) rfl (pe_joined (PJ.cons (pe_fmt (pv 2)) (PJ.cons pe_str (PJ.cons (pe_fmt (pv 3)) (PJ.cons pe_str PJ.nil)))))))) pss_nil)))), ?_⟩
    cases id hx with
    | @tup a xs _ hs ha =>
    obtain ⟨v0, hv0, dv0⟩ := DpAll.get (i := 0) ha rfl
    refine seq_ifN ?_
    refine ⟨_, rfl, _, _, _, _, rfl, rfl, hs, atI_nat (j := 0) hv0, v0, d, rfl, dv0, hn, _, rfl, ?_⟩
    obtain ⟨wd, nd⟩ := id hn
    cases nd with
    | v n z1 z2 => exact iteT (q2 rfl H (Same.refl H))
    | i n z1 z2 => exact iteT (q2 rfl H (Same.refl H))
    | f y n z0 z1 z2 =>
      refine iteF (seq_asg ?_)
      refine ⟨_, rfl, _, _, _, _, rfl, rfl, hs, atI_nat (j := 0) hv0, ?_⟩
      cases dv0 with
      | @tup c zs _ hz az =>
      cases az with
      | cons e1 az =>
      cases az with
      | cons e2 az =>
      cases az with
      | cons e3 az =>
      cases az
      cases e1
      cases e2
      cases e3
      refine ⟨c, _, rfl, hz, rfl, _, _, rfl, gname ⟨_, _, rfl, gname ⟨_, [], rfl, gname ⟨rfl, ?_⟩⟩⟩⟩
      have l1 := okN_len z0
      obtain ⟨l2, l3⟩ := digit_ok z1 z2
      have l4 : (Str.ofString "/").length = 1 := by decide +kernel
      have l5 : (Str.ofString " is no predicate of a definite program").length = 38 := by decide +kernel
      have l6 : Str.empty.length = 0 := rfl
      refine ⟨_, rfl, _, rfl, y, n, rfl, z0, fun H1 s1 => ⟨_, rfl, ?_⟩⟩
      have fin : ∀ H', Same H H' → isG (.tuple [.str "f", .str y, .int n]) = false → tJs [tFmt (tVar 2), tC (V.str (Str.ofString "/")), tFmt (tVar 3), tC (V.str (Str.ofString " is no predicate of a definite program"))] Str.empty [some (V.ref a), some (.str "f"), some (.str y), some (.int n)] H' fun out H1 => E' (Value.ref (clsA K (Str.ofString "NotDefinite"))) Option.none H1 := by
        intro H' s' hg
        refine ⟨_, rfl, .inl ⟨y, rfl, small_of (by omega), _, rfl, small_of (by rw [len_app]; omega), _, rfl, small_of (by rw [len_app, len_app]; omega), _, rfl, .inr ⟨n, rfl, l2, _, rfl, small_of (by rw [len_app, len_app, len_app]; omega), _, rfl, small_of (by rw [len_app, len_app, len_app, len_app]; omega), q2 hg _ s'⟩⟩⟩
      have ig : isG (.tuple [.str "f", .str y, .int n]) = !(decide ((y, n) ∈ CTL) || decide ((y, n) ∈ BIN)) := rfl
      cases c1 : decide ((y, n) ∈ CTL) with
      | true => exact iteT (iteT (fin _ s1 (by rw [ig, c1]; rfl)))
      | false =>
        refine iteF ?_
        refine ⟨_, rfl, _, rfl, y, n, rfl, z0, fun H2 s2 => ⟨_, rfl, ?_⟩⟩
        have s12 := s1.trans s2
        cases c2 : decide ((y, n) ∈ BIN) with
        | true => exact iteT (fin _ s12 (by rw [ig, c1, c2]; rfl))
        | false => exact iteF (q1 (by rw [ig, c1, c2]; rfl) _ s12)

theorem ok__law_leaf {f : Addr} {fd : FuncData} (F : Fun K "_law_leaf" "_law_leaf" s__law_leaf f fd) (E : Bi K mg) (D__law_draw : Has P w K mg base 1 "_law_draw" ["stream", "many"] (sp__law_draw K)) : FnOk P w K mg base CX0 2 f fd ["stream", "widest"] (sp__law_leaf K) := by
  obtain ⟨f__law_draw, fd__law_draw, G__law_draw, g__law_draw, kp__law_draw, b__law_draw⟩ := D__law_draw
  refine F.ok sc__law_leaf (fun vs H Q E h => ?_) (fun cdv A outer s H vs Q E' hr h => ?_)
  · obtain ⟨s, l, wd, rfl, _⟩ := h
    rfl
  · obtain ⟨s, l, wd, rfl, hS, hw, hw2, q⟩ := h
    have n9 : (2 : Nat) ^ 140 ≤ 2 ^ 9000 := Nat.pow_le_pow_right (by decide) (by decide)
    refine ⟨_, (pss_cons (ps_set (i := 2) sc__law_leaf.nd rfl (Or.inl rfl) (pe_call G__law_draw (hr.mono (by decide)) (by rfl) g__law_draw kp__law_draw b__law_draw .nil pass0 (pa_cons (pv 0) (pa_cons pe_int pa_nil))))
      (pss_cons (ps_if (pt_cmpR op_lt (pv 2) pe_int (nomark _)) (pss_one (ps_ret (pe_tup (pa_cons (pe_tup (pa_cons pe_str (pa_cons (pe_call G__law_draw (hr.mono (by decide)) (by rfl) g__law_draw kp__law_draw b__law_draw .nil pass0 (pa_cons (pv 0) (pa_cons (pv 1) pa_nil))) pa_nil))) pa_nil)))) pss_nil)
      (pss_cons (ps_if (pt_cmpR op_eq (pv 2) pe_int (nomark _)) (pss_one (ps_ret (pe_tup (pa_cons (pe_tup (pa_cons pe_str (pa_cons (pe_ix ix_list (pe_lst (pa_cons pe_str (pa_cons pe_str (pa_cons pe_str pa_nil)))) (pe_call G__law_draw (hr.mono (by decide)) (by rfl) g__law_draw kp__law_draw b__law_draw .nil pass0 (pa_cons (pv 0) (pa_cons pe_int pa_nil))) (fun _ _ => rfl)) (pa_cons pe_int pa_nil)))) pa_nil)))) pss_nil)
      (pss_cons (ps_if (pt_cmpR op_eq (pe_call G__law_draw (hr.mono (by decide)) (by rfl) g__law_draw kp__law_draw b__law_draw .nil pass0 (pa_cons (pv 0) (pa_cons pe_int pa_nil))) pe_int (nomark _)) (pss_one (ps_ret (pe_tup (pa_cons (pe_ix ix_list (pe_lst (pa_cons (pe_un un_neg pe_int) (pa_cons (pe_op op_pow pe_int pe_int) (pa_cons (pe_op op_add (pe_op op_pow pe_int pe_int) pe_int) (pa_cons (pe_un un_neg (pe_op op_pow pe_int pe_int)) pa_nil))))) (pe_call G__law_draw (hr.mono (by decide)) (by rfl) g__law_draw kp__law_draw b__law_draw .nil pass0 (pa_cons (pv 0) (pa_cons pe_int pa_nil))) (fun _ _ => rfl)) pa_nil)))) pss_nil)
      (pss_one (ps_ret (pe_tup (pa_cons (pe_call G__law_draw (hr.mono (by decide)) (by rfl) g__law_draw kp__law_draw b__law_draw .nil pass0 (pa_cons (pv 0) (pa_cons pe_int pa_nil))) pa_nil)))))))), ?_⟩
    have put : ∀ {Hn : Hp} {p : Addr} {o : HO}, Stm Hn s l → Hn p = Option.none → Stm (upd Hn p o) s l := fun {Hn p o} Sn np => Sn.keep (same_upd np)
    refine seq_asg ?_
    refine ⟨_, rfl, s, l, 4, rfl, hS, by decide, Nat.lt_of_lt_of_le (by decide) n9, fun pick H1 _ _ b1 S1 => ?_⟩
    refine gname (seq_ifN ?_)
    refine ⟨_, rfl, _, _, rfl, rfl, _, rfl, ite2 (fun e => ?_) (fun e => ?_)⟩
    · refine ⟨_, rfl, _, rfl, s, l, wd, rfl, S1, hw, Nat.lt_of_lt_of_le (show wd.natAbs < 2 ^ 140 from Nat.lt_of_le_of_lt (show wd.natAbs ≤ 1000 by omega) (by decide)) n9, fun r H2 r0 r1 b2 S2 => ⟨(by show 2 ≤ sizeLine; decide), fun p np => ⟨(by show 1 ≤ sizeLine; decide), fun p2 np2 => ?_⟩⟩⟩
      have sp := same_upd (o := .tup [.str "v", .int r]) np
      have sp2 := same_upd (o := .tup [.ref p]) np2
      have bb := b1.trans b2
      exact q _ (.tuple [.str "v", .int r]) _ ⟨wd, .v r r0 r1⟩ rfl (bb.trans (But.of (sp.trans sp2))) (S2.keep (sp.trans sp2)) (.tup (fr_of (bb.trans (But.of sp)) (S2.keep sp) _ np2) upd_same (.cons (.tup (fr_of bb S2 _ np) (sp2 _ _ upd_same) (.cons (.str _) (.cons (.int _) .nil))) .nil))
    · refine seq_ifN ?_
      refine ⟨_, rfl, rfl, _, rfl, ite2 (fun e2 => ?_) (fun e2 => ?_)⟩
      · refine tup_of (args1 (tup_of (args1 (const_of (args1 (op_of ?_))))))
        refine lit_lst (K := K) (ds := abc.map PyData.str) ?_ (by decide) H1 _ fun v0 H0 t0 i0 => ?_
        · unfold abc
          simp only [List.map_cons, List.map_nil]
          walk_at "lits"
        cases i0 with
        | @lst p0 xs0 _ g0 e0 a0 =>
        obtain ⟨os1, hos1⟩ := S1.at_s
        have np0 : p0 ≠ s := fun z => by
          rw [z, hos1] at g0
          cases g0
        refine ⟨_, rfl, s, l, 3, rfl, S1.keep t0, by decide, Nat.lt_of_lt_of_le (by decide) n9, fun r H2 r0 r1 b2 S2 => ?_⟩
        obtain ⟨y, hy, hat⟩ := lit_pick a0 r0 r1
        refine ⟨_, _, _, _, rfl, rfl, SqL.of (b2 _ _ np0 e0), hat, ?_⟩
        refine ⟨(by show 3 ≤ sizeLine; decide), fun p np => ⟨(by show 1 ≤ sizeLine; decide), fun p2 np2 => ?_⟩⟩
        have hyo : okName y = true := List.all_eq_true.mp (show abc.all okName = true by decide +kernel) y hy
        have sp := same_upd (o := .tup [.str "f", .str y, .int 0]) np
        have sp2 := same_upd (o := .tup [.ref p]) np2
        have bb := (b1.trans (But.of t0)).trans b2
        exact q _ (.tuple [.str "f", .str y, .int 0]) _ ⟨1, .f y 0 hyo (by decide) (by decide)⟩ rfl (bb.trans (But.of (sp.trans sp2))) (S2.keep (sp.trans sp2)) (.tup (fr_of (bb.trans (But.of sp)) (S2.keep sp) _ np2) upd_same (.cons (.tup (fr_of bb S2 _ np) (sp2 _ _ upd_same) (.cons (.str _) (.cons (.str _) (.cons (.int _) .nil)))) .nil))
      · refine seq_ifN ?_
        refine ⟨_, rfl, s, l, 8, rfl, S1, by decide, Nat.lt_of_lt_of_le (by decide) n9, fun r0 H2 _ _ b2 S2 => ⟨rfl, _, rfl, ite2 (fun e3 => ?_) (fun e3 => ?_)⟩⟩
        · refine tup_of (args1 (op_of ?_))
          refine lit_lst (K := K) (ds := fourI.map PyData.int) ?_ (by decide) H2 _ fun v0 H0 t0 i0 => ?_
          · exact litA_cons (lit_neg lit_int) (litA_cons (lit_pow lit_int lit_int ⟨by decide, by decide, by decide⟩) (litA_cons (lit_add (lit_pow lit_int lit_int ⟨by decide, by decide, by decide⟩) lit_int) (litA_cons (lit_neg (lit_pow lit_int lit_int ⟨by decide, by decide, by decide⟩)) litA_nil)))
          cases i0 with
          | @lst p0 xs0 _ g0 e0 a0 =>
          obtain ⟨os1, hos1⟩ := S2.at_s
          have np0 : p0 ≠ s := fun z => by
            rw [z, hos1] at g0
            cases g0
          refine ⟨_, rfl, s, l, 4, rfl, S2.keep t0, by decide, Nat.lt_of_lt_of_le (by decide) n9, fun r H3 r0 r1 b3 S3 => ?_⟩
          obtain ⟨y, hy, hat⟩ := int_pick a0 r0 r1
          refine ⟨_, _, _, _, rfl, rfl, SqL.of (b3 _ _ np0 e0), hat, ?_⟩
          refine ⟨(by show 1 ≤ sizeLine; decide), fun p np => ?_⟩
          obtain ⟨y1, y2⟩ := fourI_ok y hy
          have bb := ((b1.trans b2).trans (But.of t0)).trans b3
          exact q _ (.int y) _ ⟨1, .i y y1 y2⟩ rfl (bb.trans (But.of (same_upd np))) (put S3 np) (.tup (fr_of bb S3 _ np) upd_same (.cons (.int _) .nil))
        · refine ⟨_, rfl, s, l, 3, rfl, S2, by decide, Nat.lt_of_lt_of_le (by decide) n9, fun r H3 r0 r1 b3 S3 => ⟨(by show 1 ≤ sizeLine; decide), fun p np => ?_⟩⟩
          have bb := (b1.trans b2).trans b3
          exact q _ (.int r) _ ⟨1, .i r (by omega) (by omega)⟩ rfl (bb.trans (But.of (same_upd np))) (put S3 np) (.tup (fr_of bb S3 _ np) upd_same (.cons (.int _) .nil))

theorem ok__law_odd {f : Addr} {fd : FuncData} (F : Fun K "_law_odd" "_law_odd" s__law_odd f fd) (E : Bi K mg) (D__law_draw : Has P w K mg base 1 "_law_draw" ["stream", "many"] (sp__law_draw K)) : FnOk P w K mg base CX0 2 f fd ["stream"] (sp__law_odd K) := by
  obtain ⟨f__law_draw, fd__law_draw, G__law_draw, g__law_draw, kp__law_draw, b__law_draw⟩ := D__law_draw
  refine F.ok sc__law_odd (fun vs H Q E h => ?_) (fun cdv A outer s H vs Q E' hr h => ?_)
  · obtain ⟨s, l, rfl, _⟩ := h
    rfl
  · obtain ⟨s, l, rfl, hS, q⟩ := h
    have n9 : (2 : Nat) ^ 8 ≤ 2 ^ 9000 := Nat.pow_le_pow_right (by decide) (by decide)
    refine ⟨_, (pss_cons (ps_set (i := 1) sc__law_odd.nd rfl (Or.inl rfl) (pe_tup (pa_cons (pe_tup (pa_cons pe_str (pa_cons pe_str (pa_cons pe_int pa_nil)))) pa_nil)))
      (pss_cons (ps_set (i := 2) sc__law_odd.nd rfl (Or.inl rfl) (pe_lst (pa_cons (pe_tup (pa_cons pe_str (pa_cons pe_int pa_nil))) (pa_cons (pe_tup (pa_cons pe_str (pa_cons pe_int pa_nil))) (pa_cons (pe_tup (pa_cons pe_str (pa_cons pe_int pa_nil))) (pa_cons (pe_tup (pa_cons pe_str (pa_cons pe_int pa_nil))) (pa_cons (pe_tup (pa_cons pe_str (pa_cons pe_int pa_nil))) (pa_cons (pe_tup (pa_cons pe_str (pa_cons pe_int pa_nil))) (pa_cons (pe_tup (pa_cons pe_str (pa_cons pe_int pa_nil))) (pa_cons (pe_tup (pa_cons pe_str (pa_cons pe_int pa_nil))) pa_nil))))))))))
      (pss_cons (ps_set (i := 2) sc__law_odd.nd rfl (Or.inl rfl) (pe_op op_cat (pv 2) (pe_lst (pa_cons (pe_tup (pa_cons pe_str (pa_cons pe_int pa_nil))) (pa_cons (pe_tup (pa_cons pe_str (pa_cons pe_int pa_nil))) (pa_cons (pe_tup (pa_cons pe_str (pa_cons pe_int pa_nil))) (pa_cons (pe_tup (pa_cons pe_str (pa_cons pe_int pa_nil))) (pa_cons (pe_tup (pa_cons pe_str (pa_cons pe_int pa_nil))) (pa_cons (pe_tup (pa_cons pe_str (pa_cons pe_int pa_nil))) (pa_cons (pe_tup (pa_cons pe_str (pa_cons pe_int pa_nil))) pa_nil))))))))))
      (pss_cons (ps_set (i := 2) sc__law_odd.nd rfl (Or.inl rfl) (pe_op op_cat (pv 2) (pe_lst (pa_cons (pe_tup (pa_cons pe_str (pa_cons pe_int pa_nil))) (pa_cons (pe_tup (pa_cons pe_str (pa_cons pe_int pa_nil))) (pa_cons (pe_tup (pa_cons pe_str (pa_cons pe_int pa_nil))) (pa_cons (pe_tup (pa_cons pe_str (pa_cons pe_int pa_nil))) (pa_cons (pe_tup (pa_cons pe_str (pa_cons pe_int pa_nil))) (pa_cons (pe_tup (pa_cons pe_str (pa_cons pe_int pa_nil))) pa_nil)))))))))
      (pss_cons (ps_set (i := 2) sc__law_odd.nd rfl (Or.inl rfl) (pe_op op_cat (pv 2) (pe_lst (pa_cons (pe_tup (pa_cons pe_str (pa_cons (pe_op op_add pe_int (pe_call G__law_draw (hr.mono (by decide)) (by rfl) g__law_draw kp__law_draw b__law_draw .nil pass0 (pa_cons (pv 0) (pa_cons pe_int pa_nil)))) pa_nil))) (pa_cons (pe_tup (pa_cons pe_str (pa_cons pe_int pa_nil))) (pa_cons (pe_tup (pa_cons pe_str (pa_cons pe_int pa_nil))) (pa_cons (pe_tup (pa_cons pe_str (pa_cons pe_int pa_nil))) (pa_cons (pe_tup (pa_cons pe_str (pa_cons pe_int pa_nil))) (pa_cons (pe_tup (pa_cons pe_str (pa_cons pe_int pa_nil))) (pa_cons (pe_tup (pa_cons pe_str (pa_cons pe_int pa_nil))) pa_nil))))))))))
      (pss_cons (ps_set (i := 2) sc__law_odd.nd rfl (Or.inl rfl) (pe_op op_cat (pv 2) (pe_lst (pa_cons (pe_tup (pa_cons pe_str (pa_cons pe_int pa_nil))) (pa_cons (pe_tup (pa_cons pe_str (pa_cons pe_int pa_nil))) (pa_cons (pe_tup (pa_cons pe_str (pa_cons pe_int pa_nil))) (pa_cons (pe_tup (pa_cons pe_str (pa_cons pe_int pa_nil))) (pa_cons (pe_tup (pa_cons pe_str (pa_cons pe_int pa_nil))) (pa_cons (pe_tup (pa_cons pe_str (pa_cons pe_int pa_nil))) (pa_cons (pe_tup (pa_cons pe_str (pa_cons pe_int pa_nil))) (pa_cons (pe_tup (pa_cons pe_str (pa_cons pe_int pa_nil))) (pa_cons (pe_tup (pa_cons pe_str (pa_cons pe_int pa_nil))) (pa_cons (pe_tup (pa_cons pe_str (pa_cons pe_int pa_nil))) pa_nil)))))))))))))
      (pss_cons (ps_set (i := 3) sc__law_odd.nd rfl (Or.inl rfl) (pe_lst (pa_cons (pe_tup (pa_cons pe_str (pa_cons pe_int pa_nil))) (pa_cons (pe_tup (pa_cons pe_str (pa_cons pe_int pa_nil))) (pa_cons (pe_tup (pa_cons pe_str (pa_cons pe_int pa_nil))) (pa_cons (pe_tup (pa_cons pe_str (pa_cons pe_int pa_nil))) (pa_cons (pe_tup (pa_cons pe_str (pa_cons pe_int pa_nil))) (pa_cons (pe_tup (pa_cons pe_str (pa_cons pe_int pa_nil))) (pa_cons (pe_tup (pa_cons pe_str (pa_cons pe_int pa_nil))) (pa_cons (pe_tup (pa_cons pe_str (pa_cons pe_int pa_nil))) (pa_cons (pe_tup (pa_cons pe_str (pa_cons pe_int pa_nil))) pa_nil)))))))))))
      (pss_cons (ps_set (i := 4) sc__law_odd.nd rfl (Or.inl rfl) (pe_call G__law_draw (hr.mono (by decide)) (by rfl) g__law_draw kp__law_draw b__law_draw .nil pass0 (pa_cons (pv 0) (pa_cons pe_int pa_nil))))
      (pss_cons (ps_if (pt_cmpR op_eq (pv 4) pe_int (nomark _)) (pss_one (ps_ret (pe_tup (pa_cons (pe_tup (pa_cons pe_str (pa_cons (pe_call G__law_draw (hr.mono (by decide)) (by rfl) g__law_draw kp__law_draw b__law_draw .nil pass0 (pa_cons (pv 0) (pa_cons pe_int pa_nil))) pa_nil))) pa_nil)))) pss_nil)
      (pss_cons (ps_if (pt_cmpR op_eq (pv 4) pe_int (nomark _)) (pss_one (ps_ret (pe_tup (pa_cons (pe_op op_sub (pe_call G__law_draw (hr.mono (by decide)) (by rfl) g__law_draw kp__law_draw b__law_draw .nil pass0 (pa_cons (pv 0) (pa_cons pe_int pa_nil))) pe_int) pa_nil)))) pss_nil)
      (pss_cons (ps_if (pt_cmpR op_eq (pv 4) pe_int (nomark _)) (pss_one (ps_set (i := 2) sc__law_odd.nd rfl (Or.inl rfl) (pv 3))) pss_nil)
      (pss_cons (ps_set (i := 5) sc__law_odd.nd rfl (Or.inl rfl) (pe_ix ix_list (pv 2) (pe_call G__law_draw (hr.mono (by decide)) (by rfl) g__law_draw kp__law_draw b__law_draw .nil pass0 (pa_cons (pv 0) (pa_cons (pe_callB call_len_seq (by rfl) E.b_len PySem.boot_len (pa_cons (pv 2) pa_nil)) pa_nil))) (fun _ _ => rfl)))
      (pss_one (ps_ret (pe_op op_catA (pe_tup (pa_cons (pe_tup (pa_cons pe_str (pa_cons (pe_ix ix_tup (pv 5) pe_int (fun _ _ => rfl)) (pa_cons (pe_ix ix_tup (pv 5) pe_int (fun _ _ => rfl)) pa_nil)))) pa_nil)) (pe_op op_repA (pv 1) (pe_ix ix_tup (pv 5) pe_int (fun _ _ => rfl)))))))))))))))))), ?_⟩
    refine seq_asg ?_
    refine lit_tup (K := K) (ds := [aN]) ?_ (by decide) H _ fun va H0 t0 ia => ?_
    · unfold aN nodeF
      walk_at "lits"
    have S0 := hS.keep t0
    have B0 : But s H H0 := But.of t0
    refine gname (seq_asg ?_)
    refine lit_lst (K := K) (ds := ON1.map pd) ?_ (by decide) H0 _ fun v1 H1 t1 i1 => ?_
    · unfold ON1
      simp only [List.map_cons, List.map_nil, pd]
      walk_at "lits"
    cases i1 with
    | @lst p1 xs1 _ g1 e1 a1 =>
    have S1 := S0.keep t1
    have B1 := B0.trans (But.of t1)
    obtain ⟨os, hos⟩ := S0.at_s
    have P1 : p1 ≠ s := fun z => by rw [z, hos] at g1; cases g1
    have I1 : ImAll K (fun b => b ≠ s) H1 xs1 (ON1.map pd) := Im.monoAll (fun _ _ _ e => e) (fun b g z => by rw [z, hos] at g; cases g) _ _ a1
    have L1 := I1.len
    have ia1 := frs_keep hS (But.of t1) ia
    clear g1 a1
    refine gname (seq_asg ?_)
    refine ⟨_, rfl, ?_⟩
    refine lit_lst (K := K) (ds := ON2.map pd) ?_ (by decide) _ _ fun v2 G2 t2 i2 => ?_
    · unfold ON2
      simp only [List.map_cons, List.map_nil, pd]
      walk_at "lits"
    cases i2 with
    | @lst q2 zs2 _ g2 f2 a2 =>
    have A2 : ImAll K (fun b => b ≠ s) G2 zs2 (ON2.map pd) := Im.monoAll (fun _ _ _ e => e) (fun b g z => by obtain ⟨o, ho⟩ := S1.at_s; rw [z, ho] at g; cases g) _ _ a2
    have M2 := A2.len
    refine ⟨_, _, _, _, rfl, rfl, t2 _ _ e1, f2, small_of (by rw [L1, M2]; decide), fun p2 np2 => ?_⟩
    have u2 := same_upd (o := .lst (xs1 ++ zs2)) np2
    have I2 : ImAll K (fun b => b ≠ s) (upd G2 p2 (.lst (xs1 ++ zs2))) (xs1 ++ zs2) (ON1.map pd ++ ON2.map pd) := ImAll.app (Im.monoAll (fun b o _ e => (t2.trans u2) b o e) (fun _ g => g) _ _ I1) (Im.monoAll (fun b o _ e => u2 b o e) (fun _ g => g) _ _ A2)
    have L2 := I2.len
    have S2 := S1.keep (t2.trans u2)
    have B2 := B1.trans (But.of (t2.trans u2))
    have ia2 := frs_keep hS (But.of (t2.trans u2)) ia1
    have P2 : p2 ≠ s := fun z => by obtain ⟨o, ho⟩ := (S1.keep t2).at_s; rw [z, ho] at np2; cases np2
    have e2 : (upd G2 p2 (.lst (xs1 ++ zs2))) p2 = some (.lst (xs1 ++ zs2)) := upd_same
    clear np2 u2 f2 g2 a2 A2 M2
    generalize upd G2 p2 (.lst (xs1 ++ zs2)) = H2 at I2 S2 B2 e2 ia2
    generalize xs1 ++ zs2 = xs2 at I2 e2 L2
    refine gname (seq_asg ?_)
    refine ⟨_, rfl, ?_⟩
    refine lit_lst (K := K) (ds := ON3.map pd) ?_ (by decide) _ _ fun v3 G3 t3 i3 => ?_
    · unfold ON3
      simp only [List.map_cons, List.map_nil, pd]
      walk_at "lits"
    cases i3 with
    | @lst q3 zs3 _ g3 f3 a3 =>
    have A3 : ImAll K (fun b => b ≠ s) G3 zs3 (ON3.map pd) := Im.monoAll (fun _ _ _ e => e) (fun b g z => by obtain ⟨o, ho⟩ := S2.at_s; rw [z, ho] at g; cases g) _ _ a3
    have M3 := A3.len
    refine ⟨_, _, _, _, rfl, rfl, t3 _ _ e2, f3, small_of (by rw [L2, M3]; decide), fun p3 np3 => ?_⟩
    have u3 := same_upd (o := .lst (xs2 ++ zs3)) np3
    have I3 : ImAll K (fun b => b ≠ s) (upd G3 p3 (.lst (xs2 ++ zs3))) (xs2 ++ zs3) (ON1.map pd ++ ON2.map pd ++ ON3.map pd) := ImAll.app (Im.monoAll (fun b o _ e => (t3.trans u3) b o e) (fun _ g => g) _ _ I2) (Im.monoAll (fun b o _ e => u3 b o e) (fun _ g => g) _ _ A3)
    have L3 := I3.len
    have S3 := S2.keep (t3.trans u3)
    have B3 := B2.trans (But.of (t3.trans u3))
    have ia3 := frs_keep hS (But.of (t3.trans u3)) ia2
    have P3 : p3 ≠ s := fun z => by obtain ⟨o, ho⟩ := (S2.keep t3).at_s; rw [z, ho] at np3; cases np3
    have e3 : (upd G3 p3 (.lst (xs2 ++ zs3))) p3 = some (.lst (xs2 ++ zs3)) := upd_same
    clear np3 u3 f3 g3 a3 A3 M3
    generalize upd G3 p3 (.lst (xs2 ++ zs3)) = H3 at I3 S3 B3 e3 ia3
    generalize xs2 ++ zs3 = xs3 at I3 e3 L3
    refine gname (seq_asg ?_)
    refine ⟨_, rfl, ?_⟩
    refine lst_of (args1 (tup_of (args1 (const_of (args1 (op_of (const_of ?_)))))))
    refine ⟨_, rfl, s, l, 6, rfl, S3, by decide, Nat.lt_of_lt_of_le (by decide) n9, fun rr Hd rr0 rr6 bd Sd => ⟨_, _, rfl, rfl, ?_⟩⟩
    refine ⟨(by show 2 ≤ sizeLine; decide), fun pc nc => ?_⟩
    have sc := same_upd (o := .tup [.str "call", .int (2 + rr)]) nc
    have ec : (upd Hd pc (.tup [.str "call", .int (2 + rr)])) pc = some (.tup [.str "call", .int (2 + rr)]) := upd_same
    have Sc := Sd.keep sc
    have bc := bd.trans (But.of sc)
    have Pc : pc ≠ s := fun z => by obtain ⟨o, ho⟩ := Sd.at_s; rw [z, ho] at nc; cases nc
    clear nc sc
    generalize upd Hd pc (.tup [.str "call", .int (2 + rr)]) = Hc at ec Sc bc
    refine litA_at (K := K) (ds := ON4.map pd) ?_ fun ws Hw tw iw => ?_
    · unfold ON4
      simp only [List.map_cons, List.map_nil, pd]
      walk_at "lits"
    have A4 : ImAll K (fun b => b ≠ s) Hw ws (ON4.map pd) := Im.monoAll (fun _ _ _ e => e) (fun b g z => by obtain ⟨o, ho⟩ := Sc.at_s; rw [z, ho] at g; cases g) _ _ iw
    have A4' : ImAll K (fun b => b ≠ s) Hw (.ref pc :: ws) (((("call" : Str), 2 + rr) :: ON4).map pd) := .cons (.tup Pc (tw _ _ ec) (.cons (.str _) (.cons (.int _) .nil))) A4
    have M4 := A4'.len
    have Sw := Sc.keep tw
    have bw := bc.trans (But.of tw)
    refine ⟨small_of (by rw [M4]; show ON4.length + 1 ≤ 1000; decide), fun pl nl => ?_⟩
    have ul := same_upd (o := .lst (.ref pc :: ws)) nl
    have e3w : H3 p3 = some (.lst xs3) := e3
    have e3l := (bw.trans (But.of ul)) p3 _ P3 e3w
    refine ⟨_, _, _, _, rfl, rfl, e3l, upd_same, small_of (by rw [L3, M4]; show _ + (ON4.length + 1) ≤ 1000; decide), fun p4 np4 => ?_⟩
    have u4 := same_upd (o := .lst (xs3 ++ (.ref pc :: ws))) np4
    have b34 := bw.trans (But.of (ul.trans u4))
    have I4 : ImAll K (fun b => b ≠ s) (upd (upd Hw pl (.lst (.ref pc :: ws))) p4 (.lst (xs3 ++ (.ref pc :: ws)))) (xs3 ++ (.ref pc :: ws)) (ON1.map pd ++ ON2.map pd ++ ON3.map pd ++ ((("call" : Str), 2 + rr) :: ON4).map pd) := ImAll.app (Im.monoAll (fun b o g e => b34 b o g e) (fun _ g => g) _ _ I3) (Im.monoAll (fun b o _ e => (ul.trans u4) b o e) (fun _ g => g) _ _ A4')
    have L4 := I4.len
    have S4 := Sw.keep (ul.trans u4)
    have B4 := B3.trans b34
    have ia4 := frs_keep hS b34 ia3
    have P4 : p4 ≠ s := fun z => by obtain ⟨o, ho⟩ := (Sw.keep ul).at_s; rw [z, ho] at np4; cases np4
    have e4 : (upd (upd Hw pl (.lst (.ref pc :: ws))) p4 (.lst (xs3 ++ (.ref pc :: ws)))) p4 = some (.lst (xs3 ++ (.ref pc :: ws))) := upd_same
    clear np4 u4 b34 e3l e3w ul nl A4 A4' iw bw Sw tw bc Sc ec M4
    generalize upd (upd Hw pl (.lst (.ref pc :: ws))) p4 (.lst (xs3 ++ (.ref pc :: ws))) = H4 at I4 S4 B4 e4 ia4
    generalize xs3 ++ (.ref pc :: ws) = xs4 at I4 e4 L4
    refine gname (seq_asg ?_)
    refine ⟨_, rfl, ?_⟩
    refine lit_lst (K := K) (ds := ON5.map pd) ?_ (by decide) _ _ fun v5 G5 t5 i5 => ?_
    · unfold ON5
      simp only [List.map_cons, List.map_nil, pd]
      walk_at "lits"
    cases i5 with
    | @lst q5 zs5 _ g5 f5 a5 =>
    have A5 : ImAll K (fun b => b ≠ s) G5 zs5 (ON5.map pd) := Im.monoAll (fun _ _ _ e => e) (fun b g z => by obtain ⟨o, ho⟩ := S4.at_s; rw [z, ho] at g; cases g) _ _ a5
    have M5 := A5.len
    refine ⟨_, _, _, _, rfl, rfl, t5 _ _ e4, f5, small_of (by rw [L4, M5]; show ON1.length + ON2.length + ON3.length + (ON4.length + 1) + ON5.length ≤ 1000; decide), fun p5 np5 => ?_⟩
    have u5 := same_upd (o := .lst (xs4 ++ zs5)) np5
    have I5 : ImAll K (fun b => b ≠ s) (upd G5 p5 (.lst (xs4 ++ zs5))) (xs4 ++ zs5) (ON1.map pd ++ ON2.map pd ++ ON3.map pd ++ ((("call" : Str), 2 + rr) :: ON4).map pd ++ ON5.map pd) := ImAll.app (Im.monoAll (fun b o _ e => (t5.trans u5) b o e) (fun _ g => g) _ _ I4) (Im.monoAll (fun b o _ e => u5 b o e) (fun _ g => g) _ _ A5)
    have L5 := I5.len
    have S5 := S4.keep (t5.trans u5)
    have B5 := B4.trans (But.of (t5.trans u5))
    have ia5 := frs_keep hS (But.of (t5.trans u5)) ia4
    have P5 : p5 ≠ s := fun z => by obtain ⟨o, ho⟩ := (S4.keep t5).at_s; rw [z, ho] at np5; cases np5
    have e5 : (upd G5 p5 (.lst (xs4 ++ zs5))) p5 = some (.lst (xs4 ++ zs5)) := upd_same
    clear np5 u5 f5 g5 a5 A5 M5
    generalize upd G5 p5 (.lst (xs4 ++ zs5)) = H5 at I5 S5 B5 e5 ia5
    generalize xs4 ++ zs5 = xs5 at I5 e5 L5
    have eP : ON1.map pd ++ ON2.map pd ++ ON3.map pd ++ ((("call" : Str), 2 + rr) :: ON4).map pd ++ ON5.map pd = ((ON1 ++ ON2 ++ ON3 ++ ((("call" : Str), 2 + rr) :: ON4) ++ ON5)).map pd := by simp only [List.map_append]
    rw [eP] at I5
    have okN : (ON1 ++ ON2 ++ ON3 ++ ((("call" : Str), 2 + rr) :: ON4) ++ ON5).all okP = true := by
      have := on_ok
      simp only [List.all_append, List.all_cons, Bool.and_eq_true] at this ⊢
      obtain ⟨⟨⟨⟨⟨h1, h2⟩, h3⟩, h4⟩, h5⟩, h6⟩ := this
      exact ⟨⟨⟨⟨h1, h2⟩, h3⟩, call_ok rr0 rr6, h4⟩, h5⟩
    have lenN : 0 < (ON1 ++ ON2 ++ ON3 ++ ((("call" : Str), 2 + rr) :: ON4) ++ ON5).length ∧ (ON1 ++ ON2 ++ ON3 ++ ((("call" : Str), 2 + rr) :: ON4) ++ ON5).length ≤ 100 := by
      simp only [List.length_append, List.length_cons]
      decide
    clear eP L5 I4 e4 ia4 L4 S4 B4 P4
    generalize (ON1 ++ ON2 ++ ON3 ++ ((("call" : Str), 2 + rr) :: ON4) ++ ON5) = PS at I5 okN lenN
    -- near
    refine gname (seq_asg ?_)
    refine lit_lst (K := K) (ds := NEAR.map pd) ?_ (by decide) _ _ fun vn Hn tn inn => ?_
    · unfold NEAR
      simp only [List.map_cons, List.map_nil, pd]
      walk_at "lits"
    cases inn with
    | @lst pn xsn _ gn en an =>
    have An : ImAll K (fun b => b ≠ s) Hn xsn (NEAR.map pd) := Im.monoAll (fun _ _ _ e => e) (fun b g z => by obtain ⟨o, ho⟩ := S5.at_s; rw [z, ho] at g; cases g) _ _ an
    have Pn : pn ≠ s := fun z => by obtain ⟨o, ho⟩ := S5.at_s; rw [z, ho] at gn; cases gn
    have Sn := S5.keep tn
    have Bn := B5.trans (But.of tn)
    have In := Im.monoAll (fun b o _ e => tn b o e) (fun _ g => g) _ _ I5
    have en5 := tn _ _ e5
    have ian := frs_keep hS (But.of tn) ia5
    clear an gn tn I5 e5 ia5 B5 S5
    refine gname (seq_asg ?_)
    refine ⟨_, rfl, s, l, 4, rfl, Sn, by decide, Nat.lt_of_lt_of_le (by decide) n9, fun pick H6 _ _ b6 S6 => ?_⟩
    have B6 := Bn.trans b6
    refine gname (seq_ifN ?_)
    refine ⟨_, rfl, rfl, _, rfl, ite2 (fun e => ?_) (fun e => ?_)⟩
    · refine ⟨_, rfl, s, l, 3, rfl, S6, by decide, Nat.lt_of_lt_of_le (by decide) n9, fun r H7 r0 r1 b7 S7 => ⟨(by show 2 ≤ sizeLine; decide), fun p np => ⟨(by show 1 ≤ sizeLine; decide), fun p2 np2 => ?_⟩⟩⟩
      have sp := same_upd (o := .tup [.str "v", .int r]) np
      have sp2 := same_upd (o := .tup [.ref p]) np2
      have bb := B6.trans b7
      refine q _ [.tuple [.str "v", .int r]] _ (one_row ⟨3, .v r r0 r1⟩ rfl ?_ ?_) (bb.trans (But.of (sp.trans sp2))) (S7.keep (sp.trans sp2)) (.tup (fr_of (bb.trans (But.of sp)) (S7.keep sp) _ np2) upd_same (.cons (.tup (fr_of bb S7 _ np) (sp2 _ _ upd_same) (.cons (.str _) (.cons (.int _) .nil))) .nil))
      · simp [commaN, nodeF, PyData.eqv, PyData.eqvAll]
      · simp [clN, nodeF, PyData.eqv, PyData.eqvAll]
    · refine seq_ifN ?_
      refine ⟨_, rfl, rfl, _, rfl, ite2 (fun e2 => ?_) (fun e2 => ?_)⟩
      · refine ⟨_, rfl, s, l, 9, rfl, S6, by decide, Nat.lt_of_lt_of_le (by decide) n9, fun r H7 r0 r1 b7 S7 => ⟨_, _, rfl, rfl, (by show 1 ≤ sizeLine; decide), fun p np => ?_⟩⟩
        have bb := B6.trans b7
        refine q _ [.int (r - 4)] _ (one_row ⟨1, .i _ (by omega) (by omega)⟩ rfl ?_ ?_) (bb.trans (But.of (same_upd np))) (S7.keep (same_upd np)) (.tup (fr_of bb S7 _ np) upd_same (.cons (.int _) .nil))
        · simp [commaN, nodeF, PyData.eqv]
        · simp [clN, nodeF, PyData.eqv]
      · refine seq_via (fun σ' H' => ∃ (pp : Addr) (xs : List V) (ps : List (Str × Int)) (w3 w4 : Option V), σ' = [some (.ref s), some va, some (.ref pp), w3, w4, none] ∧ H' = H6 ∧ pp ≠ s ∧ H6 pp = some (.lst xs) ∧ ImAll K (fun b => b ≠ s) H6 xs (ps.map pd) ∧ ps.all okP = true ∧ 0 < ps.length ∧ ps.length ≤ 100) ?_ (fun go => ?_)
        · rintro σ' H' ⟨pp, xs, ps, w3, w4, rfl, rfl, hpp, hxs, Ix, okx, l0, l100⟩
          have lx := Ix.len
          rw [List.length_map] at lx
          refine seq_asg ?_
          refine ⟨_, rfl, _, rfl, _, rfl, _, _, rfl, .inl (SqL.of hxs), s, l, _, rfl, S6, by omega, Nat.lt_of_lt_of_le (show _ < 2 ^ 8 from by omega) n9, fun r H7 r0 r1 b7 S7 => ?_⟩
          obtain ⟨⟨y, n⟩, v, hm, hat, iv⟩ := pd_pick Ix r0 (by omega)
          refine ⟨_, _, _, _, rfl, rfl, SqL.of (b7 _ _ hpp hxs), hat, ?_⟩
          have iv7 := far_keep b7 iv
          have oky := List.all_eq_true.mp okx _ hm
          obtain ⟨o1, o2, o3, _, _⟩ := okP_of oky
          cases id iv7 with
          | @tup c zs _ gc ec ic =>
          cases ic with
          | cons c1 ic =>
          cases ic with
          | cons c2 ic =>
          cases ic
          cases c1
          cases c2
          have hz : SqT K H7 c [.str y, .int n] := SqT.of ec
          refine gname ?_
          refine ⟨_, rfl, _, _, _, _, rfl, rfl, hz, atI_nat (j := 0) rfl, _, rfl, _, _, _, _, rfl, rfl, hz, atI_nat (j := 1) rfl, (by show 3 ≤ sizeLine; decide), fun p np => ⟨(by show 1 ≤ sizeLine; decide), fun p2 np2 => ?_⟩⟩
          have sp := same_upd (o := .tup [.str "f", .str y, .int n]) np
          have sp2 := same_upd (o := .tup [.ref p]) np2
          have sp12 := sp.trans sp2
          have bb := B6.trans b7
          have S8 := S7.keep sp12
          have i3 : Im K (fun b => H b = Option.none) (upd (upd H7 p (.tup [.str "f", .str y, .int n])) p2 (.tup [.ref p])) (.ref p2) (.tuple [nodeF y n]) := .tup (fr_of (bb.trans (But.of sp)) (S7.keep sp) _ np2) upd_same (.cons (.tup (fr_of bb S7 _ np) (sp2 _ _ upd_same) (.cons (.str _) (.cons (.str _) (.cons (.int _) .nil)))) .nil)
          have ia8 : Im K (fun b => H b = Option.none) (upd (upd H7 p (.tup [.str "f", .str y, .int n])) p2 (.tup [.ref p])) va (.tuple [aN]) := frs_keep hS ((b6.trans b7).trans (But.of sp12)) ian
          refine ⟨_, rfl, _, rfl, _, _, _, _, rfl, rfl, same_sqT sp12 hz, atI_nat (j := 1) rfl, ?_⟩
          refine im_rep ia8 (by simp) o2 (by show n ≤ 1000; have := o3; omega) (by decide) fun v9 H9 s9 i9 => ?_
          have bb9 := (bb.trans (But.of sp12)).trans (But.of s9)
          have S9 := S8.keep s9
          have i9 : Im K (fun b => H b = Option.none) H9 v9 (.tuple (List.replicate n.toNat [aN]).flatten) := Im.mono (fun _ _ _ e => e) (fun b g => g.elim id (fr_of (bb.trans (But.of sp12)) S8 b)) _ _ i9
          refine frs_cat bb9 S9 (frs_keep hS (But.of s9) i3) i9 (by rw [as_len, List.length_singleton]; have : n ≤ 8 := o3; omega) fun v10 H10 s10 i10 => ?_
          exact q _ _ _ (odd_row oky) (bb9.trans (But.of s10)) (S9.keep s10) i10
        · refine ⟨_, rfl, rfl, _, rfl, ite2 (fun e3 => ?_) (fun e3 => ?_)⟩
          · refine ⟨_, rfl, ?_⟩
            exact gname (go _ _ ⟨pn, xsn, NEAR, _, _, rfl, rfl, Pn, b6 _ _ Pn en, Im.monoAll (fun b o g e => b6 b o g e) (fun _ g => g) _ _ An, by decide +kernel, by decide, by decide⟩)
          · exact go _ _ ⟨p5, xs5, PS, _, _, rfl, rfl, P5, b6 _ _ P5 en5, Im.monoAll (fun b o g e => b6 b o g e) (fun _ g => g) _ _ In, okN, lenN.1, lenN.2⟩

theorem ok__law_nested {f : Addr} {fd : FuncData} (F : Fun K "_law_nested" "_law_nested" s__law_nested f fd) (E : Bi K mg) (D__law_draw : Has P w K mg base 1 "_law_draw" ["stream", "many"] (sp__law_draw K)) : FnOk P w K mg base CX0 2 f fd ["stream", "rows"] (sp__law_nested K) := by
  obtain ⟨f__law_draw, fd__law_draw, G__law_draw, g__law_draw, kp__law_draw, b__law_draw⟩ := D__law_draw
  refine F.ok sc__law_nested (fun vs H Q E h => ?_) (fun cdv A outer s H vs Q E' hr h => ?_)
  · obtain ⟨s, l, a, xs, rows, rfl, _⟩ := h
    rfl
  · obtain ⟨s, l, a, xs, rows, rfl, hS, has, ha, hx, ho, hne, hl, q⟩ := h
    have n9 : (2 : Nat) ^ 8 ≤ 2 ^ 9000 := Nat.pow_le_pow_right (by decide) (by decide)
    refine ⟨_, (pss_cons (ps_set (i := 1) sc__law_nested.nd rfl (Or.inl rfl) (pe_callTy call_list_of (by rfl) E.b_list (by decide +kernel) (pa_cons (pv 1) pa_nil)))
      (pss_cons (ps_while PassesOwn.never (pt_cmpR op_gt (pe_callB call_len_seq (by rfl) E.b_len PySem.boot_len (pa_cons (pv 1) pa_nil)) pe_int (nomark _)) (pss_cons (ps_set (i := 2) sc__law_nested.nd rfl (Or.inl rfl) (pe_call G__law_draw (hr.mono (by decide)) (by rfl) g__law_draw kp__law_draw b__law_draw .nil pass0 (pa_cons (pv 0) (pa_cons (pe_op op_sub (pe_callB call_len_seq (by rfl) E.b_len PySem.boot_len (pa_cons (pv 1) pa_nil)) pe_int) pa_nil))))
      (pss_cons (ps_set (i := 3) sc__law_nested.nd rfl (Or.inl rfl) (pe_op op_catA (pe_op op_catA (pe_tup (pa_cons (pe_tup (pa_cons pe_str (pa_cons pe_str (pa_cons pe_int pa_nil)))) pa_nil)) (pe_ix ix_list (pv 1) (pv 2) (fun _ _ => rfl))) (pe_ix ix_list (pv 1) (pe_op op_add (pv 2) pe_int) (fun _ _ => rfl))))
      (pss_one (ps_set (i := 1) sc__law_nested.nd rfl (Or.inl rfl) (pe_op op_cat (pe_op op_cat (pe_slice sl_list (pv 1) po_none (po_some (pv 2))) (pe_lst (pa_cons (pv 3) pa_nil))) (pe_slice sl_list (pv 1) (po_some (pe_op op_add (pv 2) pe_int)) po_none)))))))
      (pss_one (ps_ret (pe_ix ix_list (pv 1) pe_int (fun _ _ => rfl)))))), ?_⟩
    refine seq_asg ?_
    refine ⟨_, rfl, _, _, rfl, .inl (SqL.of ha), fun p0 np0 => gname (seq_any ?_)⟩
    have s0 := same_upd (o := .lst xs) np0
    have hp0 : p0 ≠ s := fun z => by obtain ⟨o, ho⟩ := hS.at_s; rw [z, ho] at np0; cases np0
    refine ⟨fun k σ H' => ∃ (p : Addr) (xs : List V) (cs : List (List PyData)) (va vb : Option V), σ = [some (.ref s), some (.ref p), va, vb] ∧ p ≠ s ∧ H' p = some (.lst xs) ∧ ImAll K (fun b => b ≠ s) H' xs (cs.map PyData.tuple) ∧ Parts cs rows ∧ 0 < cs.length ∧ cs.length ≤ 5 ∧ szP cs ≤ 50 ∧ Stm H' s l ∧ But s H H' ∧ k = cs.length,
      ⟨_, p0, xs, rows, _, _, rfl, hp0, upd_same, Im.monoAll (fun b o _ e => s0 b o e) (fun _ g => g) _ _ hx, parts_of ho, List.length_pos_iff.mpr hne, hl, by have := sz_rows ho; omega, hS.keep s0, But.of s0, rfl⟩, ?_⟩
    rintro k σ H1 ⟨p, xs, cs, va, vb, rfl, hp, h1, h2, h3, h4, h5, h6, S1, b1, rfl⟩
    have hxl := h2.len
    rw [List.length_map] at hxl
    refine ⟨_, rfl, _, _, rfl, .inl (SqL.of h1), _, _, rfl, rfl, _, rfl, ite2 (fun e => ?_) (fun e => ?_)⟩
    · have hm : 1 < cs.length := by
        have := of_decide_eq_true e
        omega
      refine ⟨fun σ' H' => ∃ (p : Addr) (xs : List V) (cs' : List (List PyData)) (va vb : Option V), σ' = [some (.ref s), some (.ref p), va, vb] ∧ p ≠ s ∧ H' p = some (.lst xs) ∧ ImAll K (fun b => b ≠ s) H' xs (cs'.map PyData.tuple) ∧ Parts cs' rows ∧ 0 < cs'.length ∧ cs'.length ≤ 5 ∧ szP cs' ≤ 50 ∧ Stm H' s l ∧ But s H H' ∧ cs'.length < cs.length,
        fun σ' H' ⟨p, xs, cs', va, vb, g0, g1, g2, g3, g4, g5, g6, g7, g8, g9, g10⟩ => ⟨cs'.length, g10, p, xs, cs', va, vb, g0, g1, g2, g3, g4, g5, g6, g7, g8, g9, rfl⟩, ?_⟩
      refine seq_asg ?_
      refine ⟨_, rfl, _, rfl, _, _, rfl, .inl (SqL.of h1), _, _, rfl, rfl, s, l, _, rfl, S1, by omega, Nat.lt_of_lt_of_le (show _ < 2 ^ 8 from by omega) n9, fun r H2 r0 r1 b2 S2 => ?_⟩
      obtain ⟨i, hi⟩ : ∃ i : Nat, r = (i : Int) := ⟨r.toNat, by omega⟩
      subst hi
      have hil : i + 1 < cs.length := by omega
      have hca : cs[i]? = some cs[i] := List.getElem?_eq_getElem (by omega)
      have hcb : cs[i + 1]? = some cs[i + 1] := List.getElem?_eq_getElem hil
      generalize cs[i] = ca at hca
      generalize cs[i + 1] = cb at hcb
      have e2 := b2 _ _ hp h1
      have I2 := Im.monoAll (H' := H2) (fun b o g e => b2 b o g e) (fun _ g => g) _ _ h2
      obtain ⟨xa, hxa, ixa⟩ := ImAll.get I2 (d := .tuple ca) (i := i) (by rw [List.getElem?_map, hca]; rfl)
      obtain ⟨xb, hxb, ixb⟩ := ImAll.get I2 (d := .tuple cb) (i := i + 1) (by rw [List.getElem?_map, hcb]; rfl)
      have hsz : ca.length + cb.length ≤ 50 := by
        obtain ⟨z1, _⟩ := sz_merge hca hcb
        rw [← z1] at h6
        unfold szP at h6
        simp only [List.map_append, List.map_cons, List.map_nil, List.sum_append, List.sum_cons, List.sum_nil, List.length_append, List.length_cons, List.length_nil] at h6
        omega
      refine gname (seq_asg ?_)
      refine op_of (op_of ?_)
      refine lit_tup (K := K) (ds := [commaN]) ?_ (by decide) H2 _ fun v0 H3 t0 i0 => ?_
      · unfold commaN nodeF
        walk_at "lits"
      have S3 := S2.keep t0
      have i0 : Im K (fun b => b ≠ s) H3 v0 (.tuple [commaN]) := far_of S2 i0
      refine ⟨_, rfl, _, rfl, _, _, _, _, rfl, rfl, SqL.of (t0 _ _ e2), atI_nat (j := i) hxa, ?_⟩
      refine far_cat S3 i0 (far_keep (But.of t0) ixa) (by rw [List.length_singleton]; omega) fun v4 H4 s4 i4 => ?_
      have S4 := S3.keep s4
      have s24 := t0.trans s4
      refine ⟨_, rfl, _, rfl, _, _, rfl, rfl, _, _, _, _, rfl, rfl, SqL.of (s24 _ _ e2), (by show atI xs ((i : Int) + 1) = some xb; rw [show (i : Int) + 1 = ((i + 1 : Nat) : Int) by omega]; exact atI_nat hxb), ?_⟩
      refine far_cat S4 i4 (far_keep (But.of s24) ixb) (by rw [List.length_append, List.length_singleton]; omega) fun v5 H5 s5 i5 => ?_
      have S5 := S4.keep s5
      have s25 := s24.trans s5
      have e5 := s25 _ _ e2
      have I5 := Im.monoAll (H' := H5) (fun b o _ e => s25 b o e) (fun _ g => g) _ _ I2
      have i5 : Im K (fun b => b ≠ s) H5 v5 (.tuple (commaN :: (ca ++ cb))) := by
        rw [show commaN :: (ca ++ cb) = [commaN] ++ ca ++ cb by rw [List.append_assoc]; rfl]; exact i5
      refine gname (asg1 ?_)
      refine ⟨_, rfl, nopart_of ?_⟩
      refine ⟨_, rfl, _, rfl, ?_⟩
      refine ⟨p, xs, rfl, SqL.of e5, fun p6 np6 => ?_⟩
      rw [cut_take xs i (by omega)]
      have u6 := same_upd (o := .lst (xs.take i)) np6
      refine ⟨_, rfl, (by show 1 ≤ sizeLine; decide), fun p7 np7 => ?_⟩
      have u7 := same_upd (o := .lst [v5]) np7
      refine ⟨_, _, _, _, rfl, rfl, u7 _ _ upd_same, upd_same, small_of (by rw [List.length_take, List.length_singleton]; omega), fun p8 np8 => ?_⟩
      have u8 := same_upd (o := .lst (xs.take i ++ [v5])) np8
      have s58 := (u6.trans u7).trans u8
      have e8 : (upd (upd (upd H5 p6 (.lst (xs.take i))) p7 (.lst [v5])) p8 (.lst (xs.take i ++ [v5]))) p8 = some (.lst (xs.take i ++ [v5])) := upd_same
      clear np6 np7 np8 u6 u7 u8
      generalize upd (upd (upd H5 p6 (.lst (xs.take i))) p7 (.lst [v5])) p8 (.lst (xs.take i ++ [v5])) = H8 at s58 e8
      refine ⟨_, rfl, _, rfl, _, _, rfl, rfl, _, rfl, nopart_of ?_⟩
      refine ⟨p, xs, rfl, SqL.of (s58 _ _ e5), fun p9 np9 => ?_⟩
      show rCat (.ref p8) (.ref p9) (upd H8 p9 (.lst (cutV xs (some ((i : Int) + 2)) Option.none))) _
      rw [show (i : Int) + 2 = ((i + 2 : Nat) : Int) by omega, cut_drop xs (i + 2) (by omega)]
      have u9 := same_upd (o := .lst (xs.drop (i + 2))) np9
      refine ⟨_, _, _, _, rfl, rfl, u9 _ _ e8, upd_same, small_of (by rw [List.length_append, List.length_take, List.length_drop, List.length_singleton]; omega), fun p10 np10 => ?_⟩
      have u10 := same_upd (o := .lst (xs.take i ++ [v5] ++ xs.drop (i + 2))) np10
      have s510 := s58.trans (u9.trans u10)
      have S10 := S5.keep s510
      have hp10 : p10 ≠ s := fun z => by obtain ⟨o, ho⟩ := (S5.keep (s58.trans u9)).at_s; rw [z, ho] at np10; cases np10
      obtain ⟨z1, z2⟩ := sz_merge hca hcb
      refine gname ⟨p10, _, cs.take i ++ [commaN :: (ca ++ cb)] ++ cs.drop (i + 2), _, _, rfl, hp10, upd_same, ?_, h3.merge hca hcb, by omega, by omega, by rw [z1]; exact h6, S10, (b1.trans b2).trans (But.of (s25.trans s510)), by omega⟩
      rw [List.map_append, List.map_append, List.map_take, List.map_drop]
      have J := Im.monoAll (H' := upd (upd H8 p9 (.lst (xs.drop (i + 2)))) p10 (.lst (xs.take i ++ [v5] ++ xs.drop (i + 2)))) (fun b o _ e => s510 b o e) (fun _ g => g) _ _ I5
      exact ImAll.app (ImAll.app (ImAll.taket i J) (.cons (far_keep (But.of s510) i5) .nil)) (ImAll.dropt (i + 2) J)
    · have hlen : cs.length = 1 := by
        have : ¬ (1 : Int) < (xs.length : Int) := fun z => e (decide_eq_true z)
        omega
      refine nxp ?_
      cases h3 with
      | nil => cases hlen
      | @cons as cs R c f1 c1 n1 h3 =>
        have hcs : cs = [] := List.eq_nil_of_length_eq_zero (by rw [List.length_cons] at hlen; omega)
        subst hcs
        cases h3
        rw [List.append_nil] at q
        cases h2 with
        | cons ic icn =>
        cases icn
        refine ⟨_, rfl, _, _, _, _, rfl, rfl, SqL.of h1, atI_nat (j := 0) rfl, ?_⟩
        exact q _ c _ f1 c1 n1 (by unfold szP at h6; simp only [List.map_cons, List.map_nil, List.sum_cons, List.sum_nil, List.length_cons, List.length_nil] at h6; omega) b1 S1 ic

theorem ok_end_of {f : Addr} {fd : FuncData} (F : Fun K "end_of" "end_of" s_end_of f fd) (E : Bi K mg) (D_arity_of : Has P w K mg base 2 "arity_of" ["node"] (sp_arity_of K)) : FnOk P w K mg base CX0 3 f fd ["nodes", "start"] (sp_end_of K) := by
  obtain ⟨f_arity_of, fd_arity_of, G_arity_of, g_arity_of, kp_arity_of, b_arity_of⟩ := D_arity_of
  refine F.ok sc_end_of (fun vs H Q E h => ?_) (fun cdv A outer s H vs Q E' hr h => ?_)
  · obtain ⟨x, ds, i, k, rfl, _⟩ := h
    rfl
  · obtain ⟨x, ds, i, k, rfl, hd, hn, hc, q⟩ := h
    refine ⟨_, (pss_cons (ps_set (i := 2) sc_end_of.nd rfl (Or.inl rfl) pe_int)
      (pss_cons (ps_set (i := 3) sc_end_of.nd rfl (Or.inl rfl) (pv 1))
      (pss_cons (ps_while PassesOwn.never (pt_cmpR op_gt (pv 2) pe_int (nomark _)) (pss_cons (ps_aug (i := 2) sc_end_of.nd rfl (Or.inl rfl) (pe_op op_sub (pe_call G_arity_of (hr.mono (by decide)) (by rfl) g_arity_of kp_arity_of b_arity_of .nil pass0 (pa_cons (pe_ix ix_tup (pv 0) (pv 3) (fun _ _ => rfl)) pa_nil)) pe_int) ip_add)
      (pss_one (ps_aug (i := 3) sc_end_of.nd rfl (Or.inl rfl) pe_int ip_add))))
      (pss_one (ps_ret (pv 3)))))), ?_⟩
    cases hd with
    | @tup a xs _ hs ha =>
    refine seq_asg (gname (seq_asg ?_))
    refine ⟨_, rfl, ?_⟩
    refine gname (seq_any ?_)
    refine ⟨fun n σ H' => ∃ (m j kk : Nat), σ = [some (.ref a), some (.int (i : Int)), some (.int (m : Int)), some (.int (j : Int))] ∧ H' = H ∧ Cls kk (ds.drop j) ∧ m ≤ kk ∧ j + tk m (ds.drop j) = i + tk 1 (ds.drop i) ∧ n = ds.length - j,
      ⟨_, 1, i, k + 1, rfl, rfl, hc, by omega, rfl, rfl⟩, ?_⟩
    rintro n σ H1 ⟨m, j, kk, rfl, rfl, h1, h2, h3, rfl⟩
    refine ⟨_, rfl, _, _, rfl, rfl, _, rfl, ite2 (fun e => ?_) (fun e => ?_)⟩
    · have hm : 0 < m := by
        have := of_decide_eq_true e
        omega
      cases hl : ds.drop j with
      | nil =>
        rw [hl] at h1
        have : kk = 0 := h1
        omega
      | cons d r =>
        rw [hl] at h1 h3
        have hj : j < ds.length := by
          rcases Nat.lt_or_ge j ds.length with h | h
          · exact h
          · rw [List.drop_of_length_le h] at hl; cases hl
        have hdj : ds[j]? = some d := by
          rw [← List.head?_drop, hl]
          rfl
        have hr : ds.drop (j + 1) = r := by
          rw [← List.drop_drop, hl]
          rfl
        obtain ⟨v, hv, hdv⟩ := DpAll.get ha hdj
        refine ⟨fun σ' H' => ∃ (m' kk' : Nat), σ' = [some (.ref a), some (.int (i : Int)), some (.int (m' : Int)), some (.int ((j + 1 : Nat) : Int))] ∧ H' = H1 ∧ Cls kk' (ds.drop (j + 1)) ∧ m' ≤ kk' ∧ j + 1 + tk m' (ds.drop (j + 1)) = i + tk 1 (ds.drop i),
          fun σ' H' ⟨m', kk', g1, g2, g3, g4, g5⟩ => ⟨ds.length - (j + 1), by omega, m', j + 1, kk', g1, g2, g3, g4, g5, rfl⟩, ?_⟩
        refine ⟨_, rfl, _, rfl, _, rfl, _, _, _, _, rfl, rfl, hs, atI_nat (j := j) hv, v, d, rfl, hdv, hn d (List.mem_of_getElem? hdj), _, _, rfl, rfl, _, _, rfl, rfl, ?_⟩
        refine ⟨_, rfl, _, _, rfl, rfl, ?_⟩
        refine ⟨m - 1 + arN d, kk - 1 + arN d, ?_, rfl, by rw [hr]; exact h1.2, by omega, ?_⟩
        · rw [show ((m - 1 + arN d : Nat) : Int) = (m : Int) + ((arN d : Int) - 1) by omega]
          rfl
        · rw [tk_cons hm] at h3
          rw [hr]
          omega
    · have hm : m = 0 := by
        cases m with
        | zero => rfl
        | succ m => exact absurd (decide_eq_true (by omega)) e
      subst hm
      refine nxp ?_
      refine ⟨_, rfl, ?_⟩
      rw [tk_zero] at h3
      rw [← h3] at q
      exact q

theorem ok__law_argument {f : Addr} {fd : FuncData} (F : Fun K "_law_argument" "_law_argument" s__law_argument f fd) (E : Bi K mg) (D__law_draw : Has P w K mg base 1 "_law_draw" ["stream", "many"] (sp__law_draw K)) (D__law_leaf : Has P w K mg base 2 "_law_leaf" ["stream", "widest"] (sp__law_leaf K)) : FnOk P w K mg base CX0 3 f fd ["stream", "widest"] (sp__law_argument K) := by
  obtain ⟨f__law_draw, fd__law_draw, G__law_draw, g__law_draw, kp__law_draw, b__law_draw⟩ := D__law_draw
  obtain ⟨f__law_leaf, fd__law_leaf, G__law_leaf, g__law_leaf, kp__law_leaf, b__law_leaf⟩ := D__law_leaf
  refine F.ok sc__law_argument (fun vs H Q E h => ?_) (fun cdv A outer s H vs Q E' hr h => ?_)
  · obtain ⟨s, l, wd, rfl, _⟩ := h
    rfl
  · obtain ⟨s, l, wd, rfl, hS, hw, hw2, q⟩ := h
    have n9 : (2 : Nat) ^ 8 ≤ 2 ^ 9000 := Nat.pow_le_pow_right (by decide) (by decide)
    refine ⟨_, (pss_cons (ps_set (i := 2) sc__law_argument.nd rfl (Or.inl rfl) (pe_call G__law_draw (hr.mono (by decide)) (by rfl) g__law_draw kp__law_draw b__law_draw .nil pass0 (pa_cons (pv 0) (pa_cons pe_int pa_nil))))
      (pss_cons (ps_if (pt_cmpR op_eq (pv 2) pe_int (nomark _)) (pss_one (ps_ret (pe_op op_catA (pe_tup (pa_cons (pe_tup (pa_cons pe_str (pa_cons pe_str (pa_cons pe_int pa_nil)))) pa_nil)) (pe_call G__law_leaf (hr.mono (by decide)) (by rfl) g__law_leaf kp__law_leaf b__law_leaf .nil pass0 (pa_cons (pv 0) (pa_cons (pv 1) pa_nil)))))) pss_nil)
      (pss_cons (ps_if (pt_cmpR op_eq (pv 2) pe_int (nomark _)) (pss_one (ps_ret (pe_op op_catA (pe_op op_catA (pe_tup (pa_cons (pe_tup (pa_cons pe_str (pa_cons pe_str (pa_cons pe_int pa_nil)))) pa_nil)) (pe_call G__law_leaf (hr.mono (by decide)) (by rfl) g__law_leaf kp__law_leaf b__law_leaf .nil pass0 (pa_cons (pv 0) (pa_cons (pv 1) pa_nil)))) (pe_call G__law_leaf (hr.mono (by decide)) (by rfl) g__law_leaf kp__law_leaf b__law_leaf .nil pass0 (pa_cons (pv 0) (pa_cons (pv 1) pa_nil)))))) pss_nil)
      (pss_one (ps_ret (pe_call G__law_leaf (hr.mono (by decide)) (by rfl) g__law_leaf kp__law_leaf b__law_leaf .nil pass0 (pa_cons (pv 0) (pa_cons (pv 1) pa_nil)))))))), ?_⟩
    refine seq_asg ?_
    refine ⟨_, rfl, s, l, 6, rfl, hS, by decide, Nat.lt_of_lt_of_le (by decide) n9, fun pick H1 _ _ b1 S1 => ?_⟩
    refine gname (seq_ifN ?_)
    refine ⟨_, rfl, rfl, _, rfl, ite2 (fun e => ?_) (fun e => ?_)⟩
    · refine op_of ?_
      refine lit_tup (K := K) (ds := [nodeF "s" 1]) ?_ (by decide) H1 _ fun v0 H2 t0 i0 => ?_
      · unfold nodeF
        walk_at "lits"
      have S2 := S1.keep t0
      have b2 := b1.trans (But.of t0)
      refine ⟨_, rfl, _, rfl, s, l, wd, rfl, S2, hw, hw2, fun v1 d1 H3 n1 a1 b3 S3 i1 => ?_⟩
      have b03 := b2.trans b3
      refine frs_cat b03 S3 (frs_keep hS b3 (frs_of b1 S1 i0)) (frs_of b2 S2 i1) (Nat.le_of_ble_eq_true rfl) fun v4 H4 s4 i4 => ?_
      refine q _ [nodeF "s" 1, d1] _ (fun d hd => ?_) ⟨by decide, by decide, by rw [a1]; rfl⟩ (Nat.le_of_ble_eq_true rfl) (b03.trans (But.of s4)) (S3.keep s4) i4
      rcases List.mem_cons.mp hd with z | z
      · rw [z]; exact ⟨1, .f "s" 1 (by decide +kernel) (by decide) (by decide)⟩
      · rw [List.mem_singleton.mp z]; exact n1
    · refine seq_ifN ?_
      refine ⟨_, rfl, rfl, _, rfl, ite2 (fun e2 => ?_) (fun e2 => ?_)⟩
      · refine op_of ?_
        refine op_of ?_
        refine lit_tup (K := K) (ds := [nodeF "." 2]) ?_ (by decide) H1 _ fun v0 H2 t0 i0 => ?_
        · unfold nodeF
          walk_at "lits"
        have S2 := S1.keep t0
        have b2 := b1.trans (But.of t0)
        refine ⟨_, rfl, _, rfl, s, l, wd, rfl, S2, hw, hw2, fun v1 d1 H3 n1 a1 b3 S3 i1 => ?_⟩
        have b03 := b2.trans b3
        refine frs_cat b03 S3 (frs_keep hS b3 (frs_of b1 S1 i0)) (frs_of b2 S2 i1) (Nat.le_of_ble_eq_true rfl) fun v4 H4 s4 i4 => ?_
        have b04 := b03.trans (But.of s4)
        have S4 := S3.keep s4
        refine ⟨_, rfl, _, rfl, s, l, wd, rfl, S4, hw, hw2, fun v5 d5 H5 n5 a5 b5 S5 i5 => ?_⟩
        have b05 := b04.trans b5
        refine frs_cat b05 S5 (frs_keep hS b5 i4) (frs_of b04 S4 i5) (Nat.le_of_ble_eq_true rfl) fun v6 H6 s6 i6 => ?_
        refine q _ [nodeF "." 2, d1, d5] _ (fun d hd => ?_) ⟨by decide, by decide, by rw [a1]; exact ⟨by decide, by rw [a5]; rfl⟩⟩ (Nat.le_of_ble_eq_true rfl) (b05.trans (But.of s6)) (S5.keep s6) i6
        have hd : d ∈ [nodeF "." 2, d1, d5] := hd
        simp only [List.mem_cons, List.not_mem_nil, or_false] at hd
        rcases hd with z | z | z <;> subst z
        · exact ⟨1, .f "." 2 (by decide +kernel) (by decide) (by decide)⟩
        · exact n1
        · exact n5
      · refine ⟨_, rfl, _, rfl, s, l, wd, rfl, S1, hw, hw2, fun v1 d1 H3 n1 a1 b3 S3 i1 => ?_⟩
        exact q _ [d1] _ (fun d hd => by rw [List.mem_singleton.mp hd]; exact n1) ⟨by decide, by rw [a1]; rfl⟩ (by show 1 ≤ 3; decide) (b1.trans b3) S3 (frs_of b1 S1 i1)

theorem ok_split_clause {f : Addr} {fd : FuncData} (F : Fun K "split_clause" "split_clause" s_split_clause f fd) (E : Bi K mg) (D_end_of : Has P w K mg base 3 "end_of" ["nodes", "start"] (sp_end_of K)) : FnOk P w K mg base CX0 4 f fd ["clause"] (sp_split_clause K) := by
  obtain ⟨f_end_of, fd_end_of, G_end_of, g_end_of, kp_end_of, b_end_of⟩ := D_end_of
  obtain ⟨u_CLAUSE_SYMBOL, v_CLAUSE_SYMBOL, e_CLAUSE_SYMBOL, r_CLAUSE_SYMBOL, d_CLAUSE_SYMBOL⟩ := E.c_CLAUSE_SYMBOL
  obtain ⟨u_TRUE, v_TRUE, e_TRUE, r_TRUE, d_TRUE⟩ := E.c_TRUE
  refine F.ok sc_split_clause (fun vs H Q E h => ?_) (fun cdv A outer s H vs Q E' hr h => ?_)
  · obtain ⟨x, d, r, rfl, _⟩ := h
    rfl
  · obtain ⟨x, d, r, rfl, hx, hn, hc, hl, q⟩ := h
    refine ⟨_, (pss_cons (ps_if (pt_cmpR (op_neD hr.units) (pe_ix ix_tup (pv 0) pe_int (fun _ _ => rfl)) (pe_glob (by rfl) e_CLAUSE_SYMBOL r_CLAUSE_SYMBOL) (nomark _)) (pss_one (ps_ret (pe_tup (pa_cons (pv 0) (pa_cons (pe_glob (by rfl) e_TRUE r_TRUE) pa_nil))))) pss_nil)
      (pss_cons (ps_set (i := 1) sc_split_clause.nd rfl (Or.inl rfl) (pe_call G_end_of (hr.mono (by decide)) (by rfl) g_end_of kp_end_of b_end_of .nil pass0 (pa_cons (pv 0) (pa_cons pe_int pa_nil))))
      (pss_one (ps_ret (pe_tup (pa_cons (pe_slice sl_tupA (pv 0) (po_some pe_int) (po_some (pv 1))) (pa_cons (pe_slice sl_tupA (pv 0) (po_some (pv 1)) po_none) pa_nil))))))), ?_⟩
    cases id hx with
    | @tup a xs _ hs ha =>
    have hxl := DpAll.len ha
    rw [List.length_cons] at hxl
    obtain ⟨v0, hv0, dv0⟩ := DpAll.get (i := 0) ha rfl
    refine seq_ifN ?_
    refine ⟨_, rfl, _, _, _, _, rfl, rfl, hs, atI_nat (j := 0) hv0, d, clN, dv0, dp_same (none_same _) _ _ d_CLAUSE_SYMBOL, nd_shaped (hn d List.mem_cons_self), nd_shaped cl_nd, _, rfl, ?_⟩
    cases e : PyData.eqv d clN with
    | true =>
      have es : splitM (d :: r) = (r.take (tk 1 r), r.drop (tk 1 r)) := by
        show (if PyData.eqv d clN = true then (r.take (tk 1 r), r.drop (tk 1 r)) else (d :: r, [trueN])) = _
        rw [if_pos e]
      rw [es] at q
      have hk := tk_le r 1
      refine iteF (seq_asg ?_)
      refine ⟨_, rfl, .ref a, d :: r, 1, 1, rfl, hx, hn, hc e, ?_⟩
      refine gname ?_
      refine ⟨_, rfl, _, rfl, _, rfl, _, rfl, ?_⟩
      show rSlA K (.ref a) (some ((1 : Nat) : Int)) (some ((1 + tk 1 r : Nat) : Int)) H _
      refine slA_nat hs (by omega) (by omega) fun b1 H1 s1 t1 _ => ?_
      refine ⟨_, rfl, _, rfl, _, rfl, nopart_of ?_⟩
      show rSlA K (.ref a) (some ((1 + tk 1 r : Nat) : Int)) Option.none H1 _
      refine dp_drop (dp_same s1 _ _ hx) (by rw [List.length_cons]; omega) fun v2 H2 s2 d2 => ?_
      refine ⟨(by show 2 ≤ sizeLine; decide), fun p np => ?_⟩
      have s3 := same_upd (o := .tup [.ref b1, v2]) np
      refine q _ _ ((s1.trans s2).trans s3) (.tup (SqT.of upd_same) (.cons (.tup (same_sqT (s2.trans s3) t1) ?_) (.cons ?_ .nil)))
      · have := DpAll.taket (1 + tk 1 r - 1) (DpAll.dropt 1 (dp_sameAll ((s1.trans s2).trans s3) _ _ ha))
        rw [show 1 + tk 1 r - 1 = tk 1 r by omega, List.drop_succ_cons, List.drop_zero] at this
        show DpAll K _ ((xs.drop 1).take (1 + tk 1 r - 1)) _
        rw [show 1 + tk 1 r - 1 = tk 1 r by omega]
        exact this
      · rw [show (d :: r).drop (1 + tk 1 r) = r.drop (tk 1 r) by rw [Nat.add_comm, List.drop_succ_cons]] at d2
        exact dp_same s3 _ _ d2
    | false =>
      have es : splitM (d :: r) = (d :: r, [trueN]) := by
        show (if PyData.eqv d clN = true then (r.take (tk 1 r), r.drop (tk 1 r)) else (d :: r, [trueN])) = _
        rw [if_neg (by rw [e]; exact Bool.false_ne_true)]
      rw [es] at q
      refine iteT ⟨_, rfl, (by show 2 ≤ sizeLine; decide), fun p np => ?_⟩
      have s3 := same_upd (o := .tup [.ref a, v_TRUE]) np
      exact q _ _ s3 (.tup (SqT.of upd_same) (.cons (dp_same s3 _ _ hx) (.cons (dp_same (none_same _) _ _ d_TRUE) .nil)))

theorem ok_goals_of {f : Addr} {fd : FuncData} (F : Fun K "goals_of" "goals_of" s_goals_of f fd) (E : Bi K mg) (D_end_of : Has P w K mg base 3 "end_of" ["nodes", "start"] (sp_end_of K)) (D_check_goal : HasX P w K mg base 2 "check_goal" ["term"] (sp_check_goal K)) : FnOk P w K mg base (L2.CX P w) 4 f fd ["body"] (sp_goals_of K) := by
  obtain ⟨f_end_of, fd_end_of, G_end_of, g_end_of, kp_end_of, b_end_of⟩ := D_end_of
  obtain ⟨f_check_goal, fd_check_goal, G_check_goal, g_check_goal, kp_check_goal, b_check_goal⟩ := D_check_goal
  obtain ⟨u_CONJUNCTION, v_CONJUNCTION, e_CONJUNCTION, r_CONJUNCTION, d_CONJUNCTION⟩ := E.c_CONJUNCTION
  obtain ⟨u_TRUE, v_TRUE, e_TRUE, r_TRUE, d_TRUE⟩ := E.c_TRUE
  refine F.okX sc_goals_of (fun vs H Q E h => ?_) (fun cdv A outer s H vs Q E' hr h => ?_)
  · obtain ⟨x, ds, rows, m, rfl, _⟩ := h
    rfl
  · obtain ⟨x, ds, rows, m, rfl, hx, hn, hf, hm, hl, hrl, q1, q2⟩ := h
    refine ⟨_, (pss_cons (ps_set (i := 1) sc_goals_of.nd rfl (Or.inl rfl) (pe_lst pa_nil))
      (pss_cons (ps_set (i := 2) sc_goals_of.nd rfl (Or.inl rfl) pe_int)
      (pss_cons (ps_while (passes_of rfl) (pt_cmpR op_lt (pv 2) (pe_callB call_len_seq (by rfl) E.b_len PySem.boot_len (pa_cons (pv 0) pa_nil)) (nomark _)) (pss_cons (ps_set (i := 3) sc_goals_of.nd rfl (Or.inl rfl) (pe_op op_add (pv 2) pe_int))
      (pss_cons (ps_if (pt_cmpR (op_neD hr.units) (pe_ix ix_tup (pv 0) (pv 2) (fun _ _ => rfl)) (pe_glob (by rfl) e_CONJUNCTION r_CONJUNCTION) (nomark _)) (pss_cons (ps_set (i := 3) sc_goals_of.nd rfl (Or.inl rfl) (pe_call G_end_of (hr.mono (by decide)) (by rfl) g_end_of kp_end_of b_end_of .nil pass0 (pa_cons (pv 0) (pa_cons (pv 2) pa_nil))))
      (pss_one (ps_if (pt_cmpR (op_neD hr.units) (pe_slice sl_tupA (pv 0) (po_some (pv 2)) (po_some (pv 3))) (pe_glob (by rfl) e_TRUE r_TRUE) (nomark _)) (pss_cons (ps_expr (pe_callS G_check_goal (hr.mono (by decide)) (by rfl) g_check_goal kp_check_goal b_check_goal (fun σ => passAt (takes_of rfl rfl rfl rfl) σ) (pa_cons (pe_slice sl_tupA (pv 0) (po_some (pv 2)) (po_some (pv 3))) pa_nil)))
      (pss_one (ps_expr (pe_bm PySem.F.plainAttrs_list PySem.F.slot_list_append PySem.F.type_list_append mt_append (pv 1) (pa_cons (pe_slice sl_tupA (pv 0) (po_some (pv 2)) (po_some (pv 3))) pa_nil))))) pss_nil))) pss_nil)
      (pss_one (ps_set (i := 2) sc_goals_of.nd rfl (Or.inl rfl) (pv 3))))))
      (pss_one (ps_ret (pv 1)))))), ?_⟩
    cases id hx with
    | @tup a xs _ hs ha =>
    have hxl := DpAll.len ha
    refine seq_asg ?_
    refine ⟨Nat.zero_le _, fun r nr => ?_⟩
    refine gname (seq_asg (gname (seq_any ?_)))
    have s0 : Same H (upd H r (.lst [])) := same_upd nr
    have put : ∀ {H1 : Hp} {o : HO}, Same H H1 → Same H (upd H1 r o) := fun {H1 o} s1 b u e => by rw [upd_ne (ne_of_none e nr)]; exact s1 b u e
    refine ⟨fun k σ H' => ∃ (at' m : Nat) (ve : Option V) (done rest : List (List PyData)) (ys : List V), σ = [some (.ref a), some (.ref r), some (.int (at' : Int)), ve] ∧ at' ≤ ds.length ∧ rows = done ++ rest ∧ Flat rest (ds.drop at') ∧ Cls m (ds.drop at') ∧ (goalsM done).all isGr = true ∧ H' r = some (.lst ys) ∧ DpAll K H' ys ((goalsM done).map PyData.tuple) ∧ (∀ q ∈ goalsM done, ∀ d ∈ q, NdA d) ∧ ys.length ≤ done.length ∧ Same H H' ∧ k = ds.length - at',
      ⟨_, 0, m, _, [], rows, [], rfl, Nat.zero_le _, rfl, hf, hm, rfl, upd_same, .nil, (fun q h => nomatch h), Nat.le_refl _, s0, rfl⟩, ?_⟩
    rintro k σ H1 ⟨at', m, ve, done, rest, ys, rfl, h0, h1, h2, h3, h4, h5, h6, h7, h8, h9, rfl⟩
    have hs1 := same_sqT h9 hs
    refine ⟨_, rfl, _, rfl, _, _, rfl, .inr hs1, _, _, rfl, rfl, _, rfl, ite2 (fun e => ?_) (fun e => ?_)⟩
    · have hlt : at' < ds.length := by
        have := of_decide_eq_true e
        omega
      have hd : ds[at']? = some ds[at'] := List.getElem?_eq_getElem hlt
      have hT : ds.drop at' = ds[at'] :: ds.drop (at' + 1) := List.drop_eq_getElem_cons hlt
      generalize ds[at'] = d0 at hd hT
      obtain ⟨v0, hv0, dv0⟩ := DpAll.get ha hd
      have nd0 := hn d0 (List.mem_of_getElem? hd)
      rw [hT] at h2 h3
      have hlen : done.length ≤ 200 := by
        have : rows.length = done.length + rest.length := by rw [h1, List.length_append]
        omega
      refine ⟨fun σ' H' => ∃ (at2 m : Nat) (ve : Option V) (done rest : List (List PyData)) (ys : List V), σ' = [some (.ref a), some (.ref r), some (.int (at2 : Int)), ve] ∧ at2 ≤ ds.length ∧ rows = done ++ rest ∧ Flat rest (ds.drop at2) ∧ Cls m (ds.drop at2) ∧ (goalsM done).all isGr = true ∧ H' r = some (.lst ys) ∧ DpAll K H' ys ((goalsM done).map PyData.tuple) ∧ (∀ q ∈ goalsM done, ∀ d ∈ q, NdA d) ∧ ys.length ≤ done.length ∧ Same H H' ∧ at' < at2,
        fun σ' H' ⟨at2, m, ve, done, rest, ys, g0, g1, g2, g3, g4, g5, g6, g7, g8, g9, g10, g11⟩ => ⟨ds.length - at2, by omega, at2, m, ve, done, rest, ys, g0, g1, g2, g3, g4, g5, g6, g7, g8, g9, g10, rfl⟩, ?_⟩
      refine seq_asg ?_
      refine ⟨_, rfl, _, _, rfl, rfl, ?_⟩
      refine gname ?_
      refine seq_via (fun σ' H' => ∃ (at2 m : Nat) (done rest : List (List PyData)) (ys : List V), σ' = [some (.ref a), some (.ref r), some (.int (at' : Int)), some (.int (at2 : Int))] ∧ at2 ≤ ds.length ∧ rows = done ++ rest ∧ Flat rest (ds.drop at2) ∧ Cls m (ds.drop at2) ∧ (goalsM done).all isGr = true ∧ H' r = some (.lst ys) ∧ DpAll K H' ys ((goalsM done).map PyData.tuple) ∧ (∀ q ∈ goalsM done, ∀ d ∈ q, NdA d) ∧ ys.length ≤ done.length ∧ Same H H' ∧ at' < at2) ?_ (fun go => ?_)
      · rintro σ' H' ⟨at2, m, done, rest, ys, rfl, g⟩
        refine asg1 ?_
        refine ⟨_, rfl, ?_⟩
        exact gname ⟨at2, m, _, done, rest, ys, rfl, g⟩
      · refine ⟨_, rfl, _, rfl, _, _, _, _, rfl, rfl, hs1, atI_nat (j := at') hv0, d0, commaN, dp_same h9 _ _ dv0, dp_same (none_same _) _ _ d_CONJUNCTION, nd_shaped nd0, nd_shaped comma_nd, _, rfl, ?_⟩
        generalize hU : ds.drop (at' + 1) = U at h2 h3 hT
        generalize hTT : d0 :: U = TT at h2
        cases h2 with
        | nil => cases hTT
        | comma f1 =>
          injection hTT with hd0 hU2
          rw [hd0, show PyData.eqv commaN commaN = true by decide +kernel]
          refine iteF (go _ _ ⟨at' + 1, m - 1 + arN d0, done, rest, ys, by rw [show ((at' + 1 : Nat) : Int) = (at' : Int) + 1 by omega]; rfl, hlt, h1, ?_, ?_, h4, h5, h6, h7, h8, h9, Nat.lt_succ_self _⟩)
          · rw [hU, hU2]; exact f1
          · rw [hU]; exact h3.2
        | @row rr rs U2 okr f1 =>
          obtain ⟨on, oc, ol, oh⟩ := okr
          cases rr with
          | nil => exact absurd oc (by show ¬ (1 = 0); decide)
          | cons d1 r1 =>
            rw [List.cons_append] at hTT
            injection hTT with hd0 hU2
            subst hd0
            rw [(oh d0 rfl).1]
            refine iteT ?_
            have hm0 := h3.1
            have h3' : Cls m (d0 :: r1 ++ U2) := by rw [List.cons_append, ← hU2]; exact h3
            have htk : tk 1 (ds.drop at') = (d0 :: r1).length := by
              rw [hT, hU2, ← List.cons_append]
              exact tk_app _ _ 1 oc
            have hend : at' + (d0 :: r1).length ≤ ds.length := by
              have := tk_le (ds.drop at') 1
              rw [htk, List.length_drop] at this
              omega
            have hcut : (ds.drop at').take (d0 :: r1).length = d0 :: r1 := by
              rw [hT, hU2, ← List.cons_append, List.take_left']
              rfl
            have hrest : ds.drop (at' + (d0 :: r1).length) = U2 := by
              rw [← List.drop_drop, hT, hU2, ← List.cons_append, List.drop_left']
              rfl
            refine seq_asg ?_
            refine ⟨_, rfl, _, rfl, .ref a, ds, at', m - 1, rfl, dp_same h9 _ _ hx, hn, ?_, ?_⟩
            · rw [hT, show m - 1 + 1 = m by omega]; exact h3
            rw [htk]
            refine gname ?_
            have sl : ∀ (H2 : Hp) (Q2 : VK), Same H H2 → (∀ v H3, Same H2 H3 → Dp K H3 v (.tuple (d0 :: r1)) → Q2 v H3) → rSlA K (.ref a) (some (at' : Int)) (some ((at' + (d0 :: r1).length : Nat) : Int)) H2 Q2 := fun H2 Q2 s2 hq => by
              refine slA_nat (same_sqT s2 hs) (by omega) (by omega) fun b1 H3 s3 t3 _ => ?_
              refine hq _ _ s3 (.tup t3 ?_)
              have := DpAll.taket (at' + (d0 :: r1).length - at') (DpAll.dropt at' (dp_sameAll (s2.trans s3) _ _ ha))
              rw [show at' + (d0 :: r1).length - at' = (d0 :: r1).length by omega, hcut] at this
              show DpAll K _ ((xs.drop at').take (at' + (d0 :: r1).length - at')) _
              rw [show at' + (d0 :: r1).length - at' = (d0 :: r1).length by omega]
              exact this
            have hrows : rows = (done ++ [d0 :: r1]) ++ rs := by rw [h1, List.append_assoc]; rfl
            have clsr : Cls (m - 1) (ds.drop (at' + (d0 :: r1).length)) := by
              rw [hrest]
              exact cls_rest _ _ m 1 oc h3' (by omega)
            have gm : goalsM (done ++ [d0 :: r1]) = goalsM done ++ (if isTr (d0 :: r1) = true then [] else [d0 :: r1]) := by
              unfold goalsM
              rw [List.filter_append]
              congr 1
              cases tr : isTr (d0 :: r1) with
              | true => simp [tr]
              | false => simp [tr]
            refine ⟨_, rfl, _, rfl, _, rfl, _, rfl, _, rfl, ?_⟩
            show rSlA K (.ref a) (some (at' : Int)) (some ((at' + (d0 :: r1).length : Nat) : Int)) H1 _
            refine sl _ _ h9 fun v2 H2 s2 d2 => ?_
            have s02 := h9.trans s2
            refine ⟨.tuple (d0 :: r1), .tuple [trueN], d2, dp_same (none_same _) _ _ d_TRUE, tup_shaped on, tup_shaped (ds := [trueN]) (fun d hd => by rw [List.mem_singleton.mp hd]; exact true_nd), _, rfl, ?_⟩
            cases tr : isTr (d0 :: r1) with
            | true =>
              rw [show PyData.eqv (.tuple (d0 :: r1)) (.tuple [trueN]) = true from tr]
              rw [tr, if_pos rfl, List.append_nil] at gm
              refine iteF (go _ _ ⟨at' + (d0 :: r1).length, m - 1, done ++ [d0 :: r1], rs, ys, rfl, hend, hrows, by rw [hrest]; exact f1, clsr, by rw [gm]; exact h4, s2 _ _ h5, by rw [gm]; exact dp_sameAll s2 _ _ h6, by rw [gm]; exact h7, by rw [List.length_append]; omega, s02, by rw [List.length_cons]; omega⟩)
            | false =>
              rw [show PyData.eqv (.tuple (d0 :: r1)) (.tuple [trueN]) = false from tr]
              rw [tr, if_neg Bool.false_ne_true] at gm
              refine iteT (seq_any ?_)
              refine ⟨_, rfl, _, rfl, _, rfl, _, rfl, _, rfl, ?_⟩
              show rSlA K (.ref a) (some (at' : Int)) (some ((at' + (d0 :: r1).length : Nat) : Int)) H2 _
              refine sl _ _ s02 fun v3 H3 s3 d3 => ?_
              have s03 := s02.trans s3
              refine ⟨v3, d0, r1, rfl, d3, on d0 List.mem_cons_self, fun hg H4 s4 => ?_, fun hg H4 s4 => q2 (rowsP (r := d0 :: r1) (by rw [h1]; exact List.mem_append_right _ List.mem_cons_self) tr hg) _ (s03.trans s4)⟩
              have s04 := s03.trans s4
              have s14 := (s2.trans s3).trans s4
              refine nxp ?_
              refine ⟨_, rfl, .inl ⟨rfl, _, SqL.of (s14 _ _ h5)⟩, _, rfl, _, rfl, _, rfl, _, rfl, _, rfl, ?_⟩
              show rSlA K (.ref a) (some (at' : Int)) (some ((at' + (d0 :: r1).length : Nat) : Int)) H4 _
              refine sl _ _ s04 fun v5 H5 s5 d5 => ?_
              have e5 := s5 _ _ (s14 _ _ h5)
              refine ⟨_, _, _, rfl, rfl, e5, small1000 (by omega), ?_⟩
              have nt : notTup H5 r := .inl ⟨_, e5⟩
              have noA : ∀ l : List (List PyData), (∀ q ∈ l, ∀ d ∈ q, NdA d) → noLA (l.map PyData.tuple) = true := fun l => by
                induction l with
                | nil => intro _; simp [noLA]
                | cons q l ih =>
                  intro h
                  rw [List.map_cons, noLA, tup_noL (h q List.mem_cons_self), ih fun x hx => h x (List.mem_cons_of_mem _ hx)]
                  rfl
              refine go _ _ ⟨at' + (d0 :: r1).length, m - 1, done ++ [d0 :: r1], rs, ys ++ [v5], rfl, hend, hrows, by rw [hrest]; exact f1, clsr, ?_, upd_same, ?_, ?_, by rw [List.length_append, List.length_append]; exact Nat.add_le_add_right h8 1, put (s04.trans s5), by rw [List.length_cons]; omega⟩
              · rw [gm, List.all_append, h4, Bool.true_and]
                show (isG d0 && true) = true
                rw [hg]; rfl
              · rw [gm, List.map_append]
                exact DpAll.app (dp_putAll nt _ _ (noA _ h7) (dp_sameAll (s14.trans s5) _ _ h6)) (.cons (dp_put nt _ _ (tup_noL on) d5) .nil)
              · rw [gm]
                intro q hq
                rcases List.mem_append.mp hq with z | z
                · exact h7 q z
                · rw [List.mem_singleton.mp z]; exact on
    · refine nxp ?_
      have hat : at' = ds.length := by
        have : ¬ (at' : Int) < (xs.length : Int) := fun z => e (decide_eq_true z)
        omega
      rw [hat, List.drop_length] at h2
      have hr : rest = [] := flat_nil h2 rfl
      subst hr
      rw [List.append_nil] at h1
      subst h1
      exact ⟨_, rfl, q1 h4 r ys H1 h9 nr h5 h6⟩

theorem ok__law_atom_of {f : Addr} {fd : FuncData} (F : Fun K "_law_atom_of" "_law_atom_of" s__law_atom_of f fd) (E : Bi K mg) (D__law_draw : Has P w K mg base 1 "_law_draw" ["stream", "many"] (sp__law_draw K)) (D__law_argument : Has P w K mg base 3 "_law_argument" ["stream", "widest"] (sp__law_argument K)) (D__law_leaf : Has P w K mg base 2 "_law_leaf" ["stream", "widest"] (sp__law_leaf K)) : FnOk P w K mg base CX0 4 f fd ["stream", "widest"] (sp__law_atom_of K) := by
  obtain ⟨f__law_draw, fd__law_draw, G__law_draw, g__law_draw, kp__law_draw, b__law_draw⟩ := D__law_draw
  obtain ⟨f__law_argument, fd__law_argument, G__law_argument, g__law_argument, kp__law_argument, b__law_argument⟩ := D__law_argument
  obtain ⟨f__law_leaf, fd__law_leaf, G__law_leaf, g__law_leaf, kp__law_leaf, b__law_leaf⟩ := D__law_leaf
  refine F.ok sc__law_atom_of (fun vs H Q E h => ?_) (fun cdv A outer s H vs Q E' hr h => ?_)
  · obtain ⟨s, l, wd, rfl, _⟩ := h
    rfl
  · obtain ⟨s, l, wd, rfl, hS, hw, hw2, q⟩ := h
    have n9 : (2 : Nat) ^ 8 ≤ 2 ^ 9000 := Nat.pow_le_pow_right (by decide) (by decide)
    refine ⟨_, (pss_cons (ps_set (i := 2) sc__law_atom_of.nd rfl (Or.inl rfl) (pe_call G__law_draw (hr.mono (by decide)) (by rfl) g__law_draw kp__law_draw b__law_draw .nil pass0 (pa_cons (pv 0) (pa_cons pe_int pa_nil))))
      (pss_cons (ps_if (pt_cmpR op_lt (pv 2) pe_int (nomark _)) (pss_one (ps_ret (pe_tup (pa_cons (pe_tup (pa_cons pe_str (pa_cons pe_str (pa_cons pe_int pa_nil)))) pa_nil)))) pss_nil)
      (pss_cons (ps_if (pt_cmpR op_lt (pv 2) pe_int (nomark _)) (pss_one (ps_ret (pe_op op_catA (pe_tup (pa_cons (pe_tup (pa_cons pe_str (pa_cons (pe_ix ix_list (pe_lst (pa_cons pe_str (pa_cons pe_str (pa_cons pe_str pa_nil)))) (pe_call G__law_draw (hr.mono (by decide)) (by rfl) g__law_draw kp__law_draw b__law_draw .nil pass0 (pa_cons (pv 0) (pa_cons pe_int pa_nil))) (fun _ _ => rfl)) (pa_cons pe_int pa_nil)))) pa_nil)) (pe_call G__law_argument (hr.mono (by decide)) (by rfl) g__law_argument kp__law_argument b__law_argument .nil pass0 (pa_cons (pv 0) (pa_cons (pv 1) pa_nil)))))) pss_nil)
      (pss_cons (ps_if (pt_cmpR op_eq (pv 2) pe_int (nomark _)) (pss_cons (ps_set (i := 3) sc__law_atom_of.nd rfl (Or.inl rfl) (pe_op op_catA (pe_op op_catA (pe_tup (pa_cons (pe_tup (pa_cons pe_str (pa_cons pe_str (pa_cons pe_int pa_nil)))) pa_nil)) (pe_call G__law_leaf (hr.mono (by decide)) (by rfl) g__law_leaf kp__law_leaf b__law_leaf .nil pass0 (pa_cons (pv 0) (pa_cons (pv 1) pa_nil)))) (pe_call G__law_leaf (hr.mono (by decide)) (by rfl) g__law_leaf kp__law_leaf b__law_leaf .nil pass0 (pa_cons (pv 0) (pa_cons (pv 1) pa_nil)))))
      (pss_one (ps_ret (pe_op op_catA (pe_op op_catA (pv 3) (pe_call G__law_leaf (hr.mono (by decide)) (by rfl) g__law_leaf kp__law_leaf b__law_leaf .nil pass0 (pa_cons (pv 0) (pa_cons (pv 1) pa_nil)))) (pe_call G__law_leaf (hr.mono (by decide)) (by rfl) g__law_leaf kp__law_leaf b__law_leaf .nil pass0 (pa_cons (pv 0) (pa_cons (pv 1) pa_nil))))))) pss_nil)
      (pss_one (ps_ret (pe_op op_catA (pe_op op_catA (pe_tup (pa_cons (pe_tup (pa_cons pe_str (pa_cons pe_str (pa_cons pe_int pa_nil)))) pa_nil)) (pe_call G__law_argument (hr.mono (by decide)) (by rfl) g__law_argument kp__law_argument b__law_argument .nil pass0 (pa_cons (pv 0) (pa_cons (pv 1) pa_nil)))) (pe_call G__law_argument (hr.mono (by decide)) (by rfl) g__law_argument kp__law_argument b__law_argument .nil pass0 (pa_cons (pv 0) (pa_cons (pv 1) pa_nil)))))))))), ?_⟩
    refine seq_asg ?_
    refine ⟨_, rfl, s, l, 12, rfl, hS, by decide, Nat.lt_of_lt_of_le (by decide) n9, fun pick H1 _ _ b1 S1 => ?_⟩
    refine gname (seq_ifN ?_)
    refine ⟨_, rfl, _, _, rfl, rfl, _, rfl, ite2 (fun e => ?_) (fun e => ?_)⟩
    · refine lit_tup (K := K) (ds := [nodeF "r" 0]) ?_ (by decide) H1 _ fun v0 H2 t0 i0 => ?_
      · unfold nodeF
        walk_at "lits"
      exact q _ _ _ (okr_of (x := "r") (n := 0) (ds := []) (by decide +kernel) (fun d hd => nomatch hd) rfl (by decide)) (b1.trans (But.of t0)) (S1.keep t0) (frs_of b1 S1 i0)
    · refine seq_ifN ?_
      refine ⟨_, rfl, _, _, rfl, rfl, _, rfl, ite2 (fun e2 => ?_) (fun e2 => ?_)⟩
      · refine op_of (tup_of (args1 (tup_of (args1 (const_of (args1 (op_of ?_)))))))
        refine lit_lst (K := K) (ds := ppp.map PyData.str) ?_ (by decide) H1 _ fun v0 H0 t0 i0 => ?_
        · unfold ppp
          simp only [List.map_cons, List.map_nil]
          walk_at "lits"
        cases i0 with
        | @lst p0 xs0 _ g0 e0 a0 =>
        obtain ⟨os1, hos1⟩ := S1.at_s
        have np0 : p0 ≠ s := fun z => by
          rw [z, hos1] at g0
          cases g0
        refine ⟨_, rfl, s, l, 3, rfl, S1.keep t0, by decide, Nat.lt_of_lt_of_le (by decide) n9, fun r H2 r0 r1 b2 S2 => ?_⟩
        obtain ⟨y, hy, hat⟩ := lit_pick a0 r0 r1
        refine ⟨_, _, _, _, rfl, rfl, SqL.of (b2 _ _ np0 e0), hat, ?_⟩
        refine ⟨(by show 3 ≤ sizeLine; decide), fun p np => ⟨(by show 1 ≤ sizeLine; decide), fun p2 np2 => ?_⟩⟩
        have sp := same_upd (o := .tup [.str "f", .str y, .int 1]) np
        have sp2 := same_upd (o := .tup [.ref p]) np2
        have bb := (b1.trans (But.of t0)).trans b2
        have bb3 := bb.trans (But.of (sp.trans sp2))
        have S3 := S2.keep (sp.trans sp2)
        have i3 : Im K (fun b => H b = Option.none) (upd (upd H2 p (.tup [.str "f", .str y, .int 1])) p2 (.tup [.ref p])) (.ref p2) (.tuple [nodeF y 1]) := .tup (fr_of (bb.trans (But.of sp)) (S2.keep sp) _ np2) upd_same (.cons (.tup (fr_of bb S2 _ np) (sp2 _ _ upd_same) (.cons (.str _) (.cons (.str _) (.cons (.int _) .nil)))) .nil)
        refine ⟨_, rfl, _, rfl, s, l, wd, rfl, S3, hw, hw2, fun v4 ds4 H4 n4 c4 l4 b4 S4 i4 => ?_⟩
        have b04 := bb3.trans b4
        refine frs_cat b04 S4 (frs_keep hS b4 i3) (frs_of bb3 S3 i4) (by rw [List.length_singleton]; omega) fun v5 H5 s5 i5 => ?_
        have hyo : okP (y, 1) = true := List.all_eq_true.mp (show ppp.all (fun y => okP (y, 1)) = true by decide +kernel) y hy
        exact q _ _ _ (okr_of hyo n4 c4 (by omega)) (b04.trans (But.of s5)) (S4.keep s5) i5
      · refine seq_ifN ?_
        refine ⟨_, rfl, rfl, _, rfl, ite2 (fun e3 => ?_) (fun e3 => ?_)⟩
        · refine seq_asg ?_
          refine op_of ?_
          refine op_of ?_
          refine lit_tup (K := K) (ds := [nodeF "q_p" 4]) ?_ (by decide) H1 _ fun v0 H2 t0 i0 => ?_
          · unfold nodeF
            walk_at "lits"
          have S2 := S1.keep t0
          have b2 := b1.trans (But.of t0)
          refine ⟨_, rfl, _, rfl, s, l, wd, rfl, S2, hw, hw2, fun v1 d1 H3 n1 a1 b3 S3 i1 => ?_⟩
          have b03 := b2.trans b3
          refine frs_cat b03 S3 (frs_keep hS b3 (frs_of b1 S1 i0)) (frs_of b2 S2 i1) (Nat.le_of_ble_eq_true rfl) fun v4 H4 s4 i4 => ?_
          have b04 := b03.trans (But.of s4)
          have S4 := S3.keep s4
          refine ⟨_, rfl, _, rfl, s, l, wd, rfl, S4, hw, hw2, fun v5 d5 H5 n5 a5 b5 S5 i5 => ?_⟩
          have b05 := b04.trans b5
          refine frs_cat b05 S5 (frs_keep hS b5 i4) (frs_of b04 S4 i5) (Nat.le_of_ble_eq_true rfl) fun v6 H6 s6 i6 => ?_
          have b06 := b05.trans (But.of s6)
          have S6 := S5.keep s6
          refine gname ?_
          refine ⟨_, rfl, _, rfl, _, rfl, s, l, wd, rfl, S6, hw, hw2, fun v7 d7 H7 n7 a7 b7 S7 i7 => ?_⟩
          have b07 := b06.trans b7
          refine frs_cat b07 S7 (frs_keep hS b7 i6) (frs_of b06 S6 i7) (Nat.le_of_ble_eq_true rfl) fun v8 H8 s8 i8 => ?_
          have b08 := b07.trans (But.of s8)
          have S8 := S7.keep s8
          refine ⟨_, rfl, _, rfl, s, l, wd, rfl, S8, hw, hw2, fun v9 d9 H9 n9' a9 b9 S9 i9 => ?_⟩
          have b09 := b08.trans b9
          refine frs_cat b09 S9 (frs_keep hS b9 i8) (frs_of b08 S8 i9) (Nat.le_of_ble_eq_true rfl) fun v10 H10 s10 i10 => ?_
          refine q _ _ _ (okr_of (x := "q_p") (n := 4) (ds := [d1, d5, d7, d9]) (by decide +kernel) (fun d hd => ?_) ⟨by decide, by rw [a1]; exact ⟨by decide, by rw [a5]; exact ⟨by decide, by rw [a7]; exact ⟨by decide, by rw [a9]; rfl⟩⟩⟩⟩ (Nat.le_of_ble_eq_true rfl)) (b09.trans (But.of s10)) (S9.keep s10) i10
          simp only [List.mem_cons, List.not_mem_nil, or_false] at hd
          rcases hd with z | z | z | z <;> subst z <;> assumption
        · refine op_of ?_
          refine op_of ?_
          refine lit_tup (K := K) (ds := [nodeF "q" 2]) ?_ (by decide) H1 _ fun v0 H2 t0 i0 => ?_
          · unfold nodeF
            walk_at "lits"
          have S2 := S1.keep t0
          have b2 := b1.trans (But.of t0)
          refine ⟨_, rfl, _, rfl, s, l, wd, rfl, S2, hw, hw2, fun v1 d1 H3 n1 c1 l1 b3 S3 i1 => ?_⟩
          have b03 := b2.trans b3
          refine frs_cat b03 S3 (frs_keep hS b3 (frs_of b1 S1 i0)) (frs_of b2 S2 i1) (by rw [List.length_singleton]; omega) fun v4 H4 s4 i4 => ?_
          have b04 := b03.trans (But.of s4)
          have S4 := S3.keep s4
          refine ⟨_, rfl, _, rfl, s, l, wd, rfl, S4, hw, hw2, fun v5 d5 H5 n5 c5 l5 b5 S5 i5 => ?_⟩
          have b05 := b04.trans b5
          refine frs_cat b05 S5 (frs_keep hS b5 i4) (frs_of b04 S4 i5) (by rw [List.length_append, List.length_singleton]; omega) fun v6 H6 s6 i6 => ?_
          refine q _ (nodeF "q" 2 :: (d1 ++ d5)) _ (okr_of (by decide +kernel) (fun d hd => ?_) (cls_app _ _ 1 1 c1 c5) (by rw [List.length_append]; omega)) (b05.trans (But.of s6)) (S5.keep s6) i6
          rcases List.mem_append.mp hd with z | z
          · exact n1 d z
          · exact n5 d z

theorem ok_head_and_goals {f : Addr} {fd : FuncData} (F : Fun K "head_and_goals" "head_and_goals" s_head_and_goals f fd) (E : Bi K mg) (D_split_clause : Has P w K mg base 4 "split_clause" ["clause"] (sp_split_clause K)) (D_check_goal : HasX P w K mg base 2 "check_goal" ["term"] (sp_check_goal K)) (D_goals_of : HasX P w K mg base 4 "goals_of" ["body"] (sp_goals_of K)) : FnOk P w K mg base (L2.CX P w) 5 f fd ["clause"] (sp_head_and_goals K) := by
  obtain ⟨f_split_clause, fd_split_clause, G_split_clause, g_split_clause, kp_split_clause, b_split_clause⟩ := D_split_clause
  obtain ⟨f_check_goal, fd_check_goal, G_check_goal, g_check_goal, kp_check_goal, b_check_goal⟩ := D_check_goal
  obtain ⟨f_goals_of, fd_goals_of, G_goals_of, g_goals_of, kp_goals_of, b_goals_of⟩ := D_goals_of
  refine F.okX sc_head_and_goals (fun vs H Q E h => ?_) (fun cdv A outer s H vs Q E' hr h => ?_)
  · obtain ⟨x, d, r, rows, m, rfl, _⟩ := h
    rfl
  · obtain ⟨x, d, r, rows, m, rfl, hx, hn, hc, hl, h1, hf, hm, hrl, q1, q2⟩ := h
    refine ⟨_, (pss_cons (ps_if (pt_cmpR op_gt (pe_callB call_len_seq (by rfl) E.b_len PySem.boot_len (pa_cons (pv 0) pa_nil)) (pe_gC (by rfl) E.c_MOST_CLAUSE_NODES) (nomark _)) (pss_one (ps_raise rfl (takes_of rfl rfl rfl rfl) (pmk_own PySem.F.excBase_ValueError E.x_NotDefinite.xC E.x_NotDefinite.gC E.x_NotDefinite.kC (raises_own E.x_NotDefinite.bC E.x_NotDefinite.tC) rfl))) pss_nil)
      (pss_cons (ps_asg (pe_call G_split_clause (hr.mono (by decide)) (by rfl) g_split_clause kp_split_clause b_split_clause .nil pass0 (pa_cons (pv 0) pa_nil)) (pg_tup rfl (pgs_cons (pg_name (i := 1) sc_head_and_goals.nd rfl (Or.inl rfl)) (pgs_cons (pg_name (i := 2) sc_head_and_goals.nd rfl (Or.inl rfl)) pgs_nil))))
      (pss_cons (ps_expr (pe_callS G_check_goal (hr.mono (by decide)) (by rfl) g_check_goal kp_check_goal b_check_goal (fun σ => passAt (takes_of rfl rfl rfl rfl) σ) (pa_cons (pv 1) pa_nil)))
      (pss_one (ps_ret (pe_tup (pa_cons (pv 1) (pa_cons (pe_callS G_goals_of (hr.mono (by decide)) (by rfl) g_goals_of kp_goals_of b_goals_of (fun σ => passAt (takes_of rfl rfl rfl rfl) σ) (pa_cons (pv 2) pa_nil)) pa_nil)))))))), ?_⟩
    cases id hx with
    | @tup a xs _ hs ha =>
    have hxl := DpAll.len ha
    rw [List.length_cons] at hxl
    refine seq_ifN ?_
    refine ⟨_, rfl, _, _, rfl, .inr hs, _, _, rfl, rfl, _, rfl, ite2 (fun e => ?_) (fun _ => ?_)⟩
    · have := of_decide_eq_true e
      omega
    · refine seq_asg ?_
      refine ⟨_, rfl, .ref a, d, r, rfl, hx, hn, hc, by omega, fun v H1 s1 d1 => ?_⟩
      obtain ⟨n1, n2, n3⟩ := split_facts hn
      generalize splitM (d :: r) = S at h1 hf hm q1 q2 d1 n1 n2 n3
      obtain ⟨hd, bd⟩ := S
      cases hd with
      | nil => exact absurd rfl h1
      | cons d0 hd =>
      cases d1 with
      | @tup c zs _ hz az =>
      cases az with
      | @cons hv _ _ _ e1 az =>
      cases az with
      | @cons bv _ _ _ e2 az =>
      cases az
      refine ⟨c, _, rfl, hz, rfl, _, _, rfl, gname ⟨_, [], rfl, gname ⟨rfl, ?_⟩⟩⟩
      refine seq_any ?_
      refine ⟨_, rfl, hv, d0, hd, rfl, e1, n1 d0 List.mem_cons_self, fun hg H2 s2 => ?_, fun hg H2 s2 => q2 (by show (isG d0 && _) = false; rw [hg]; rfl) _ (s1.trans s2)⟩
      refine nxp ?_
      refine ⟨_, rfl, _, rfl, bv, bd, rows, m, rfl, dp_same s2 _ _ e2, n2, hf, hm, by show bd.length ≤ 200; have n3 : bd.length ≤ r.length + 1 := n3; omega, hrl, fun hgood g ys H3 s3 ng eg Y => ?_, fun hbad H3 s3 => q2 (by rw [hbad, Bool.and_false]) _ ((s1.trans s2).trans s3)⟩
      refine ⟨(by show 2 ≤ sizeLine; decide), fun p np => ?_⟩
      have sp := same_upd (o := .tup [hv, .ref g]) np
      have hgs : (isGr (d0 :: hd) && goodM rows) = true := by show (isG d0 && _) = true; rw [hg, hgood]; rfl
      exact q1 hgs p hv g ys _ (((s1.trans s2).trans s3).trans sp) ((s1.trans s2).free ng) upd_same (dp_same ((s2.trans s3).trans sp) _ _ e1) (sp _ _ eg) (dp_sameAll sp _ _ Y) (fun z => by rw [z, eg] at np; cases np)

theorem ok__law_part {f : Addr} {fd : FuncData} (F : Fun K "_law_part" "_law_part" s__law_part f fd) (E : Bi K mg) (D__law_draw : Has P w K mg base 1 "_law_draw" ["stream", "many"] (sp__law_draw K)) (D__law_odd : Has P w K mg base 2 "_law_odd" ["stream"] (sp__law_odd K)) (D__law_atom_of : Has P w K mg base 4 "_law_atom_of" ["stream", "widest"] (sp__law_atom_of K)) : FnOk P w K mg base CX0 5 f fd ["stream", "odd"] (sp__law_part K) := by
  obtain ⟨f__law_draw, fd__law_draw, G__law_draw, g__law_draw, kp__law_draw, b__law_draw⟩ := D__law_draw
  obtain ⟨f__law_odd, fd__law_odd, G__law_odd, g__law_odd, kp__law_odd, b__law_odd⟩ := D__law_odd
  obtain ⟨f__law_atom_of, fd__law_atom_of, G__law_atom_of, g__law_atom_of, kp__law_atom_of, b__law_atom_of⟩ := D__law_atom_of
  refine F.ok sc__law_part (fun vs H Q E h => ?_) (fun cdv A outer s H vs Q E' hr h => ?_)
  · obtain ⟨s, l, o, rfl, _⟩ := h
    rfl
  · obtain ⟨s, l, o, rfl, hS, q⟩ := h
    have n9 : (2 : Nat) ^ 8 ≤ 2 ^ 9000 := Nat.pow_le_pow_right (by decide) (by decide)
    refine ⟨_, (pss_cons (ps_if (pw_and (pt_val (pv 1)) (pw_and1 (pt_cmpR op_eq (pe_call G__law_draw (hr.mono (by decide)) (by rfl) g__law_draw kp__law_draw b__law_draw .nil pass0 (pa_cons (pv 0) (pa_cons pe_int pa_nil))) pe_int (nomark _)))).pt (pss_one (ps_ret (pe_call G__law_odd (hr.mono (by decide)) (by rfl) g__law_odd kp__law_odd b__law_odd .nil pass0 (pa_cons (pv 0) pa_nil)))) pss_nil)
      (pss_cons (ps_if (pt_cmpR op_eq (pe_call G__law_draw (hr.mono (by decide)) (by rfl) g__law_draw kp__law_draw b__law_draw .nil pass0 (pa_cons (pv 0) (pa_cons pe_int pa_nil))) pe_int (nomark _)) (pss_one (ps_ret (pe_tup (pa_cons (pe_tup (pa_cons pe_str (pa_cons pe_str (pa_cons pe_int pa_nil)))) pa_nil)))) pss_nil)
      (pss_one (ps_ret (pe_call G__law_atom_of (hr.mono (by decide)) (by rfl) g__law_atom_of kp__law_atom_of b__law_atom_of .nil pass0 (pa_cons (pv 0) (pa_cons pe_int pa_nil))))))), ?_⟩
    refine seq_via (fun σ' H' => σ' = [some (.ref s), some (.bl o)] ∧ But s H H' ∧ Stm H' s l) ?_ (fun go => ?_)
    · rintro σ' H1 ⟨rfl, b1, S1⟩
      refine seq_ifN ?_
      refine ⟨_, rfl, s, l, 5, rfl, S1, by decide, Nat.lt_of_lt_of_le (by decide) n9, fun r H2 _ _ b2 S2 => ⟨rfl, _, rfl, ite2 (fun e => ?_) (fun e => ?_)⟩⟩
      · refine lit_tup (K := K) (ds := [trueN]) ?_ (by decide) H2 _ fun v0 H3 t0 i0 => ?_
        · unfold trueN nodeF
          walk_at "lits"
        exact q _ _ _ true_row ((b1.trans b2).trans (But.of t0)) (S2.keep t0) (frs_of (b1.trans b2) S2 i0)
      · refine ⟨_, rfl, s, l, 3, rfl, S2, by decide, by decide, fun v ds H3 ok b3 S3 i3 => ?_⟩
        exact q _ _ _ ok ((b1.trans b2).trans b3) S3 (frs_of (b1.trans b2) S2 i3)
    · refine ⟨_, rfl, _, rfl, ?_⟩
      cases o with
      | false => exact iteF (iteF (go _ _ ⟨rfl, But.refl _ _, hS⟩))
      | true =>
        refine iteT ?_
        refine ⟨_, rfl, s, l, 4, rfl, hS, by decide, Nat.lt_of_lt_of_le (by decide) n9, fun r H2 _ _ b2 S2 => ⟨rfl, _, rfl, ite2 (fun e => ?_) (fun e => ?_)⟩⟩
        · refine ⟨_, rfl, s, l, rfl, S2, fun v ds H3 ok b3 S3 i3 => ?_⟩
          exact q _ _ _ ok (b2.trans b3) S3 (frs_of b2 S2 i3)
        · exact go _ _ ⟨rfl, b2, S2⟩

theorem ok_law {f : Addr} {fd : FuncData} (F : Fun K "law" "law" s_law f fd) (E : Bi K mg) (D__law_stream : Has P w K mg base 1 "_law_stream" ["script"] (sp__law_stream K)) (D__law_draw : Has P w K mg base 1 "_law_draw" ["stream", "many"] (sp__law_draw K)) (D__law_atom_of : Has P w K mg base 4 "_law_atom_of" ["stream", "widest"] (sp__law_atom_of K)) (D__law_odd : Has P w K mg base 2 "_law_odd" ["stream"] (sp__law_odd K)) (D__law_part : Has P w K mg base 5 "_law_part" ["stream", "odd"] (sp__law_part K)) (D__law_nested : Has P w K mg base 2 "_law_nested" ["stream", "rows"] (sp__law_nested K)) (D__law_goal : Has P w K mg base 1 "_law_goal" ["term"] (sp__law_goal K)) (D_head_and_goals : HasX P w K mg base 5 "head_and_goals" ["clause"] (sp_head_and_goals K)) : FnOk P w K mg base CX0 6 f fd ["script"] (sp_law K) := by
  obtain ⟨f__law_stream, fd__law_stream, G__law_stream, g__law_stream, kp__law_stream, b__law_stream⟩ := D__law_stream
  obtain ⟨f__law_draw, fd__law_draw, G__law_draw, g__law_draw, kp__law_draw, b__law_draw⟩ := D__law_draw
  obtain ⟨f__law_atom_of, fd__law_atom_of, G__law_atom_of, g__law_atom_of, kp__law_atom_of, b__law_atom_of⟩ := D__law_atom_of
  obtain ⟨f__law_odd, fd__law_odd, G__law_odd, g__law_odd, kp__law_odd, b__law_odd⟩ := D__law_odd
  obtain ⟨f__law_part, fd__law_part, G__law_part, g__law_part, kp__law_part, b__law_part⟩ := D__law_part
  obtain ⟨f__law_nested, fd__law_nested, G__law_nested, g__law_nested, kp__law_nested, b__law_nested⟩ := D__law_nested
  obtain ⟨f__law_goal, fd__law_goal, G__law_goal, g__law_goal, kp__law_goal, b__law_goal⟩ := D__law_goal
  obtain ⟨f_head_and_goals, fd_head_and_goals, G_head_and_goals, g_head_and_goals, kp_head_and_goals, b_head_and_goals⟩ := D_head_and_goals
  refine F.ok sc_law (fun vs H Q E h => ?_) (fun cdv A outer s H vs Q E' hr h => ?_)
  · obtain ⟨a, ns, rfl, _⟩ := h
    rfl
  · obtain ⟨a, ns, rfl, hS, hl, q⟩ := h
    have n9 : (2 : Nat) ^ 8 ≤ 2 ^ 9000 := Nat.pow_le_pow_right (by decide) (by decide)
    refine ⟨_, (pss_cons (ps_set (i := 1) sc_law.nd rfl (Or.inr rfl) (pe_call G__law_stream (hr.mono (by decide)) (by rfl) g__law_stream kp__law_stream b__law_stream .nil pass0 (pa_cons (pv 0) pa_nil)))
      (pss_cons (ps_set (i := 2) sc_law.nd rfl (Or.inr rfl) (pe_cmpR op_eq (pe_call G__law_draw (hr.mono (by decide)) (by rfl) g__law_draw kp__law_draw b__law_draw .nil pass0 (pa_cons (pv 1) (pa_cons pe_int pa_nil))) pe_int (nomark _)))
      (pss_cons (ps_set (i := 3) sc_law.nd rfl (Or.inl rfl) (pe_call G__law_atom_of (hr.mono (by decide)) (by rfl) g__law_atom_of kp__law_atom_of b__law_atom_of .nil pass0 (pa_cons (pv 1) (pa_cons pe_int pa_nil))))
      (pss_cons (ps_if (pw_and (pt_val (pv 2)) (pw_and1 (pt_cmpR op_eq (pe_call G__law_draw (hr.mono (by decide)) (by rfl) g__law_draw kp__law_draw b__law_draw .nil pass0 (pa_cons (pv 1) (pa_cons pe_int pa_nil))) pe_int (nomark _)))).pt (pss_one (ps_set (i := 3) sc_law.nd rfl (Or.inl rfl) (pe_call G__law_odd (hr.mono (by decide)) (by rfl) g__law_odd kp__law_odd b__law_odd .nil pass0 (pa_cons (pv 1) pa_nil)))) pss_nil)
      (pss_cons (ps_setLc (i := 4) (own := [("k", 5)]) (g := gName 5) (tt := tYes) rfl sc_law.nd rfl rfl (by rfl) (pi_range1 (by rfl) E.b_range (pa_cons (pe_call G__law_draw (hr.mono (by decide)) (by rfl) g__law_draw kp__law_draw b__law_draw .nil pass0 (pa_cons (pv 1) (pa_cons pe_int pa_nil))) pa_nil)) (blkOk_by (N := N_law) (sc := defScope s_law) (by decide +kernel)) (fun _ _ _ _ _ => pg_name (i := 5) sc_law.nd rfl (Or.inl rfl)) (fun _ _ _ _ _ => pts_nil) (fun _ _ _ _ _ => (pe_call G__law_part (hr.mono (by decide)) (by rfl) g__law_part kp__law_part b__law_part .nil pass0 (pa_cons (pv 1) (pa_cons (pv 2) pa_nil)))))
      (pss_cons (ps_set (i := 6) sc_law.nd rfl (Or.inl rfl) (pv 3))
      (pss_cons (ps_if (pt_cmpR op_gt (pe_callB call_len_seq (by rfl) E.b_len PySem.boot_len (pa_cons (pv 4) pa_nil)) pe_int (nomark _)) (pss_one (ps_set (i := 6) sc_law.nd rfl (Or.inl rfl) (pe_op op_catA (pe_op op_catA (pe_tup (pa_cons (pe_tup (pa_cons pe_str (pa_cons pe_str (pa_cons pe_int pa_nil)))) pa_nil)) (pv 3)) (pe_call G__law_nested (hr.mono (by decide)) (by rfl) g__law_nested kp__law_nested b__law_nested .nil pass0 (pa_cons (pv 1) (pa_cons (pv 4) pa_nil)))))) pss_nil)
      (pss_cons (ps_setLc (i := 7) (own := [("row", 8)]) (g := gName 8) rfl sc_law.nd rfl rfl (by rfl) (pi_list (pv 4)) (blkOk_by (N := N_law) (sc := defScope s_law) (by decide +kernel)) (fun _ _ _ _ _ => pg_name (i := 8) sc_law.nd rfl (Or.inl rfl)) (fun _ _ _ _ _ => pts_one (pt_cmpR (show OpR _ (compareOp .NotEq) (rNeD K) from op_neD hr.units) (pv 8) (pe_tup (pa_cons (pe_tup (pa_cons pe_str (pa_cons pe_str (pa_cons pe_int pa_nil)))) pa_nil)) (nomark _))) (fun _ _ _ _ _ => (pv 8)))
      (pss_cons (ps_set (i := 9) sc_law.nd rfl (Or.inl rfl) (pe_and (pe_call G__law_goal (hr.mono (by decide)) (by rfl) g__law_goal kp__law_goal b__law_goal .nil pass0 (pa_cons (pv 3) pa_nil)) (pe_one (pe_cmpR op_eq (pe_callB call_len_seq (by rfl) E.b_len PySem.boot_len (pa_cons (pe_lc (own := [("row", 8)]) (g := gName 8) rfl sc_law.nd (pi_list (pv 7)) (blkOk_by (N := N_law) (sc := defScope s_law) (by decide +kernel)) (fun _ _ _ _ _ => pg_name (i := 8) sc_law.nd rfl (Or.inl rfl)) (fun _ _ _ _ _ => pts_one (pt_not (pt_val (pe_call G__law_goal (hr.mono (by decide)) (by rfl) g__law_goal kp__law_goal b__law_goal .nil pass0 (pa_cons (pv 8) pa_nil))))) (fun _ _ _ _ _ => (pv 8))) pa_nil)) pe_int (nomark _)))))
      (pss_cons (ps_for PassesOwn.never rfl (pi_range1 (by rfl) E.b_range (pa_cons pe_int pa_nil)) (pg_name (i := 10) sc_law.nd rfl (Or.inl rfl)) (pss_cons (ps_try_as (i := 12) rfl rfl sc_law.nd rfl rfl ⟨rfl, by decide, .inl E.x_HornbookError.gC⟩ takes0 (fun W pn xe tk po => (pss_one (ps_set (i := 11) sc_law.nd rfl (Or.inl rfl) (pe_callS G_head_and_goals (hr.mono (by decide)) (by rfl) g_head_and_goals kp_head_and_goals b_head_and_goals (fun σ => passAt tk σ) (pa_cons (pv 6) pa_nil))))) (fun ea oe ecls ed pn hz hf => (pss_under (P := ecls = .ref (clsA K "NotDefinite") ∧ ed = Option.none) fun hP => by obtain ⟨hP1, hP2⟩ := hP; subst hP1 hP2; exact (pss_cons (ps_if (pw_or (pt_val (pv 9)) (pw_or (pt_not (pt_val (pe_callB (call_isE E.k_NotDefinite hz hf) (by rfl) E.b_isinstance (by decide +kernel) (pa_cons (pv 12) (pa_cons (pe_gC (by rfl) ⟨_, E.x_NotDefinite.gC, relRef _⟩) pa_nil))))) (pw_or1 (pt_val (pe_callB (call_isE E.k_NotDefinite hz hf) (by rfl) E.b_isinstance (by decide +kernel) (pa_cons (pv 12) (pa_cons (pe_gC (by rfl) ⟨_, E.x_TooLarge.gC, relRef _⟩) pa_nil))))))).pt (pss_one (ps_ret pe_bl)) pss_nil)
      (pss_one (ps_set (i := 11) sc_law.nd rfl (Or.inl rfl) pe_non))))))
      (pss_one (ps_if (pt_cmpR op_notN (pv 11) pe_non (nomark _)) (pss_cons (ps_if (pw_or (pt_not (pt_val (pv 9))) (pw_or (pt_not (pt_val (pe_callB call_isi (by rfl) E.b_isinstance (by decide +kernel) (pa_cons (pv 11) (pa_cons (pe_ty "tuple" (by rfl) E.b_tuple (by decide +kernel)) pa_nil))))) (pw_or (pt_cmpR op_ne (pe_callB call_len_seq (by rfl) E.b_len PySem.boot_len (pa_cons (pv 11) pa_nil)) pe_int (nomark _)) (pw_or1 (pt_not (pt_val (pe_callB call_isi (by rfl) E.b_isinstance (by decide +kernel) (pa_cons (pe_ix ix_tup (pv 11) pe_int (fun _ _ => rfl)) (pa_cons (pe_ty "list" (by rfl) E.b_list (by decide +kernel)) pa_nil))))))))).pt (pss_one (ps_ret pe_bl)) pss_nil)
      (pss_cons (ps_if (pw_or (pt_cmpR (op_neD hr.units) (pe_ix ix_tup (pv 11) pe_int (fun _ _ => rfl)) (pv 3) (nomark _)) (pw_or1 (pt_cmpR (op_neD hr.units) (pe_ix ix_tup (pv 11) pe_int (fun _ _ => rfl)) (pv 7) (nomark _)))).pt (pss_one (ps_ret pe_bl)) pss_nil)
      (pss_one (ps_expr (pe_bm PySem.F.plainAttrs_list PySem.F.slot_list_append PySem.F.type_list_append mt_append (pe_ix ix_tup (pv 11) pe_int (fun _ _ => rfl)) (pa_cons (pv 3) pa_nil)))))) pss_nil))))
      (pss_one (ps_ret pe_bl)))))))))))), ?_⟩
    refine seq_asg ?_
    refine ⟨_, rfl, a, ns, rfl, hS, hl, fun s l H1 hs hl1 s1 S1 => ?_⟩
    refine gname (seq_asg ?_)
    refine ⟨_, rfl, s, l, 2, rfl, S1, by decide, Nat.lt_of_lt_of_le (by decide) n9, fun ro H2 _ _ b2 S2 => ⟨rfl, ?_⟩⟩
    generalize decide (V.int ro = V.int 0) = odd
    refine gname (seq_asg ?_)
    refine ⟨_, rfl, s, l, 3, rfl, S2, by decide, by decide, fun hv hds H3 hok b3 S3 hi => ?_⟩
    refine gname (seq_via (fun σ' H' => ∃ (hv : V) (hds : List PyData), σ' = [some (.ref a), some (.ref s), some (.bl odd), some hv, none, none, none, none, none, none, none, none, none] ∧ OkR hds ∧ Stm H' s l ∧ Im K (fun b => b ≠ s) H' hv (.tuple hds)) ?_ (fun go => ?_))
    · clear hi hok b3 S3
      rintro σ' H4 ⟨hv, hds, rfl, hok, S4, hi⟩
      refine seq_asg ?_
      refine ⟨_, rfl, s, l, 6, rfl, S4, by decide, Nat.lt_of_lt_of_le (by decide) n9, fun n H5 n0 n6 b5 S5 => ?_⟩
      refine ⟨_, rfl, by omega, by omega, fun D hD => ?_⟩
      have hi5 := far_keep b5 hi
      obtain ⟨os5, hos5⟩ := S5.at_s
      obtain ⟨ol5, hol5⟩ := S5.at_l
      have sD : s ≠ D := ne_of_none hos5 hD
      have lD : l ≠ D := ne_of_none hol5 hD
      have hiD : Im K (fun b => b ≠ s ∧ b ≠ D) H5 hv (.tuple hds) := Im.mono2 (fun _ _ _ e => e) (fun b o e g => ⟨g, fun z => by rw [z, hD] at e; cases e⟩) _ _ hi5
      refine lc_range (fun i H' => ∃ (xs : List V) (rs : List (List PyData)), H' D = some (.lst xs) ∧ ImAll K (fun b => b ≠ s ∧ b ≠ D) H' xs (rs.map PyData.tuple) ∧ (∀ r ∈ rs, OkR r) ∧ xs.length = i ∧ rs.length = i ∧ Stm H' s l ∧ Im K (fun b => b ≠ s ∧ b ≠ D) H' hv (.tuple hds))
        ⟨[], [], upd_same, .nil, (fun q hq => nomatch hq), rfl, rfl, S5.put sD lD, Im.mono (fun b o g e => by rw [upd_ne g.2]; exact e) (fun _ g => g) _ _ hiD⟩ ?_ ?_
      · rintro i H6 hi6 ⟨xs, rs, h1, h2, h3, h4, h4', h5, h6⟩
        refine ⟨rfl, _, rfl, _, rfl, s, l, odd, rfl, h5, fun v ds H7 ok b7 S7 iv => ?_⟩
        have e7 : H7 D = some (.lst xs) := b7 _ _ sD.symm h1
        have k7 : ∀ b o, (b ≠ s ∧ b ≠ D) → H7 b = some o → (upd H7 D (.lst (xs ++ [v]))) b = some o := fun b o hb e => by rw [upd_ne hb.2]; exact e
        refine ⟨xs, e7, small1000 (by omega), xs ++ [v], rs ++ [ds], upd_same, ?_, fun r hr => ?_, by rw [List.length_append, h4]; rfl, by rw [List.length_append, h4']; rfl, S7.put sD lD, Im.mono (fun b o g e => k7 b o g (b7 b o g.1 e)) (fun _ g => g) _ _ h6⟩
        · rw [List.map_append]
          refine ImAll.snoc (Im.monoAll (fun b o g x => k7 b o g (b7 b o g.1 x)) (fun _ g => g) _ _ h2) (Im.mono (fun b o g e => k7 b o g e) (fun _ g => g) _ _ (Im.mono (G' := fun b => b ≠ s ∧ b ≠ D) (fun _ _ _ e => e) (fun b g => ?_) _ _ iv))
          obtain ⟨o6, ho6⟩ := h5.at_s
          exact ⟨(fun z => by rw [z, ho6] at g; cases g), (fun z => by rw [z, h1] at g; cases g)⟩
        · rcases List.mem_append.mp hr with z | z
          · exact h3 r z
          · rw [List.mem_singleton.mp z]; exact ok
      · rintro H6 ⟨xs, rows, h1, h2, h3, h4, h4', h5, h6⟩
        have hi6 : Im K (fun b => b ≠ s) H6 hv (.tuple hds) := Im.mono (fun _ _ _ e => e) (fun _ g => g.1) _ _ h6
        have hx6 : ImAll K (fun b => b ≠ s) H6 xs (rows.map PyData.tuple) := Im.monoAll (fun _ _ _ e => e) (fun _ g => g.1) _ _ h2
        clear h2 h6 hiD hi5 hD hos5 hol5 S5 b5 hi S4
        refine gname (seq_asg ?_)
        refine ⟨_, rfl, ?_⟩
        obtain ⟨hnd, hcl, hle, hhd⟩ := id hok
        cases hds with
        | nil => exact absurd hcl (by show ¬ (1 = 0); decide)
        | cons hd0 htl =>
        have hrl : rows.length ≤ 5 := by omega
        refine gname (seq_via (fun σ' H' => ∃ (cv : V) (d : PyData) (r : List PyData) (rows' : List (List PyData)) (m : Nat), σ' = [some (.ref a), some (.ref s), some (.bl odd), some hv, some (.ref D), none, some cv, none, none, none, none, none, none] ∧ Dp K H' cv (.tuple (d :: r)) ∧ (∀ e ∈ d :: r, NdA e) ∧ (PyData.eqv d clN = true → Cls 2 r) ∧ r.length < 200 ∧ (splitM (d :: r)).1 = hd0 :: htl ∧ Flat rows' (splitM (d :: r)).2 ∧ Cls m (splitM (d :: r)).2 ∧ rows'.length ≤ 200 ∧ goalsM rows' = goalsM rows ∧ H' D = some (.lst xs) ∧ DpAll K H' xs (rows.map PyData.tuple) ∧ Dp K H' hv (.tuple (hd0 :: htl))) ?_ (fun go => ?_))
        · clear hx6 h1 h5
          rintro σ' H7 ⟨cv, d, r, rows', m, rfl, dc, nc, cc, lc, sp1, fl, cm, rl, gg, eD, dx, dh⟩
          have hnr : ∀ q ∈ rows, ∀ d ∈ q, NdA d := fun q hq => (h3 q hq).1
          have hng : ∀ q ∈ goalsM rows, ∀ d ∈ q, NdA d := fun q hq => hnr q (List.mem_filter.mp hq).1
          -- goals
          refine seq_asg ?_
          refine ⟨_, rfl, D, rfl, ⟨_, SqL.of eD⟩, fun G hG => ?_⟩
          have sG := same_upd (o := .lst []) hG
          refine lc_list (K := K) (a := D) (xs := xs) (fun i H' => ∃ ys, Same H7 H' ∧ H' G = some (.lst ys) ∧ DpAll K H' ys ((goalsM (rows.take i)).map PyData.tuple) ∧ ys.length ≤ i)
            ⟨[], sG, upd_same, .nil, Nat.le_refl 0⟩ (fun i H' _ ⟨_, e, _⟩ => SqL.of (e _ _ eD)) ?_ ?_
          · rintro i y H8 hi8 ⟨ys, s8, g1, g2, g3⟩
            obtain ⟨d8, hd8, dy0⟩ := DpAll.getV dx hi8
            rw [List.getElem?_map] at hd8
            obtain ⟨rr, hr8, rfl⟩ : ∃ rr, rows[i]? = some rr ∧ PyData.tuple rr = d8 := by
              cases hr : rows[i]? with
              | none => rw [hr] at hd8; cases hd8
              | some q => rw [hr] at hd8; exact ⟨q, rfl, Option.some.inj hd8⟩
            have hrm := List.mem_of_getElem? hr8
            have hil := (List.getElem?_eq_some_iff.mp hr8).1
            have gt : goalsM (rows.take (i + 1)) = goalsM (rows.take i) ++ (if isTr rr = true then [] else [rr]) := by
              rw [List.take_add_one, hr8]
              unfold goalsM
              rw [List.filter_append]
              congr 1
              cases tr : isTr rr with
              | true => simp [tr]
              | false => simp [tr]
            refine ⟨rfl, ?_⟩
            refine ⟨_, rfl, (by show 3 ≤ sizeLine; decide), fun p np => ⟨(by show 1 ≤ sizeLine; decide), fun p2 np2 => ?_⟩⟩
            have sp := same_upd (o := .tup [.str "f", .str "true", .int 0]) np
            have sp2 := same_upd (o := .tup [.ref p]) np2
            have s12 := sp.trans sp2
            have dt : Dp K (upd (upd H8 p (.tup [.str "f", .str "true", .int 0])) p2 (.tup [.ref p])) (.ref p2) (.tuple [trueN]) := .tup (SqT.of upd_same) (.cons (.tup (SqT.of (sp2 _ _ upd_same)) (.cons (.str _) (.cons (.str _) (.cons (.int _) .nil)))) .nil)
            have g1' := s12 _ _ g1
            have g2' := dp_sameAll s12 _ _ g2
            have dy := dp_same (s8.trans s12) _ _ dy0
            have s8' := s8.trans s12
            clear np np2 sp sp2
            generalize upd (upd H8 p (.tup [.str "f", .str "true", .int 0])) p2 (.tup [.ref p]) = H9 at dt g1' g2' dy s8' s12
            refine ⟨.tuple rr, .tuple [trueN], dy, dt, tup_shaped (hnr rr hrm), tup_shaped (ds := [trueN]) (fun d hd => by rw [List.mem_singleton.mp hd]; exact true_nd), _, rfl, ?_⟩
            cases tr : isTr rr with
            | true =>
              rw [show PyData.eqv (.tuple rr) (.tuple [trueN]) = true from tr]
              rw [tr, if_pos rfl, List.append_nil] at gt
              refine iteF ⟨ys, s8', g1', by rw [gt]; exact g2', by omega⟩
            | false =>
              rw [show PyData.eqv (.tuple rr) (.tuple [trueN]) = false from tr]
              rw [tr, if_neg Bool.false_ne_true] at gt
              refine iteT ⟨_, rfl, ys, g1', small1000 (by omega), ys ++ [y], (fun b o e => by rw [upd_ne (ne_of_none e hG)]; exact s8' _ _ e), upd_same, ?_, by rw [List.length_append]; exact Nat.add_le_add_right g3 1⟩
              rw [gt, List.map_append]
              have nt : notTup H9 G := .inl ⟨_, g1'⟩
              exact DpAll.app (dp_putAll nt _ _ (rows_facts fun q hq => hnr q (List.mem_of_mem_take (List.mem_filter.mp hq).1)).2.2.2 g2') (.cons (dp_put nt _ _ (tup_noL (hnr rr hrm)) dy) .nil)
          · rintro H8 ⟨gs, s8, g1, g2, g3⟩
            rw [show xs.length = rows.length by rw [DpAll.len dx, List.length_map], List.take_length] at g2
            have dh8 := dp_same s8 _ _ dh
            have dc8 := dp_same s8 _ _ dc
            have gl : gs.length = (goalsM rows).length := by rw [DpAll.len g2, List.length_map]
            have gl2 : (goalsM rows).length ≤ 5 := Nat.le_trans (List.length_filter_le _ _) hrl
            clear s8 dx eD sG dh dc g3
            refine gname ?_
            refine seq_via (fun σ' H' => ∃ rb : Bool, rb = (isG hd0 && goodM rows) ∧ σ' = [some (.ref a), some (.ref s), some (.bl odd), some hv, some (.ref D), none, some cv, some (.ref G), none, some (.bl rb), none, none, none] ∧ Same H8 H') ?_ (fun go => ?_)
            · rintro σ' H9 ⟨rb, hrb, rfl, s9⟩
              refine seq_any ?_
              refine ⟨2, rfl, by decide, by decide, for_range (lo := 0) (n := 2) (fun i σ H' => ∃ w10 w11, σ = [some (.ref a), some (.ref s), some (.bl odd), some hv, some (.ref D), none, some cv, some (.ref G), none, some (.bl rb), w10, w11, none] ∧ Same H8 H')
                ⟨none, none, rfl, s9⟩ ?_ ?_⟩
              · rintro i σ HA hi2 ⟨w10, w11, rfl, sA⟩
                refine gname (seq_any ?_)
                refine ⟨_, rfl, cv, d, r, rows', m, rfl, dp_same sA _ _ dc8, nc, cc, lc, by rw [sp1]; exact List.cons_ne_nil _ _, fl, cm, rl, fun hgood p hv2 g ys HB sB ng ep dh2 eg Y pg => ?_, fun hbad HB sB => ?_⟩
                · rw [sp1] at hgood dh2
                  have hgm : goodM rows' = goodM rows := by unfold goodM; rw [gg]
                  have hrt : rb = true := by rw [hrb, ← hgm]; exact hgood
                  subst hrt
                  rw [gg] at Y
                  refine gname (nxp ?_)
                  refine ⟨_, rfl, rfl, _, rfl, ?_⟩
                  rw [decide_eq_false (fun z => nomatch z)]
                  refine iteT (seq_ifN ?_)
                  have dl : Dp K HB (.ref g) (.list ((goalsM rows).map PyData.tuple)) := .lst (SqL.of eg) Y
                  have da : Dp K HB (.ref p) (.tuple [.tuple (hd0 :: htl), .list ((goalsM rows).map PyData.tuple)]) := .tup (SqT.of ep) (.cons dh2 (.cons dl .nil))
                  refine ⟨_, rfl, _, rfl, iteF ?_⟩
                  refine ⟨_, rfl, _, _, _, _, _, rfl, .ty _, tyx_of da, kit_ty (kitT _), _, rfl, iteF ?_⟩
                  refine ⟨_, rfl, _, _, rfl, .inr (SqT.of ep), rfl, _, rfl, iteF ?_⟩
                  refine ⟨_, rfl, _, _, _, _, rfl, rfl, SqT.of ep, atI_nat (j := 1) rfl, _, _, _, _, _, rfl, .ty _, tyx_of dl, kit_ty (kitL _), _, rfl, iteF ?_⟩
                  refine seq_ifN ?_
                  refine ⟨_, rfl, _, _, _, _, rfl, rfl, SqT.of ep, atI_nat (j := 0) rfl, _, rfl, _, _, dh2, dp_same (sA.trans sB) _ _ dh8, tup_shaped hnd, tup_shaped hnd, _, rfl, ?_⟩
                  rw [tup_eqv hnd]
                  refine iteF ?_
                  have dG : Dp K HB (.ref G) (.list ((goalsM rows).map PyData.tuple)) := .lst (SqL.of ((sA.trans sB) _ _ g1)) (dp_sameAll (sA.trans sB) _ _ g2)
                  refine ⟨_, rfl, _, _, _, _, rfl, rfl, SqT.of ep, atI_nat (j := 1) rfl, _, rfl, _, _, dl, dG, rows_shaped hng, rows_shaped hng, _, rfl, ?_⟩
                  have ee : PyData.eqv (.list ((goalsM rows).map PyData.tuple)) (.list ((goalsM rows).map PyData.tuple)) = true := by simp only [PyData.eqv]; exact (rows_facts hng).2.2.1
                  rw [ee]
                  refine iteF ?_
                  have yl : ys.length ≤ 5 := by rw [DpAll.len Y, List.length_map]; exact gl2
                  refine ⟨_, rfl, _, _, _, _, rfl, rfl, SqT.of ep, atI_nat (j := 1) rfl, .inl ⟨rfl, _, SqL.of eg⟩, _, rfl, _, _, _, rfl, rfl, eg, small1000 (by omega), ?_⟩
                  exact ⟨_, _, rfl, fun b o e => by rw [upd_ne (ne_of_none (sA _ _ e) ng)]; exact sB _ _ (sA _ _ e)⟩
                · rw [sp1] at hbad
                  have hgm : goodM rows' = goodM rows := by unfold goodM; rw [gg]
                  have hrf : rb = false := by rw [hrb, ← hgm]; exact hbad
                  subst hrf
                  refine ⟨true, E.e_NotDefinite_HornbookError, fun _ ea ha => ⟨⟨rfl, rfl⟩, ?_⟩, fun z => nomatch z⟩
                  refine seq_ifN ?_
                  refine ⟨_, rfl, _, rfl, iteF ?_⟩
                  refine ⟨_, rfl, _, _, _, rfl, (fun u ru => ru), E.i_NotDefinite_NotDefinite, _, rfl, iteF ?_⟩
                  refine ⟨_, rfl, _, _, _, rfl, (fun u ru => ru), E.i_NotDefinite_TooLarge, _, rfl, iteF ?_⟩
                  refine asg1 (gname ?_)
                  refine nxp ?_
                  refine ⟨_, rfl, rfl, _, rfl, ?_⟩
                  rw [decide_eq_true rfl]
                  exact iteF ⟨_, _, rfl, sA.trans sB⟩
              · rintro σ HA ⟨w10, w11, rfl, sA⟩
                exact q _
            · skip
              refine ⟨_, rfl, hv, hd0, htl, rfl, dh8, hnd hd0 List.mem_cons_self, fun H9 s9 => ⟨_, rfl, ite2 (fun e => ?_) (fun e => ?_)⟩⟩
              · have eG9 := s9 _ _ g1
                refine ⟨_, rfl, G, rfl, ⟨_, SqL.of eG9⟩, fun D2 hD2 => ?_⟩
                have sD2 := same_upd (o := .lst []) hD2
                refine lc_list (K := K) (a := G) (xs := gs) (fun i H' => ∃ ys, Same H9 H' ∧ H' D2 = some (.lst ys) ∧ ys.length = (((goalsM rows).take i).filter fun r => !isGr r).length)
                  ⟨[], sD2, upd_same, rfl⟩ (fun i H' _ ⟨_, e, _⟩ => SqL.of (e _ _ eG9)) ?_ ?_
                · rintro i y HA hiA ⟨ys, sA, k1, k2⟩
                  obtain ⟨dA, hdA, dyA⟩ := DpAll.getV g2 hiA
                  rw [List.getElem?_map] at hdA
                  obtain ⟨rr, hrA, rfl⟩ : ∃ rr, (goalsM rows)[i]? = some rr ∧ PyData.tuple rr = dA := by
                    cases hr : (goalsM rows)[i]? with
                    | none => rw [hr] at hdA; cases hdA
                    | some q => rw [hr] at hdA; exact ⟨q, rfl, Option.some.inj hdA⟩
                  have hrm := List.mem_of_getElem? hrA
                  have okr := h3 rr (List.mem_filter.mp hrm).1
                  cases rr with
                  | nil => exact absurd okr.2.1 (by show ¬ (1 = 0); decide)
                  | cons d1 r1 =>
                  have tk1 : (goalsM rows).take (i + 1) = (goalsM rows).take i ++ [d1 :: r1] := by rw [List.take_add_one, hrA]; rfl
                  refine ⟨rfl, ?_⟩
                  refine ⟨_, rfl, y, d1, r1, rfl, dp_same (s9.trans sA) _ _ dyA, okr.1 d1 List.mem_cons_self, fun HB sB => ⟨_, rfl, ?_⟩⟩
                  have kl : ys.length ≤ 5 := by
                    rw [k2]
                    refine Nat.le_trans (List.length_filter_le _ _) ?_
                    rw [List.length_take]
                    omega
                  cases hg : isG d1 with
                  | true =>
                    refine iteF ⟨ys, sA.trans sB, sB _ _ k1, ?_⟩
                    rw [k2, tk1, List.filter_append]
                    simp [isGr, hg]
                  | false =>
                    refine iteT ⟨_, rfl, ys, sB _ _ k1, small1000 (by omega), ys ++ [y], (fun b o e => by rw [upd_ne (ne_of_none e hD2)]; exact sB _ _ (sA _ _ e)), upd_same, ?_⟩
                    rw [tk1, List.filter_append, List.length_append, List.length_append, k2]
                    simp [isGr, hg]
                · rintro HA ⟨ys, sA, k1, k2⟩
                  rw [gl, List.take_length] at k2
                  refine ⟨D2, ys, rfl, .inl (SqL.of k1), rfl, ?_⟩
                  rw [k2, good_len]
                  refine gname (go _ _ ⟨_, ?_, rfl, s9.trans sA⟩)
                  rw [e, Bool.true_and]
              · refine gname (go _ _ ⟨_, ?_, rfl, s9⟩)
                rw [Bool.eq_false_iff.mpr e, Bool.false_and]
        · have dx6 : DpAll K H6 xs (rows.map PyData.tuple) := Im.dpAll _ _ hx6
          have dh6 := Im.dp _ _ hi6
          refine ⟨_, rfl, _, _, rfl, .inl (SqL.of h1), _, _, rfl, rfl, _, rfl, ite2 (fun e => ?_) (fun e => ?_)⟩
          · have hne : rows ≠ [] := fun z => by
              have := of_decide_eq_true e
              rw [z] at h4'
              have h0 : ([] : List (List PyData)).length = 0 := rfl
              omega
            refine op_of (op_of ?_)
            refine lit_tup (K := K) (ds := [clN]) ?_ (by decide) H6 _ fun v0 H7 t0 i0 => ?_
            · unfold clN nodeF
              walk_at "lits"
            have S7 := h5.keep t0
            have i0 : Im K (fun b => b ≠ s) H7 v0 (.tuple [clN]) := far_of h5 i0
            refine ⟨_, rfl, ?_⟩
            refine far_cat S7 i0 (far_keep (But.of t0) hi6) (by rw [List.length_singleton]; omega) fun v4 H8 s8 i8 => ?_
            have S8 := S7.keep s8
            have s68 := t0.trans s8
            refine ⟨_, rfl, _, rfl, s, l, D, xs, rows, rfl, S8, sD.symm, s68 _ _ h1, Im.monoAll (fun b o _ e => s68 b o e) (fun _ g => g) _ _ hx6, h3, hne, hrl, fun v9 bds H9 fl9 cl9 nd9 ln9 b9 S9 i9 => ?_⟩
            refine far_cat S9 (far_keep b9 i8) i9 (by rw [List.length_append, List.length_singleton]; omega) fun v10 H10 s10 i10 => ?_
            have b610 := ((But.of (s := s) s68).trans b9).trans (But.of s10)
            have d10 := Im.dp _ _ i10
            have hsp : splitM (clN :: ((hd0 :: htl) ++ bds)) = (hd0 :: htl, bds) := by
              show (if PyData.eqv clN clN = true then (((hd0 :: htl) ++ bds).take (tk 1 ((hd0 :: htl) ++ bds)), ((hd0 :: htl) ++ bds).drop (tk 1 ((hd0 :: htl) ++ bds))) else (clN :: ((hd0 :: htl) ++ bds), [trueN])) = _
              rw [if_pos (by decide +kernel), tk_app _ _ 1 hcl, List.take_left' rfl, List.drop_left' rfl]
            refine gname (go _ _ ⟨v10, clN, (hd0 :: htl) ++ bds, rows, 1, rfl, ?_, fun x hx => ?_, fun _ => cls_app _ _ 1 1 hcl cl9, by rw [List.length_append]; omega, by rw [hsp], by rw [hsp]; exact fl9, by rw [hsp]; exact cl9, by omega, rfl, b610 _ _ sD.symm h1, Im.dpAll _ _ (Im.monoAll (fun b o g e => b610 b o g e) (fun _ g => g) _ _ hx6), Im.dp _ _ (far_keep b610 hi6)⟩)
            · rw [show clN :: ((hd0 :: htl) ++ bds) = [clN] ++ (hd0 :: htl) ++ bds by rw [List.append_assoc]; rfl]; exact d10
            · rcases List.mem_cons.mp hx with z | z
              · rw [z]; exact cl_nd
              · rcases List.mem_append.mp z with z | z
                · exact hnd x z
                · exact nd9 x z
          · have hxe : xs.length = 0 := by
              have : ¬ (0 : Int) < (xs.length : Int) := fun z => e (decide_eq_true z)
              omega
            have hre : rows = [] := List.eq_nil_of_length_eq_zero (by omega)
            have hc0 : PyData.eqv hd0 clN = false := (hhd hd0 rfl).2
            have hsp : splitM (hd0 :: htl) = (hd0 :: htl, [trueN]) := by
              show (if PyData.eqv hd0 clN = true then (htl.take (tk 1 htl), htl.drop (tk 1 htl)) else (hd0 :: htl, [trueN])) = _
              rw [if_neg (by rw [hc0]; exact Bool.false_ne_true)]
            refine go _ _ ⟨hv, hd0, htl, [[trueN]], 1, rfl, dh6, hnd, (fun z => by rw [hc0] at z; cases z), by rw [List.length_cons] at hle; omega, by rw [hsp], ?_, by rw [hsp]; exact true_row.2.1, by decide, ?_, h1, dx6, dh6⟩
            · rw [hsp]
              have := Flat.row true_row .nil
              rwa [List.append_nil] at this
            · rw [hre]
              show goalsM [[trueN]] = goalsM []
              unfold goalsM
              rw [List.filter_cons_of_neg (by rw [show isTr [trueN] = true by decide +kernel]; decide)]
    · refine ⟨_, rfl, _, rfl, ?_⟩
      have keep : ∀ H', But s H3 H' → Stm H' s l → ∃ (hv' : V) (hds' : List PyData), [some (V.ref a), some (.ref s), some (.bl odd), some hv, none, none, none, none, none, none, none, none, none] = [some (V.ref a), some (.ref s), some (.bl odd), some hv', none, none, none, none, none, none, none, none, none] ∧ OkR hds' ∧ Stm H' s l ∧ Im K (fun b => b ≠ s) H' hv' (.tuple hds') := fun H' b S => ⟨hv, hds, rfl, hok, S, far_keep b (far_of S2 hi)⟩
      cases odd with
      | false => exact iteF (iteF (go _ _ (keep _ (But.refl _ _) S3)))
      | true =>
        refine iteT ?_
        refine ⟨_, rfl, s, l, 4, rfl, S3, by decide, Nat.lt_of_lt_of_le (by decide) n9, fun r H4 _ _ b4 S4 => ⟨rfl, _, rfl, ite2 (fun e => ?_) (fun e => ?_)⟩⟩
        · refine ⟨_, rfl, s, l, rfl, S4, fun v ds H5 ok b5 S5 i5 => ?_⟩
          exact gname (go _ _ ⟨v, ds, rfl, ok, S5, far_of S4 i5⟩)
        · exact go _ _ (keep _ b4 S4)

end
/-! ### the end -/
theorem all_mk {l : PySem.W.OpenLaw} {w : World} {K : PySem.W.Frag} {h : Heap} {mg : Str → Option Value} {fa f1 f2 f3 f4 f5 f6 f7 f8 f9 f10 f11 f12 f13 f14 f15 f16 f17 f18 f19 : Addr} (X : K.In h) (G : h.Ns mainGlobals mg) (hfa : mg "law" = some (.ref fa))
    {od1 an1 od2 an2 od3 an3 od4 an4 od5 an5 od6 an6 od7 an7 od8 an8 od9 an9 od10 an10 od11 an11 od12 an12 od13 an13 od14 an14 od15 an15 od16 an16 od17 an17 od18 an18 od19 an19 : Option Addr} {sl1 sl2 sl3 sl4 sl5 sl6 sl7 sl8 sl9 sl10 sl11 sl12 sl13 sl14 sl15 sl16 sl17 sl18 sl19 : Array (Option Value)} {oc1 kV1 dc1 pm1 cd1 ct1 oc2 kV2 dc2 pm2 cd2 ct2 oc3 kV3 dc3 pm3 cd3 ct3 oc4 kV4 dc4 pm4 cd4 ct4 oc5 kV5 dc5 pm5 cd5 ct5 oc6 kV6 dc6 pm6 cd6 ct6 oc7 kV7 dc7 pm7 cd7 ct7 oc8 kV8 dc8 pm8 cd8 ct8 oc9 kV9 dc9 pm9 cd9 ct9 oc10 kV10 dc10 pm10 cd10 ct10 oc11 kV11 dc11 pm11 cd11 ct11 oc12 kV12 dc12 pm12 cd12 ct12 oc13 kV13 dc13 pm13 cd13 ct13 oc14 kV14 dc14 pm14 cd14 ct14 oc15 kV15 dc15 pm15 cd15 ct15 oc16 kV16 dc16 pm16 cd16 ct16 oc17 kV17 dc17 pm17 cd17 ct17 oc18 kV18 dc18 pm18 cd18 ct18 oc19 kV19 dc19 pm19 cd19 ct19 : Value} {tk0 : Tok}

    (a1 : PySem.W.nsIn K mainGlobals "is_symbol" = some (some (.ref f1))) (l1 : K.lookup f1 = some ⟨oc1, od1, .func (PySem.W.fnOf "is_symbol" "is_symbol" (defArgs s_is_symbol) (defBody s_is_symbol) (defScope s_is_symbol) .none kV1 dc1 pm1 an1 cd1 ct1), sl1⟩) (c1 : PySem.W.codeIn K cd1 "is_symbol" = true) (k1 : PySem.W.keepIn K (.ref f1) = true)
    (a2 : PySem.W.nsIn K mainGlobals "arity_of" = some (some (.ref f2))) (l2 : K.lookup f2 = some ⟨oc2, od2, .func (PySem.W.fnOf "arity_of" "arity_of" (defArgs s_arity_of) (defBody s_arity_of) (defScope s_arity_of) .none kV2 dc2 pm2 an2 cd2 ct2), sl2⟩) (c2 : PySem.W.codeIn K cd2 "arity_of" = true) (k2 : PySem.W.keepIn K (.ref f2) = true)
    (a3 : PySem.W.nsIn K mainGlobals "end_of" = some (some (.ref f3))) (l3 : K.lookup f3 = some ⟨oc3, od3, .func (PySem.W.fnOf "end_of" "end_of" (defArgs s_end_of) (defBody s_end_of) (defScope s_end_of) .none kV3 dc3 pm3 an3 cd3 ct3), sl3⟩) (c3 : PySem.W.codeIn K cd3 "end_of" = true) (k3 : PySem.W.keepIn K (.ref f3) = true)
    (a4 : PySem.W.nsIn K mainGlobals "is_control" = some (some (.ref f4))) (l4 : K.lookup f4 = some ⟨oc4, od4, .func (PySem.W.fnOf "is_control" "is_control" (defArgs s_is_control) (defBody s_is_control) (defScope s_is_control) .none kV4 dc4 pm4 an4 cd4 ct4), sl4⟩) (c4 : PySem.W.codeIn K cd4 "is_control" = true) (k4 : PySem.W.keepIn K (.ref f4) = true)
    (a5 : PySem.W.nsIn K mainGlobals "is_built_in" = some (some (.ref f5))) (l5 : K.lookup f5 = some ⟨oc5, od5, .func (PySem.W.fnOf "is_built_in" "is_built_in" (defArgs s_is_built_in) (defBody s_is_built_in) (defScope s_is_built_in) .none kV5 dc5 pm5 an5 cd5 ct5), sl5⟩) (c5 : PySem.W.codeIn K cd5 "is_built_in" = true) (k5 : PySem.W.keepIn K (.ref f5) = true)
    (a6 : PySem.W.nsIn K mainGlobals "split_clause" = some (some (.ref f6))) (l6 : K.lookup f6 = some ⟨oc6, od6, .func (PySem.W.fnOf "split_clause" "split_clause" (defArgs s_split_clause) (defBody s_split_clause) (defScope s_split_clause) .none kV6 dc6 pm6 an6 cd6 ct6), sl6⟩) (c6 : PySem.W.codeIn K cd6 "split_clause" = true) (k6 : PySem.W.keepIn K (.ref f6) = true)
    (a7 : PySem.W.nsIn K mainGlobals "check_goal" = some (some (.ref f7))) (l7 : K.lookup f7 = some ⟨oc7, od7, .func (PySem.W.fnOf "check_goal" "check_goal" (defArgs s_check_goal) (defBody s_check_goal) (defScope s_check_goal) .none kV7 dc7 pm7 an7 cd7 ct7), sl7⟩) (c7 : PySem.W.codeIn K cd7 "check_goal" = true) (k7 : PySem.W.keepIn K (.ref f7) = true)
    (a8 : PySem.W.nsIn K mainGlobals "goals_of" = some (some (.ref f8))) (l8 : K.lookup f8 = some ⟨oc8, od8, .func (PySem.W.fnOf "goals_of" "goals_of" (defArgs s_goals_of) (defBody s_goals_of) (defScope s_goals_of) .none kV8 dc8 pm8 an8 cd8 ct8), sl8⟩) (c8 : PySem.W.codeIn K cd8 "goals_of" = true) (k8 : PySem.W.keepIn K (.ref f8) = true)
    (a9 : PySem.W.nsIn K mainGlobals "head_and_goals" = some (some (.ref f9))) (l9 : K.lookup f9 = some ⟨oc9, od9, .func (PySem.W.fnOf "head_and_goals" "head_and_goals" (defArgs s_head_and_goals) (defBody s_head_and_goals) (defScope s_head_and_goals) .none kV9 dc9 pm9 an9 cd9 ct9), sl9⟩) (c9 : PySem.W.codeIn K cd9 "head_and_goals" = true) (k9 : PySem.W.keepIn K (.ref f9) = true)
    (a10 : PySem.W.nsIn K mainGlobals "_law_stream" = some (some (.ref f10))) (l10 : K.lookup f10 = some ⟨oc10, od10, .func (PySem.W.fnOf "_law_stream" "_law_stream" (defArgs s__law_stream) (defBody s__law_stream) (defScope s__law_stream) .none kV10 dc10 pm10 an10 cd10 ct10), sl10⟩) (c10 : PySem.W.codeIn K cd10 "_law_stream" = true) (k10 : PySem.W.keepIn K (.ref f10) = true)
    (a11 : PySem.W.nsIn K mainGlobals "_law_draw" = some (some (.ref f11))) (l11 : K.lookup f11 = some ⟨oc11, od11, .func (PySem.W.fnOf "_law_draw" "_law_draw" (defArgs s__law_draw) (defBody s__law_draw) (defScope s__law_draw) .none kV11 dc11 pm11 an11 cd11 ct11), sl11⟩) (c11 : PySem.W.codeIn K cd11 "_law_draw" = true) (k11 : PySem.W.keepIn K (.ref f11) = true)
    (a12 : PySem.W.nsIn K mainGlobals "_law_leaf" = some (some (.ref f12))) (l12 : K.lookup f12 = some ⟨oc12, od12, .func (PySem.W.fnOf "_law_leaf" "_law_leaf" (defArgs s__law_leaf) (defBody s__law_leaf) (defScope s__law_leaf) .none kV12 dc12 pm12 an12 cd12 ct12), sl12⟩) (c12 : PySem.W.codeIn K cd12 "_law_leaf" = true) (k12 : PySem.W.keepIn K (.ref f12) = true)
    (a13 : PySem.W.nsIn K mainGlobals "_law_argument" = some (some (.ref f13))) (l13 : K.lookup f13 = some ⟨oc13, od13, .func (PySem.W.fnOf "_law_argument" "_law_argument" (defArgs s__law_argument) (defBody s__law_argument) (defScope s__law_argument) .none kV13 dc13 pm13 an13 cd13 ct13), sl13⟩) (c13 : PySem.W.codeIn K cd13 "_law_argument" = true) (k13 : PySem.W.keepIn K (.ref f13) = true)
    (a14 : PySem.W.nsIn K mainGlobals "_law_atom_of" = some (some (.ref f14))) (l14 : K.lookup f14 = some ⟨oc14, od14, .func (PySem.W.fnOf "_law_atom_of" "_law_atom_of" (defArgs s__law_atom_of) (defBody s__law_atom_of) (defScope s__law_atom_of) .none kV14 dc14 pm14 an14 cd14 ct14), sl14⟩) (c14 : PySem.W.codeIn K cd14 "_law_atom_of" = true) (k14 : PySem.W.keepIn K (.ref f14) = true)
    (a15 : PySem.W.nsIn K mainGlobals "_law_odd" = some (some (.ref f15))) (l15 : K.lookup f15 = some ⟨oc15, od15, .func (PySem.W.fnOf "_law_odd" "_law_odd" (defArgs s__law_odd) (defBody s__law_odd) (defScope s__law_odd) .none kV15 dc15 pm15 an15 cd15 ct15), sl15⟩) (c15 : PySem.W.codeIn K cd15 "_law_odd" = true) (k15 : PySem.W.keepIn K (.ref f15) = true)
    (a16 : PySem.W.nsIn K mainGlobals "_law_goal" = some (some (.ref f16))) (l16 : K.lookup f16 = some ⟨oc16, od16, .func (PySem.W.fnOf "_law_goal" "_law_goal" (defArgs s__law_goal) (defBody s__law_goal) (defScope s__law_goal) .none kV16 dc16 pm16 an16 cd16 ct16), sl16⟩) (c16 : PySem.W.codeIn K cd16 "_law_goal" = true) (k16 : PySem.W.keepIn K (.ref f16) = true)
    (a17 : PySem.W.nsIn K mainGlobals "_law_nested" = some (some (.ref f17))) (l17 : K.lookup f17 = some ⟨oc17, od17, .func (PySem.W.fnOf "_law_nested" "_law_nested" (defArgs s__law_nested) (defBody s__law_nested) (defScope s__law_nested) .none kV17 dc17 pm17 an17 cd17 ct17), sl17⟩) (c17 : PySem.W.codeIn K cd17 "_law_nested" = true) (k17 : PySem.W.keepIn K (.ref f17) = true)
    (a18 : PySem.W.nsIn K mainGlobals "_law_part" = some (some (.ref f18))) (l18 : K.lookup f18 = some ⟨oc18, od18, .func (PySem.W.fnOf "_law_part" "_law_part" (defArgs s__law_part) (defBody s__law_part) (defScope s__law_part) .none kV18 dc18 pm18 an18 cd18 ct18), sl18⟩) (c18 : PySem.W.codeIn K cd18 "_law_part" = true) (k18 : PySem.W.keepIn K (.ref f18) = true)
    (a19 : PySem.W.nsIn K mainGlobals "law" = some (some (.ref f19))) (l19 : K.lookup f19 = some ⟨oc19, od19, .func (PySem.W.fnOf "law" "law" (defArgs s_law) (defBody s_law) (defScope s_law) .none kV19 dc19 pm19 an19 cd19 ct19), sl19⟩) (c19 : PySem.W.codeIn K cd19 "law" = true) (k19 : PySem.W.keepIn K (.ref f19) = true)
    {C0 : Addr} (aC0 : PySem.W.nsIn K mainGlobals "NotDefinite" = some (some (.ref C0))) (xC0 : PySem.W.excIn K C0 [.type "ValueError", .type "Exception", .type "BaseException", .type "object"] "ValueError.__new__" = true) (kC0 : PySem.W.keepIn K (.ref C0) = true) (bC0 : PySem.W.subIn K (.ref C0) (.type "BaseException") = some true) (tC0 : PySem.W.typeIn K (.ref C0) = some (.type "type")) (iC0 : PySem.W.isClsIn K C0 = true)
    {C1 : Addr} (aC1 : PySem.W.nsIn K mainGlobals "HornbookError" = some (some (.ref C1))) (xC1 : PySem.W.excIn K C1 [.type "ValueError", .type "Exception", .type "BaseException", .type "object"] "ValueError.__new__" = true) (kC1 : PySem.W.keepIn K (.ref C1) = true) (bC1 : PySem.W.subIn K (.ref C1) (.type "BaseException") = some true) (tC1 : PySem.W.typeIn K (.ref C1) = some (.type "type")) (iC1 : PySem.W.isClsIn K C1 = true)
    {C2 : Addr} (aC2 : PySem.W.nsIn K mainGlobals "TooLarge" = some (some (.ref C2))) (xC2 : PySem.W.excIn K C2 [.type "ValueError", .type "Exception", .type "BaseException", .type "object"] "ValueError.__new__" = true) (kC2 : PySem.W.keepIn K (.ref C2) = true) (bC2 : PySem.W.subIn K (.ref C2) (.type "BaseException") = some true) (tC2 : PySem.W.typeIn K (.ref C2) = some (.type "type")) (iC2 : PySem.W.isClsIn K C2 = true)
    (sC0 : PySem.W.subIn K (.ref C0) (.ref C1) = some true)
    (Ehg0 : (PySem.W.findIn K (.ref C0) "__getattribute__" = some (some (.builtin "BaseException.__getattribute__"))))
    (Ehk0 : (PySem.W.findIn K (.ref C0) "__getattr__" = some none))
    (Ehd0 : (PySem.W.hasDictIn K C0 = true))
    (Eha0 : (PySem.W.findIn K (.ref C0) "__class__" = some (some (.builtin "object.__class__"))))
    (Ehn0 : (PySem.W.specialIn K (.builtin "object.__class__") "__get__" = some (some (.builtin "getset_descriptor.__get__"))))
    (Eht0 : (PySem.W.takesIn K (.builtin "object.__class__") = some true))
    (Ehm0 : (PySem.W.mroIn K C0 (.type "object") = some true))
    (kt0 : PySem.W.kitOne K (.ref C0) (.ref C0) = some true)
    (kt1 : PySem.W.kitOne K (.ref C0) (.ref C2) = some false)
    (z0 : PySem.W.nsIn K mainGlobals "abs" = some none)
    (z1 : PySem.W.nsIn K mainGlobals "int" = some none)
    (z2 : PySem.W.nsIn K mainGlobals "isinstance" = some none)
    (z3 : PySem.W.nsIn K mainGlobals "len" = some none)
    (z4 : PySem.W.nsIn K mainGlobals "list" = some none)
    (z5 : PySem.W.nsIn K mainGlobals "range" = some none)
    (z6 : PySem.W.nsIn K mainGlobals "tuple" = some none)
    (y0 : PySem.W.nsIn K mainGlobals "MOST_CLAUSE_NODES" = some (some (.int 200 tk0)))
    {kt3 : Tok} {kt4 : Tok} {kt5 : Tok} {ka2 : Addr} {kd2 : Option Addr} {kn2 : Nat} {ks2 : Array (Option Value)} {ka1 : Addr} {kd1 : Option Addr} {kn1 : Nat} {ks1 : Array (Option Value)}
    (y1 : PySem.W.nsIn K mainGlobals "TRUE" = some (some (.ref ka1)))
    (kh2 : K.lookup ka2 = some ⟨.type "tuple", kd2, .seq #[.str "f" kt3, .str "true" kt4, .int 0 kt5] kn2, ks2⟩)
    (kh1 : K.lookup ka1 = some ⟨.type "tuple", kd1, .seq #[.ref ka2] kn1, ks1⟩)
    {kt7 : Tok} {kt8 : Tok} {kt9 : Tok} {ka6 : Addr} {kd6 : Option Addr} {kn6 : Nat} {ks6 : Array (Option Value)}
    (y2 : PySem.W.nsIn K mainGlobals "CLAUSE_SYMBOL" = some (some (.ref ka6)))
    (kh6 : K.lookup ka6 = some ⟨.type "tuple", kd6, .seq #[.str "f" kt7, .str ":-" kt8, .int 2 kt9] kn6, ks6⟩)
    {kt12 : Tok} {kt13 : Tok} {ka11 : Addr} {kd11 : Option Addr} {kn11 : Nat} {ks11 : Array (Option Value)} {kt15 : Tok} {kt16 : Tok} {ka14 : Addr} {kd14 : Option Addr} {kn14 : Nat} {ks14 : Array (Option Value)} {kt18 : Tok} {kt19 : Tok} {ka17 : Addr} {kd17 : Option Addr} {kn17 : Nat} {ks17 : Array (Option Value)} {kt21 : Tok} {kt22 : Tok} {ka20 : Addr} {kd20 : Option Addr} {kn20 : Nat} {ks20 : Array (Option Value)} {kt24 : Tok} {kt25 : Tok} {ka23 : Addr} {kd23 : Option Addr} {kn23 : Nat} {ks23 : Array (Option Value)} {kt27 : Tok} {kt28 : Tok} {ka26 : Addr} {kd26 : Option Addr} {kn26 : Nat} {ks26 : Array (Option Value)} {kt30 : Tok} {kt31 : Tok} {ka29 : Addr} {kd29 : Option Addr} {kn29 : Nat} {ks29 : Array (Option Value)} {kt33 : Tok} {kt34 : Tok} {ka32 : Addr} {kd32 : Option Addr} {kn32 : Nat} {ks32 : Array (Option Value)} {kt36 : Tok} {kt37 : Tok} {ka35 : Addr} {kd35 : Option Addr} {kn35 : Nat} {ks35 : Array (Option Value)} {kt39 : Tok} {kt40 : Tok} {ka38 : Addr} {kd38 : Option Addr} {kn38 : Nat} {ks38 : Array (Option Value)} {kt42 : Tok} {kt43 : Tok} {ka41 : Addr} {kd41 : Option Addr} {kn41 : Nat} {ks41 : Array (Option Value)} {kt45 : Tok} {kt46 : Tok} {ka44 : Addr} {kd44 : Option Addr} {kn44 : Nat} {ks44 : Array (Option Value)} {kt48 : Tok} {kt49 : Tok} {ka47 : Addr} {kd47 : Option Addr} {kn47 : Nat} {ks47 : Array (Option Value)} {kt51 : Tok} {kt52 : Tok} {ka50 : Addr} {kd50 : Option Addr} {kn50 : Nat} {ks50 : Array (Option Value)} {kt54 : Tok} {kt55 : Tok} {ka53 : Addr} {kd53 : Option Addr} {kn53 : Nat} {ks53 : Array (Option Value)} {kt57 : Tok} {kt58 : Tok} {ka56 : Addr} {kd56 : Option Addr} {kn56 : Nat} {ks56 : Array (Option Value)} {kt60 : Tok} {kt61 : Tok} {ka59 : Addr} {kd59 : Option Addr} {kn59 : Nat} {ks59 : Array (Option Value)} {kt63 : Tok} {kt64 : Tok} {ka62 : Addr} {kd62 : Option Addr} {kn62 : Nat} {ks62 : Array (Option Value)} {ka10 : Addr} {kd10 : Option Addr} {kn10 : Nat} {ks10 : Array (Option Value)}
    (y3 : PySem.W.nsIn K mainGlobals "CONTROL" = some (some (.ref ka10)))
    (kh11 : K.lookup ka11 = some ⟨.type "tuple", kd11, .seq #[.str "true" kt12, .int 0 kt13] kn11, ks11⟩)
    (kh14 : K.lookup ka14 = some ⟨.type "tuple", kd14, .seq #[.str "fail" kt15, .int 0 kt16] kn14, ks14⟩)
    (kh17 : K.lookup ka17 = some ⟨.type "tuple", kd17, .seq #[.str "!" kt18, .int 0 kt19] kn17, ks17⟩)
    (kh20 : K.lookup ka20 = some ⟨.type "tuple", kd20, .seq #[.str "," kt21, .int 2 kt22] kn20, ks20⟩)
    (kh23 : K.lookup ka23 = some ⟨.type "tuple", kd23, .seq #[.str ";" kt24, .int 2 kt25] kn23, ks23⟩)
    (kh26 : K.lookup ka26 = some ⟨.type "tuple", kd26, .seq #[.str "->" kt27, .int 2 kt28] kn26, ks26⟩)
    (kh29 : K.lookup ka29 = some ⟨.type "tuple", kd29, .seq #[.str "\\+" kt30, .int 1 kt31] kn29, ks29⟩)
    (kh32 : K.lookup ka32 = some ⟨.type "tuple", kd32, .seq #[.str "call" kt33, .int 1 kt34] kn32, ks32⟩)
    (kh35 : K.lookup ka35 = some ⟨.type "tuple", kd35, .seq #[.str "call" kt36, .int 2 kt37] kn35, ks35⟩)
    (kh38 : K.lookup ka38 = some ⟨.type "tuple", kd38, .seq #[.str "call" kt39, .int 3 kt40] kn38, ks38⟩)
    (kh41 : K.lookup ka41 = some ⟨.type "tuple", kd41, .seq #[.str "call" kt42, .int 4 kt43] kn41, ks41⟩)
    (kh44 : K.lookup ka44 = some ⟨.type "tuple", kd44, .seq #[.str "call" kt45, .int 5 kt46] kn44, ks44⟩)
    (kh47 : K.lookup ka47 = some ⟨.type "tuple", kd47, .seq #[.str "call" kt48, .int 6 kt49] kn47, ks47⟩)
    (kh50 : K.lookup ka50 = some ⟨.type "tuple", kd50, .seq #[.str "call" kt51, .int 7 kt52] kn50, ks50⟩)
    (kh53 : K.lookup ka53 = some ⟨.type "tuple", kd53, .seq #[.str "call" kt54, .int 8 kt55] kn53, ks53⟩)
    (kh56 : K.lookup ka56 = some ⟨.type "tuple", kd56, .seq #[.str "catch" kt57, .int 3 kt58] kn56, ks56⟩)
    (kh59 : K.lookup ka59 = some ⟨.type "tuple", kd59, .seq #[.str "findall" kt60, .int 3 kt61] kn59, ks59⟩)
    (kh62 : K.lookup ka62 = some ⟨.type "tuple", kd62, .seq #[.str "throw" kt63, .int 1 kt64] kn62, ks62⟩)
    (kh10 : K.lookup ka10 = some ⟨.type "tuple", kd10, .seq #[.ref ka11, .ref ka14, .ref ka17, .ref ka20, .ref ka23, .ref ka26, .ref ka29, .ref ka32, .ref ka35, .ref ka38, .ref ka41, .ref ka44, .ref ka47, .ref ka50, .ref ka53, .ref ka56, .ref ka59, .ref ka62] kn10, ks10⟩)
    {kt67 : Tok} {kt68 : Tok} {ka66 : Addr} {kd66 : Option Addr} {kn66 : Nat} {ks66 : Array (Option Value)} {kt70 : Tok} {kt71 : Tok} {ka69 : Addr} {kd69 : Option Addr} {kn69 : Nat} {ks69 : Array (Option Value)} {kt73 : Tok} {kt74 : Tok} {ka72 : Addr} {kd72 : Option Addr} {kn72 : Nat} {ks72 : Array (Option Value)} {kt76 : Tok} {kt77 : Tok} {ka75 : Addr} {kd75 : Option Addr} {kn75 : Nat} {ks75 : Array (Option Value)} {kt79 : Tok} {kt80 : Tok} {ka78 : Addr} {kd78 : Option Addr} {kn78 : Nat} {ks78 : Array (Option Value)} {kt82 : Tok} {kt83 : Tok} {ka81 : Addr} {kd81 : Option Addr} {kn81 : Nat} {ks81 : Array (Option Value)} {kt85 : Tok} {kt86 : Tok} {ka84 : Addr} {kd84 : Option Addr} {kn84 : Nat} {ks84 : Array (Option Value)} {kt88 : Tok} {kt89 : Tok} {ka87 : Addr} {kd87 : Option Addr} {kn87 : Nat} {ks87 : Array (Option Value)} {kt91 : Tok} {kt92 : Tok} {ka90 : Addr} {kd90 : Option Addr} {kn90 : Nat} {ks90 : Array (Option Value)} {kt94 : Tok} {kt95 : Tok} {ka93 : Addr} {kd93 : Option Addr} {kn93 : Nat} {ks93 : Array (Option Value)} {kt97 : Tok} {kt98 : Tok} {ka96 : Addr} {kd96 : Option Addr} {kn96 : Nat} {ks96 : Array (Option Value)} {kt100 : Tok} {kt101 : Tok} {ka99 : Addr} {kd99 : Option Addr} {kn99 : Nat} {ks99 : Array (Option Value)} {kt103 : Tok} {kt104 : Tok} {ka102 : Addr} {kd102 : Option Addr} {kn102 : Nat} {ks102 : Array (Option Value)} {kt106 : Tok} {kt107 : Tok} {ka105 : Addr} {kd105 : Option Addr} {kn105 : Nat} {ks105 : Array (Option Value)} {kt109 : Tok} {kt110 : Tok} {ka108 : Addr} {kd108 : Option Addr} {kn108 : Nat} {ks108 : Array (Option Value)} {kt112 : Tok} {kt113 : Tok} {ka111 : Addr} {kd111 : Option Addr} {kn111 : Nat} {ks111 : Array (Option Value)} {kt115 : Tok} {kt116 : Tok} {ka114 : Addr} {kd114 : Option Addr} {kn114 : Nat} {ks114 : Array (Option Value)} {kt118 : Tok} {kt119 : Tok} {ka117 : Addr} {kd117 : Option Addr} {kn117 : Nat} {ks117 : Array (Option Value)} {kt121 : Tok} {kt122 : Tok} {ka120 : Addr} {kd120 : Option Addr} {kn120 : Nat} {ks120 : Array (Option Value)} {kt124 : Tok} {kt125 : Tok} {ka123 : Addr} {kd123 : Option Addr} {kn123 : Nat} {ks123 : Array (Option Value)} {kt127 : Tok} {kt128 : Tok} {ka126 : Addr} {kd126 : Option Addr} {kn126 : Nat} {ks126 : Array (Option Value)} {kt130 : Tok} {kt131 : Tok} {ka129 : Addr} {kd129 : Option Addr} {kn129 : Nat} {ks129 : Array (Option Value)} {kt133 : Tok} {kt134 : Tok} {ka132 : Addr} {kd132 : Option Addr} {kn132 : Nat} {ks132 : Array (Option Value)} {kt136 : Tok} {kt137 : Tok} {ka135 : Addr} {kd135 : Option Addr} {kn135 : Nat} {ks135 : Array (Option Value)} {kt139 : Tok} {kt140 : Tok} {ka138 : Addr} {kd138 : Option Addr} {kn138 : Nat} {ks138 : Array (Option Value)} {kt142 : Tok} {kt143 : Tok} {ka141 : Addr} {kd141 : Option Addr} {kn141 : Nat} {ks141 : Array (Option Value)} {kt145 : Tok} {kt146 : Tok} {ka144 : Addr} {kd144 : Option Addr} {kn144 : Nat} {ks144 : Array (Option Value)} {ka65 : Addr} {kd65 : Option Addr} {kn65 : Nat} {ks65 : Array (Option Value)}
    (y4 : PySem.W.nsIn K mainGlobals "BUILT_IN" = some (some (.ref ka65)))
    (kh66 : K.lookup ka66 = some ⟨.type "tuple", kd66, .seq #[.str "=" kt67, .int 2 kt68] kn66, ks66⟩)
    (kh69 : K.lookup ka69 = some ⟨.type "tuple", kd69, .seq #[.str "\\=" kt70, .int 2 kt71] kn69, ks69⟩)
    (kh72 : K.lookup ka72 = some ⟨.type "tuple", kd72, .seq #[.str "==" kt73, .int 2 kt74] kn72, ks72⟩)
    (kh75 : K.lookup ka75 = some ⟨.type "tuple", kd75, .seq #[.str "\\==" kt76, .int 2 kt77] kn75, ks75⟩)
    (kh78 : K.lookup ka78 = some ⟨.type "tuple", kd78, .seq #[.str "@<" kt79, .int 2 kt80] kn78, ks78⟩)
    (kh81 : K.lookup ka81 = some ⟨.type "tuple", kd81, .seq #[.str "compare" kt82, .int 3 kt83] kn81, ks81⟩)
    (kh84 : K.lookup ka84 = some ⟨.type "tuple", kd84, .seq #[.str "var" kt85, .int 1 kt86] kn84, ks84⟩)
    (kh87 : K.lookup ka87 = some ⟨.type "tuple", kd87, .seq #[.str "nonvar" kt88, .int 1 kt89] kn87, ks87⟩)
    (kh90 : K.lookup ka90 = some ⟨.type "tuple", kd90, .seq #[.str "atom" kt91, .int 1 kt92] kn90, ks90⟩)
    (kh93 : K.lookup ka93 = some ⟨.type "tuple", kd93, .seq #[.str "integer" kt94, .int 1 kt95] kn93, ks93⟩)
    (kh96 : K.lookup ka96 = some ⟨.type "tuple", kd96, .seq #[.str "callable" kt97, .int 1 kt98] kn96, ks96⟩)
    (kh99 : K.lookup ka99 = some ⟨.type "tuple", kd99, .seq #[.str "functor" kt100, .int 3 kt101] kn99, ks99⟩)
    (kh102 : K.lookup ka102 = some ⟨.type "tuple", kd102, .seq #[.str "arg" kt103, .int 3 kt104] kn102, ks102⟩)
    (kh105 : K.lookup ka105 = some ⟨.type "tuple", kd105, .seq #[.str "=.." kt106, .int 2 kt107] kn105, ks105⟩)
    (kh108 : K.lookup ka108 = some ⟨.type "tuple", kd108, .seq #[.str "copy_term" kt109, .int 2 kt110] kn108, ks108⟩)
    (kh111 : K.lookup ka111 = some ⟨.type "tuple", kd111, .seq #[.str "sort" kt112, .int 2 kt113] kn111, ks111⟩)
    (kh114 : K.lookup ka114 = some ⟨.type "tuple", kd114, .seq #[.str "is" kt115, .int 2 kt116] kn114, ks114⟩)
    (kh117 : K.lookup ka117 = some ⟨.type "tuple", kd117, .seq #[.str "=:=" kt118, .int 2 kt119] kn117, ks117⟩)
    (kh120 : K.lookup ka120 = some ⟨.type "tuple", kd120, .seq #[.str "<" kt121, .int 2 kt122] kn120, ks120⟩)
    (kh123 : K.lookup ka123 = some ⟨.type "tuple", kd123, .seq #[.str "=<" kt124, .int 2 kt125] kn123, ks123⟩)
    (kh126 : K.lookup ka126 = some ⟨.type "tuple", kd126, .seq #[.str "write" kt127, .int 1 kt128] kn126, ks126⟩)
    (kh129 : K.lookup ka129 = some ⟨.type "tuple", kd129, .seq #[.str "nl" kt130, .int 0 kt131] kn129, ks129⟩)
    (kh132 : K.lookup ka132 = some ⟨.type "tuple", kd132, .seq #[.str "asserta" kt133, .int 1 kt134] kn132, ks132⟩)
    (kh135 : K.lookup ka135 = some ⟨.type "tuple", kd135, .seq #[.str "assertz" kt136, .int 1 kt137] kn135, ks135⟩)
    (kh138 : K.lookup ka138 = some ⟨.type "tuple", kd138, .seq #[.str "retract" kt139, .int 1 kt140] kn138, ks138⟩)
    (kh141 : K.lookup ka141 = some ⟨.type "tuple", kd141, .seq #[.str "tabled" kt142, .int 1 kt143] kn141, ks141⟩)
    (kh144 : K.lookup ka144 = some ⟨.type "tuple", kd144, .seq #[.str "solve" kt145, .int 2 kt146] kn144, ks144⟩)
    (kh65 : K.lookup ka65 = some ⟨.type "tuple", kd65, .seq #[.ref ka66, .ref ka69, .ref ka72, .ref ka75, .ref ka78, .ref ka81, .ref ka84, .ref ka87, .ref ka90, .ref ka93, .ref ka96, .ref ka99, .ref ka102, .ref ka105, .ref ka108, .ref ka111, .ref ka114, .ref ka117, .ref ka120, .ref ka123, .ref ka126, .ref ka129, .ref ka132, .ref ka135, .ref ka138, .ref ka141, .ref ka144] kn65, ks65⟩)
    {kt148 : Tok} {kt149 : Tok} {kt150 : Tok} {ka147 : Addr} {kd147 : Option Addr} {kn147 : Nat} {ks147 : Array (Option Value)}
    (y5 : PySem.W.nsIn K mainGlobals "CONJUNCTION" = some (some (.ref ka147)))
    (kh147 : K.lookup ka147 = some ⟨.type "tuple", kd147, .seq #[.str "f" kt148, .str "," kt149, .int 2 kt150] kn147, ks147⟩)
    : ∃ fd : FuncData, (∀ (s : Shared) (v : Value), BindsTo s fd ⟨[v], []⟩ [("script", v)]) ∧ ∀ base : Heap, K.In base → base.Ns mainGlobals mg → FnOk l.prog w K mg base CX0 6 fa fd ["script"] (sp_law K) := by
  have e := hfa.symm.trans (PySem.W.mg_of X G a19)
  cases e
  have F1 := fun_mk (st := s_is_symbol) l1 c1 k1
  have b1 := F1.binds (ps := ["node"]) fun _ _ _ _ _ _ us hl => match us, hl with | [_], _ => rfl
  have F2 := fun_mk (st := s_arity_of) l2 c2 k2
  have b2 := F2.binds (ps := ["node"]) fun _ _ _ _ _ _ us hl => match us, hl with | [_], _ => rfl
  have F3 := fun_mk (st := s_end_of) l3 c3 k3
  have b3 := F3.binds (ps := ["nodes", "start"]) fun _ _ _ _ _ _ us hl => match us, hl with | [_, _], _ => rfl
  have F4 := fun_mk (st := s_is_control) l4 c4 k4
  have b4 := F4.binds (ps := ["name", "arity"]) fun _ _ _ _ _ _ us hl => match us, hl with | [_, _], _ => rfl
  have F5 := fun_mk (st := s_is_built_in) l5 c5 k5
  have b5 := F5.binds (ps := ["name", "arity"]) fun _ _ _ _ _ _ us hl => match us, hl with | [_, _], _ => rfl
  have F6 := fun_mk (st := s_split_clause) l6 c6 k6
  have b6 := F6.binds (ps := ["clause"]) fun _ _ _ _ _ _ us hl => match us, hl with | [_], _ => rfl
  have F7 := fun_mk (st := s_check_goal) l7 c7 k7
  have b7 := F7.binds (ps := ["term"]) fun _ _ _ _ _ _ us hl => match us, hl with | [_], _ => rfl
  have F8 := fun_mk (st := s_goals_of) l8 c8 k8
  have b8 := F8.binds (ps := ["body"]) fun _ _ _ _ _ _ us hl => match us, hl with | [_], _ => rfl
  have F9 := fun_mk (st := s_head_and_goals) l9 c9 k9
  have b9 := F9.binds (ps := ["clause"]) fun _ _ _ _ _ _ us hl => match us, hl with | [_], _ => rfl
  have F10 := fun_mk (st := s__law_stream) l10 c10 k10
  have b10 := F10.binds (ps := ["script"]) fun _ _ _ _ _ _ us hl => match us, hl with | [_], _ => rfl
  have F11 := fun_mk (st := s__law_draw) l11 c11 k11
  have b11 := F11.binds (ps := ["stream", "many"]) fun _ _ _ _ _ _ us hl => match us, hl with | [_, _], _ => rfl
  have F12 := fun_mk (st := s__law_leaf) l12 c12 k12
  have b12 := F12.binds (ps := ["stream", "widest"]) fun _ _ _ _ _ _ us hl => match us, hl with | [_, _], _ => rfl
  have F13 := fun_mk (st := s__law_argument) l13 c13 k13
  have b13 := F13.binds (ps := ["stream", "widest"]) fun _ _ _ _ _ _ us hl => match us, hl with | [_, _], _ => rfl
  have F14 := fun_mk (st := s__law_atom_of) l14 c14 k14
  have b14 := F14.binds (ps := ["stream", "widest"]) fun _ _ _ _ _ _ us hl => match us, hl with | [_, _], _ => rfl
  have F15 := fun_mk (st := s__law_odd) l15 c15 k15
  have b15 := F15.binds (ps := ["stream"]) fun _ _ _ _ _ _ us hl => match us, hl with | [_], _ => rfl
  have F16 := fun_mk (st := s__law_goal) l16 c16 k16
  have b16 := F16.binds (ps := ["term"]) fun _ _ _ _ _ _ us hl => match us, hl with | [_], _ => rfl
  have F17 := fun_mk (st := s__law_nested) l17 c17 k17
  have b17 := F17.binds (ps := ["stream", "rows"]) fun _ _ _ _ _ _ us hl => match us, hl with | [_, _], _ => rfl
  have F18 := fun_mk (st := s__law_part) l18 c18 k18
  have b18 := F18.binds (ps := ["stream", "odd"]) fun _ _ _ _ _ _ us hl => match us, hl with | [_, _], _ => rfl
  have F19 := fun_mk (st := s_law) l19 c19 k19
  have E : Bi K mg := ⟨(by rw [clsA_of aC0]; exact ⟨PySem.W.mg_of X G aC0, xC0, kC0, bC0, tC0, iC0⟩), (by rw [clsA_of aC1]; exact ⟨PySem.W.mg_of X G aC1, xC1, kC1, bC1, tC1, iC1⟩), (by rw [clsA_of aC2]; exact ⟨PySem.W.mg_of X G aC2, xC2, kC2, bC2, tC2, iC2⟩), (by rw [clsA_of aC0, clsA_of aC1]; exact exm_pair bC1 iC1 tC1 sC0), (by rw [clsA_of aC0]; exact ⟨Ehg0, Ehk0, bC0, Ehd0, Eha0, Ehn0, Eht0, Ehm0⟩), (by rw [clsA_of aC0]; exact kt0), (by rw [clsA_of aC0, clsA_of aC2]; exact kt1), PySem.W.mg_none_of X G z0, PySem.W.mg_none_of X G z1, PySem.W.mg_none_of X G z2, PySem.W.mg_none_of X G z3, PySem.W.mg_none_of X G z4, PySem.W.mg_none_of X G z5, PySem.W.mg_none_of X G z6, ⟨_, PySem.W.mg_of X G y0, ⟨_, rfl⟩⟩, ⟨_, _, PySem.W.mg_of X G y1, (relRef _), (kt_of kh1 (by show 1 ≤ 1000; decide) (.cons (relRef _) .nil) (.cons (kt_of kh2 (by show 3 ≤ 1000; decide) (.cons (relStr _ _) (.cons (relStr _ _) (.cons (relInt _ _) .nil))) (.cons (.str _) (.cons (.str _) (.cons (.int _) .nil)))) .nil))⟩, ⟨_, _, PySem.W.mg_of X G y2, (relRef _), (kt_of kh6 (by show 3 ≤ 1000; decide) (.cons (relStr _ _) (.cons (relStr _ _) (.cons (relInt _ _) .nil))) (.cons (.str _) (.cons (.str _) (.cons (.int _) .nil))))⟩, ⟨_, _, PySem.W.mg_of X G y3, (relRef _), (kt_of kh10 (by show 18 ≤ 1000; decide) (.cons (relRef _) (.cons (relRef _) (.cons (relRef _) (.cons (relRef _) (.cons (relRef _) (.cons (relRef _) (.cons (relRef _) (.cons (relRef _) (.cons (relRef _) (.cons (relRef _) (.cons (relRef _) (.cons (relRef _) (.cons (relRef _) (.cons (relRef _) (.cons (relRef _) (.cons (relRef _) (.cons (relRef _) (.cons (relRef _) .nil)))))))))))))))))) (.cons (kt_of kh11 (by show 2 ≤ 1000; decide) (.cons (relStr _ _) (.cons (relInt _ _) .nil)) (.cons (.str _) (.cons (.int _) .nil))) (.cons (kt_of kh14 (by show 2 ≤ 1000; decide) (.cons (relStr _ _) (.cons (relInt _ _) .nil)) (.cons (.str _) (.cons (.int _) .nil))) (.cons (kt_of kh17 (by show 2 ≤ 1000; decide) (.cons (relStr _ _) (.cons (relInt _ _) .nil)) (.cons (.str _) (.cons (.int _) .nil))) (.cons (kt_of kh20 (by show 2 ≤ 1000; decide) (.cons (relStr _ _) (.cons (relInt _ _) .nil)) (.cons (.str _) (.cons (.int _) .nil))) (.cons (kt_of kh23 (by show 2 ≤ 1000; decide) (.cons (relStr _ _) (.cons (relInt _ _) .nil)) (.cons (.str _) (.cons (.int _) .nil))) (.cons (kt_of kh26 (by show 2 ≤ 1000; decide) (.cons (relStr _ _) (.cons (relInt _ _) .nil)) (.cons (.str _) (.cons (.int _) .nil))) (.cons (kt_of kh29 (by show 2 ≤ 1000; decide) (.cons (relStr _ _) (.cons (relInt _ _) .nil)) (.cons (.str _) (.cons (.int _) .nil))) (.cons (kt_of kh32 (by show 2 ≤ 1000; decide) (.cons (relStr _ _) (.cons (relInt _ _) .nil)) (.cons (.str _) (.cons (.int _) .nil))) (.cons (kt_of kh35 (by show 2 ≤ 1000; decide) (.cons (relStr _ _) (.cons (relInt _ _) .nil)) (.cons (.str _) (.cons (.int _) .nil))) (.cons (kt_of kh38 (by show 2 ≤ 1000; decide) (.cons (relStr _ _) (.cons (relInt _ _) .nil)) (.cons (.str _) (.cons (.int _) .nil))) (.cons (kt_of kh41 (by show 2 ≤ 1000; decide) (.cons (relStr _ _) (.cons (relInt _ _) .nil)) (.cons (.str _) (.cons (.int _) .nil))) (.cons (kt_of kh44 (by show 2 ≤ 1000; decide) (.cons (relStr _ _) (.cons (relInt _ _) .nil)) (.cons (.str _) (.cons (.int _) .nil))) (.cons (kt_of kh47 (by show 2 ≤ 1000; decide) (.cons (relStr _ _) (.cons (relInt _ _) .nil)) (.cons (.str _) (.cons (.int _) .nil))) (.cons (kt_of kh50 (by show 2 ≤ 1000; decide) (.cons (relStr _ _) (.cons (relInt _ _) .nil)) (.cons (.str _) (.cons (.int _) .nil))) (.cons (kt_of kh53 (by show 2 ≤ 1000; decide) (.cons (relStr _ _) (.cons (relInt _ _) .nil)) (.cons (.str _) (.cons (.int _) .nil))) (.cons (kt_of kh56 (by show 2 ≤ 1000; decide) (.cons (relStr _ _) (.cons (relInt _ _) .nil)) (.cons (.str _) (.cons (.int _) .nil))) (.cons (kt_of kh59 (by show 2 ≤ 1000; decide) (.cons (relStr _ _) (.cons (relInt _ _) .nil)) (.cons (.str _) (.cons (.int _) .nil))) (.cons (kt_of kh62 (by show 2 ≤ 1000; decide) (.cons (relStr _ _) (.cons (relInt _ _) .nil)) (.cons (.str _) (.cons (.int _) .nil))) .nil)))))))))))))))))))⟩, ⟨_, _, PySem.W.mg_of X G y4, (relRef _), (kt_of kh65 (by show 27 ≤ 1000; decide) (.cons (relRef _) (.cons (relRef _) (.cons (relRef _) (.cons (relRef _) (.cons (relRef _) (.cons (relRef _) (.cons (relRef _) (.cons (relRef _) (.cons (relRef _) (.cons (relRef _) (.cons (relRef _) (.cons (relRef _) (.cons (relRef _) (.cons (relRef _) (.cons (relRef _) (.cons (relRef _) (.cons (relRef _) (.cons (relRef _) (.cons (relRef _) (.cons (relRef _) (.cons (relRef _) (.cons (relRef _) (.cons (relRef _) (.cons (relRef _) (.cons (relRef _) (.cons (relRef _) (.cons (relRef _) .nil))))))))))))))))))))))))))) (.cons (kt_of kh66 (by show 2 ≤ 1000; decide) (.cons (relStr _ _) (.cons (relInt _ _) .nil)) (.cons (.str _) (.cons (.int _) .nil))) (.cons (kt_of kh69 (by show 2 ≤ 1000; decide) (.cons (relStr _ _) (.cons (relInt _ _) .nil)) (.cons (.str _) (.cons (.int _) .nil))) (.cons (kt_of kh72 (by show 2 ≤ 1000; decide) (.cons (relStr _ _) (.cons (relInt _ _) .nil)) (.cons (.str _) (.cons (.int _) .nil))) (.cons (kt_of kh75 (by show 2 ≤ 1000; decide) (.cons (relStr _ _) (.cons (relInt _ _) .nil)) (.cons (.str _) (.cons (.int _) .nil))) (.cons (kt_of kh78 (by show 2 ≤ 1000; decide) (.cons (relStr _ _) (.cons (relInt _ _) .nil)) (.cons (.str _) (.cons (.int _) .nil))) (.cons (kt_of kh81 (by show 2 ≤ 1000; decide) (.cons (relStr _ _) (.cons (relInt _ _) .nil)) (.cons (.str _) (.cons (.int _) .nil))) (.cons (kt_of kh84 (by show 2 ≤ 1000; decide) (.cons (relStr _ _) (.cons (relInt _ _) .nil)) (.cons (.str _) (.cons (.int _) .nil))) (.cons (kt_of kh87 (by show 2 ≤ 1000; decide) (.cons (relStr _ _) (.cons (relInt _ _) .nil)) (.cons (.str _) (.cons (.int _) .nil))) (.cons (kt_of kh90 (by show 2 ≤ 1000; decide) (.cons (relStr _ _) (.cons (relInt _ _) .nil)) (.cons (.str _) (.cons (.int _) .nil))) (.cons (kt_of kh93 (by show 2 ≤ 1000; decide) (.cons (relStr _ _) (.cons (relInt _ _) .nil)) (.cons (.str _) (.cons (.int _) .nil))) (.cons (kt_of kh96 (by show 2 ≤ 1000; decide) (.cons (relStr _ _) (.cons (relInt _ _) .nil)) (.cons (.str _) (.cons (.int _) .nil))) (.cons (kt_of kh99 (by show 2 ≤ 1000; decide) (.cons (relStr _ _) (.cons (relInt _ _) .nil)) (.cons (.str _) (.cons (.int _) .nil))) (.cons (kt_of kh102 (by show 2 ≤ 1000; decide) (.cons (relStr _ _) (.cons (relInt _ _) .nil)) (.cons (.str _) (.cons (.int _) .nil))) (.cons (kt_of kh105 (by show 2 ≤ 1000; decide) (.cons (relStr _ _) (.cons (relInt _ _) .nil)) (.cons (.str _) (.cons (.int _) .nil))) (.cons (kt_of kh108 (by show 2 ≤ 1000; decide) (.cons (relStr _ _) (.cons (relInt _ _) .nil)) (.cons (.str _) (.cons (.int _) .nil))) (.cons (kt_of kh111 (by show 2 ≤ 1000; decide) (.cons (relStr _ _) (.cons (relInt _ _) .nil)) (.cons (.str _) (.cons (.int _) .nil))) (.cons (kt_of kh114 (by show 2 ≤ 1000; decide) (.cons (relStr _ _) (.cons (relInt _ _) .nil)) (.cons (.str _) (.cons (.int _) .nil))) (.cons (kt_of kh117 (by show 2 ≤ 1000; decide) (.cons (relStr _ _) (.cons (relInt _ _) .nil)) (.cons (.str _) (.cons (.int _) .nil))) (.cons (kt_of kh120 (by show 2 ≤ 1000; decide) (.cons (relStr _ _) (.cons (relInt _ _) .nil)) (.cons (.str _) (.cons (.int _) .nil))) (.cons (kt_of kh123 (by show 2 ≤ 1000; decide) (.cons (relStr _ _) (.cons (relInt _ _) .nil)) (.cons (.str _) (.cons (.int _) .nil))) (.cons (kt_of kh126 (by show 2 ≤ 1000; decide) (.cons (relStr _ _) (.cons (relInt _ _) .nil)) (.cons (.str _) (.cons (.int _) .nil))) (.cons (kt_of kh129 (by show 2 ≤ 1000; decide) (.cons (relStr _ _) (.cons (relInt _ _) .nil)) (.cons (.str _) (.cons (.int _) .nil))) (.cons (kt_of kh132 (by show 2 ≤ 1000; decide) (.cons (relStr _ _) (.cons (relInt _ _) .nil)) (.cons (.str _) (.cons (.int _) .nil))) (.cons (kt_of kh135 (by show 2 ≤ 1000; decide) (.cons (relStr _ _) (.cons (relInt _ _) .nil)) (.cons (.str _) (.cons (.int _) .nil))) (.cons (kt_of kh138 (by show 2 ≤ 1000; decide) (.cons (relStr _ _) (.cons (relInt _ _) .nil)) (.cons (.str _) (.cons (.int _) .nil))) (.cons (kt_of kh141 (by show 2 ≤ 1000; decide) (.cons (relStr _ _) (.cons (relInt _ _) .nil)) (.cons (.str _) (.cons (.int _) .nil))) (.cons (kt_of kh144 (by show 2 ≤ 1000; decide) (.cons (relStr _ _) (.cons (relInt _ _) .nil)) (.cons (.str _) (.cons (.int _) .nil))) .nil))))))))))))))))))))))))))))⟩, ⟨_, _, PySem.W.mg_of X G y5, (relRef _), (kt_of kh147 (by show 3 ≤ 1000; decide) (.cons (relStr _ _) (.cons (relStr _ _) (.cons (relInt _ _) .nil))) (.cons (.str _) (.cons (.str _) (.cons (.int _) .nil))))⟩⟩
  refine ⟨PySem.W.fnOf "law" "law" (defArgs s_law) (defBody s_law) (defScope s_law) .none kV19 dc19 pm19 an19 cd19 ct19, fun s v => .of_eq rfl, fun base _ _ => ?_⟩
  have D1 : Has l.prog w K mg base 1 "is_symbol" ["node"] (sp_is_symbol K) := ⟨_, _, ok_is_symbol F1 E , PySem.W.mg_of X G a1, k1, b1⟩
  have D4 : Has l.prog w K mg base 1 "is_control" ["name", "arity"] (sp_is_control K) := ⟨_, _, ok_is_control F4 E , PySem.W.mg_of X G a4, k4, b4⟩
  have D5 : Has l.prog w K mg base 1 "is_built_in" ["name", "arity"] (sp_is_built_in K) := ⟨_, _, ok_is_built_in F5 E , PySem.W.mg_of X G a5, k5, b5⟩
  have D10 : Has l.prog w K mg base 1 "_law_stream" ["script"] (sp__law_stream K) := ⟨_, _, ok__law_stream F10 E , PySem.W.mg_of X G a10, k10, b10⟩
  have D11 : Has l.prog w K mg base 1 "_law_draw" ["stream", "many"] (sp__law_draw K) := ⟨_, _, ok__law_draw F11 E , PySem.W.mg_of X G a11, k11, b11⟩
  have D16 : Has l.prog w K mg base 1 "_law_goal" ["term"] (sp__law_goal K) := ⟨_, _, ok__law_goal F16 E , PySem.W.mg_of X G a16, k16, b16⟩
  have D2 : Has l.prog w K mg base 2 "arity_of" ["node"] (sp_arity_of K) := ⟨_, _, ok_arity_of F2 E D1, PySem.W.mg_of X G a2, k2, b2⟩
  have D7 : HasX l.prog w K mg base 2 "check_goal" ["term"] (sp_check_goal K) := ⟨_, _, ok_check_goal F7 E D1 D5 D4, PySem.W.mg_of X G a7, k7, b7⟩
  have D12 : Has l.prog w K mg base 2 "_law_leaf" ["stream", "widest"] (sp__law_leaf K) := ⟨_, _, ok__law_leaf F12 E D11, PySem.W.mg_of X G a12, k12, b12⟩
  have D15 : Has l.prog w K mg base 2 "_law_odd" ["stream"] (sp__law_odd K) := ⟨_, _, ok__law_odd F15 E D11, PySem.W.mg_of X G a15, k15, b15⟩
  have D17 : Has l.prog w K mg base 2 "_law_nested" ["stream", "rows"] (sp__law_nested K) := ⟨_, _, ok__law_nested F17 E D11, PySem.W.mg_of X G a17, k17, b17⟩
  have D3 : Has l.prog w K mg base 3 "end_of" ["nodes", "start"] (sp_end_of K) := ⟨_, _, ok_end_of F3 E D2, PySem.W.mg_of X G a3, k3, b3⟩
  have D13 : Has l.prog w K mg base 3 "_law_argument" ["stream", "widest"] (sp__law_argument K) := ⟨_, _, ok__law_argument F13 E D11 D12, PySem.W.mg_of X G a13, k13, b13⟩
  have D6 : Has l.prog w K mg base 4 "split_clause" ["clause"] (sp_split_clause K) := ⟨_, _, ok_split_clause F6 E D3, PySem.W.mg_of X G a6, k6, b6⟩
  have D8 : HasX l.prog w K mg base 4 "goals_of" ["body"] (sp_goals_of K) := ⟨_, _, ok_goals_of F8 E D3 D7, PySem.W.mg_of X G a8, k8, b8⟩
  have D14 : Has l.prog w K mg base 4 "_law_atom_of" ["stream", "widest"] (sp__law_atom_of K) := ⟨_, _, ok__law_atom_of F14 E D11 D13 D12, PySem.W.mg_of X G a14, k14, b14⟩
  have D9 : HasX l.prog w K mg base 5 "head_and_goals" ["clause"] (sp_head_and_goals K) := ⟨_, _, ok_head_and_goals F9 E D6 D7 D8, PySem.W.mg_of X G a9, k9, b9⟩
  have D18 : Has l.prog w K mg base 5 "_law_part" ["stream", "odd"] (sp__law_part K) := ⟨_, _, ok__law_part F18 E D11 D15 D14, PySem.W.mg_of X G a18, k18, b18⟩
  exact ok_law F19 E D10 D11 D14 D15 D18 D17 D16 D9
end My
open PySem PySem.W PyProof.Rows
set_option maxRecDepth 100000 in
set_option maxHeartbeats 0 in
theorem PySem.Challenge.cw_hornbook_k36_definite_clauses_holds : PySem.Challenge.rw_hornbook_k36_definite_clauses.Holds := by
  w_on; o_law; k_head; (case hw => w_witness2)
  k_fill
  refine L2.walk_of (l := PySem.Challenge.rw_hornbook_k36_definite_clauses) (n := 63) (k := 6) (x := "script") (CX := fun _ => L2.CX0) (sp := fun w => My.sp_law _) rfl (by decide) rfl ⟨rfl, by decide, by decide⟩ (fun w h Y => PySem.W.kIn_of Y) ?F (fun _ _ a ns hl _ hS => ⟨a, ns, rfl, hS, hl, fun _ => rfl⟩) (fun _ _ _ _ _ h => h)
  case F =>
    intro w mg fa h KX G hmg
    refine' My.all_mk KX G hmg ?a1 ?l1 ?c1 ?k1 ?a2 ?l2 ?c2 ?k2 ?a3 ?l3 ?c3 ?k3 ?a4 ?l4 ?c4 ?k4 ?a5 ?l5 ?c5 ?k5 ?a6 ?l6 ?c6 ?k6 ?a7 ?l7 ?c7 ?k7 ?a8 ?l8 ?c8 ?k8 ?a9 ?l9 ?c9 ?k9 ?a10 ?l10 ?c10 ?k10 ?a11 ?l11 ?c11 ?k11 ?a12 ?l12 ?c12 ?k12 ?a13 ?l13 ?c13 ?k13 ?a14 ?l14 ?c14 ?k14 ?a15 ?l15 ?c15 ?k15 ?a16 ?l16 ?c16 ?k16 ?a17 ?l17 ?c17 ?k17 ?a18 ?l18 ?c18 ?k18 ?a19 ?l19 ?c19 ?k19 ?aC0 ?xC0 ?kC0 ?bC0 ?tC0 ?iC0 ?aC1 ?xC1 ?kC1 ?bC1 ?tC1 ?iC1 ?aC2 ?xC2 ?kC2 ?bC2 ?tC2 ?iC2 ?sC0 ?Ehg0 ?Ehk0 ?Ehd0 ?Eha0 ?Ehn0 ?Eht0 ?Ehm0 ?kt0 ?kt1 ?z0 ?z1 ?z2 ?z3 ?z4 ?z5 ?z6 ?y0 ?y1 ?kh2 ?kh1 ?y2 ?kh6 ?y3 ?kh11 ?kh14 ?kh17 ?kh20 ?kh23 ?kh26 ?kh29 ?kh32 ?kh35 ?kh38 ?kh41 ?kh44 ?kh47 ?kh50 ?kh53 ?kh56 ?kh59 ?kh62 ?kh10 ?y4 ?kh66 ?kh69 ?kh72 ?kh75 ?kh78 ?kh81 ?kh84 ?kh87 ?kh90 ?kh93 ?kh96 ?kh99 ?kh102 ?kh105 ?kh108 ?kh111 ?kh114 ?kh117 ?kh120 ?kh123 ?kh126 ?kh129 ?kh132 ?kh135 ?kh138 ?kh141 ?kh144 ?kh65 ?y5 ?kh147
    (case a1 => k_is)
    (case l1 => k_is)
    (case c1 => k_is)
    (case k1 => k_is)
    (case a2 => k_is)
    (case l2 => k_is)
    (case c2 => k_is)
    (case k2 => k_is)
    (case a3 => k_is)
    (case l3 => k_is)
    (case c3 => k_is)
    (case k3 => k_is)
    (case a4 => k_is)
    (case l4 => k_is)
    (case c4 => k_is)
    (case k4 => k_is)
    (case a5 => k_is)
    (case l5 => k_is)
    (case c5 => k_is)
    (case k5 => k_is)
    (case a6 => k_is)
    (case l6 => k_is)
    (case c6 => k_is)
    (case k6 => k_is)
    (case a7 => k_is)
    (case l7 => k_is)
    (case c7 => k_is)
    (case k7 => k_is)
    (case a8 => k_is)
    (case l8 => k_is)
    (case c8 => k_is)
    (case k8 => k_is)
    (case a9 => k_is)
    (case l9 => k_is)
    (case c9 => k_is)
    (case k9 => k_is)
    (case a10 => k_is)
    (case l10 => k_is)
    (case c10 => k_is)
    (case k10 => k_is)
    (case a11 => k_is)
    (case l11 => k_is)
    (case c11 => k_is)
    (case k11 => k_is)
    (case a12 => k_is)
    (case l12 => k_is)
    (case c12 => k_is)
    (case k12 => k_is)
    (case a13 => k_is)
    (case l13 => k_is)
    (case c13 => k_is)
    (case k13 => k_is)
    (case a14 => k_is)
    (case l14 => k_is)
    (case c14 => k_is)
    (case k14 => k_is)
    (case a15 => k_is)
    (case l15 => k_is)
    (case c15 => k_is)
    (case k15 => k_is)
    (case a16 => k_is)
    (case l16 => k_is)
    (case c16 => k_is)
    (case k16 => k_is)
    (case a17 => k_is)
    (case l17 => k_is)
    (case c17 => k_is)
    (case k17 => k_is)
    (case a18 => k_is)
    (case l18 => k_is)
    (case c18 => k_is)
    (case k18 => k_is)
    (case a19 => k_is)
    (case l19 => k_is)
    (case c19 => k_is)
    (case k19 => k_is)
    (case aC0 => k_is)
    (case xC0 => k_exc)
    (case kC0 => k_is)
    (case bC0 => k_is)
    (case tC0 => k_is)
    (case iC0 => k_is)
    (case aC1 => k_is)
    (case xC1 => k_exc)
    (case kC1 => k_is)
    (case bC1 => k_is)
    (case tC1 => k_is)
    (case iC1 => k_is)
    (case aC2 => k_is)
    (case xC2 => k_exc)
    (case kC2 => k_is)
    (case bC2 => k_is)
    (case tC2 => k_is)
    (case iC2 => k_is)
    (case sC0 => first | rfl | k_is)
    (case Ehg0 => k_is)
    (case Ehk0 => k_is)
    (case Ehd0 => k_is)
    (case Eha0 => k_is)
    (case Ehn0 => k_is)
    (case Eht0 => k_is)
    (case Ehm0 => k_is)
    (case kt0 => first | rfl | k_is)
    (case kt1 => first | rfl | k_is)
    (case z0 => k_is)
    (case z1 => k_is)
    (case z2 => k_is)
    (case z3 => k_is)
    (case z4 => k_is)
    (case z5 => k_is)
    (case z6 => k_is)
    (case y0 => k_is)
    (case y1 => k_is)
    (case kh1 => k_is)
    (case kh2 => k_is)
    (case y2 => k_is)
    (case kh6 => k_is)
    (case y3 => k_is)
    (case kh10 => k_is)
    (case kh62 => k_is)
    (case kh59 => k_is)
    (case kh56 => k_is)
    (case kh53 => k_is)
    (case kh50 => k_is)
    (case kh47 => k_is)
    (case kh44 => k_is)
    (case kh41 => k_is)
    (case kh38 => k_is)
    (case kh35 => k_is)
    (case kh32 => k_is)
    (case kh29 => k_is)
    (case kh26 => k_is)
    (case kh23 => k_is)
    (case kh20 => k_is)
    (case kh17 => k_is)
    (case kh14 => k_is)
    (case kh11 => k_is)
    (case y4 => k_is)
    (case kh65 => k_is)
    (case kh144 => k_is)
    (case kh141 => k_is)
    (case kh138 => k_is)
    (case kh135 => k_is)
    (case kh132 => k_is)
    (case kh129 => k_is)
    (case kh126 => k_is)
    (case kh123 => k_is)
    (case kh120 => k_is)
    (case kh117 => k_is)
    (case kh114 => k_is)
    (case kh111 => k_is)
    (case kh108 => k_is)
    (case kh105 => k_is)
    (case kh102 => k_is)
    (case kh99 => k_is)
    (case kh96 => k_is)
    (case kh93 => k_is)
    (case kh90 => k_is)
    (case kh87 => k_is)
    (case kh84 => k_is)
    (case kh81 => k_is)
    (case kh78 => k_is)
    (case kh75 => k_is)
    (case kh72 => k_is)
    (case kh69 => k_is)
    (case kh66 => k_is)
    (case y5 => k_is)
    (case kh147 => k_is)
