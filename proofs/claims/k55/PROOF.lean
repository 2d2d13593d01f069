import PyProof.Rows.All
import Wide.All
import OpenK.AllK
import Wide.FinOn
import HandS.ForMost
import HandS.IsInst
import HandS.Wide
import HandS.Codes
import HandS.Style
import HandS.TupLe
import HandS.TupAny
import HandS.EndBits
import HandS.Walk
import HandS.Zip
import KE.LtData
import HandS.SetKeys
import HandS.WordsDict
import HandS.DictComp
import HandS.More
import HandS.SortInts
import PySem.Challenge.RW_hornbook_k55_different_values
set_option Elab.async false
set_option linter.all false
set_option maxRecDepth 100000
set_option maxHeartbeats 4000000
set_option exponentiation.threshold 10000
namespace My
open PySem PySem.Spec PyProof.Rows L2
/-- a def of the text that keeps a promise, as its callers want it -/
def Has (P : Program) (w : World) (K : PySem.W.Frag) (mg : Str → Option Value) (base : Heap) (k : Nat) (x : Str) (ps : List Str) (sp : Sp) : Prop :=
  ∃ (f : Addr) (fd : FuncData), FnOk P w K mg base CX0 k f fd ps sp ∧ mg x = some (.ref f) ∧ PySem.W.keepIn K (.ref f) = true ∧ Binds K fd ps []
theorem same_upd {H : Hp} {p : Addr} {o : HO} (h : H p = none) : Same H (upd H p o) := fun b x e => by
  rw [upd_ne (ne_of_none e h)]
  exact e
/-- all but the object at s is as it was -/
def But (s : Addr) (H H' : Hp) : Prop := ∀ b o, b ≠ s → H b = some o → H' b = some o
theorem But.refl (s : Addr) (H : Hp) : But s H H := fun _ _ _ e => e
theorem But.trans {s : Addr} {H H1 H2 : Hp} (a : But s H H1) (b : But s H1 H2) : But s H H2 := fun c o hc e => b c o hc (a c o hc e)
theorem But.of {s : Addr} {H H' : Hp} (a : Same H H') : But s H H' := fun b o _ e => a b o e
theorem But.put {s : Addr} {H : Hp} {o : HO} : But s H (upd H s o) := fun b u hb e => by rw [upd_ne hb]; exact e
/-! ### what a value is -/
mutual
inductive Im (K : PySem.W.Frag) (G : Addr → Prop) (H : Hp) : V → PyData → Prop
  | non : Im K G H .non .none
  | bl (b : Bool) : Im K G H (.bl b) (.bool b)
  | int (i : Int) : Im K G H (.int i) (.int i)
  | str (x : Str) : Im K G H (.str x) (.str x)
  | lst {a : Addr} {xs : List V} {ds : List PyData} : G a → H a = some (.lst xs) → ImAll K G H xs ds → Im K G H (.ref a) (.list ds)
  | tup {a : Addr} {xs : List V} {ds : List PyData} : G a → H a = some (.tup xs) → ImAll K G H xs ds → Im K G H (.ref a) (.tuple ds)
inductive ImAll (K : PySem.W.Frag) (G : Addr → Prop) (H : Hp) : List V → List PyData → Prop
  | nil : ImAll K G H [] []
  | cons {v : V} {vs : List V} {d : PyData} {ds : List PyData} : Im K G H v d → ImAll K G H vs ds → ImAll K G H (v :: vs) (d :: ds)
end
section
variable {K : PySem.W.Frag} {G G' : Addr → Prop} {H H' : Hp}
mutual
theorem Im.mono (hH : ∀ b o, G b → H b = some o → H' b = some o) (hG : ∀ b, G b → G' b) : ∀ (d : PyData) (v : V), Im K G H v d → Im K G' H' v d
  | .none, _, h => by cases h; exact .non
  | .bool b, _, h => by cases h; exact .bl b
  | .int i, _, h => by cases h; exact .int i
  | .str x, _, h => by cases h; exact .str x
  | .list ds, _, h => by
    cases h with
    | lst g e ha => exact .lst (hG _ g) (hH _ _ g e) (Im.monoAll hH hG ds _ ha)
  | .tuple ds, _, h => by
    cases h with
    | tup g e ha => exact .tup (hG _ g) (hH _ _ g e) (Im.monoAll hH hG ds _ ha)
  | .dict _, _, h => by cases h
theorem Im.monoAll (hH : ∀ b o, G b → H b = some o → H' b = some o) (hG : ∀ b, G b → G' b) : ∀ (ds : List PyData) (vs : List V), ImAll K G H vs ds → ImAll K G' H' vs ds
  | [], _, h => by cases h; exact .nil
  | d :: ds, _, h => by
    cases h with
    | cons h1 h2 => exact .cons (Im.mono hH hG d _ h1) (Im.monoAll hH hG ds _ h2)
end
mutual
theorem Im.dp : ∀ (d : PyData) (v : V), Im K G H v d → Dp K H v d
  | .none, _, h => by cases h; exact .non
  | .bool b, _, h => by cases h; exact .bl b
  | .int i, _, h => by cases h; exact .int i
  | .str x, _, h => by cases h; exact .str x
  | .list ds, _, h => by
    cases h with
    | lst g e ha => exact .lst (SqL.of e) (Im.dpAll ds _ ha)
  | .tuple ds, _, h => by
    cases h with
    | tup g e ha => exact .tup (SqT.of e) (Im.dpAll ds _ ha)
  | .dict _, _, h => by cases h
theorem Im.dpAll : ∀ (ds : List PyData) (vs : List V), ImAll K G H vs ds → DpAll K H vs ds
  | [], _, h => by cases h; exact .nil
  | d :: ds, _, h => by
    cases h with
    | cons h1 h2 => exact .cons (Im.dp d _ h1) (Im.dpAll ds _ h2)
end
theorem ImAll.len : ∀ {vs : List V} {ds : List PyData}, ImAll K G H vs ds → vs.length = ds.length
  | _, _, .nil => rfl
  | _, _, .cons _ t => congrArg (· + 1) (ImAll.len t)
theorem ImAll.get : ∀ {vs : List V} {ds : List PyData} {i : Nat} {d : PyData}, ImAll K G H vs ds → ds[i]? = some d → ∃ v, vs[i]? = some v ∧ Im K G H v d
  | _, _, _, _, .nil, e => by simp at e
  | _, _, 0, _, .cons r _, e => by simp at e; subst e; exact ⟨_, rfl, r⟩
  | _, _, i + 1, _, .cons _ t, e => by
    obtain ⟨u, h1, h2⟩ := ImAll.get (i := i) t (by simpa using e)
    exact ⟨u, by simpa using h1, h2⟩
theorem ImAll.getV : ∀ {vs : List V} {ds : List PyData} {i : Nat} {v : V}, ImAll K G H vs ds → vs[i]? = some v → ∃ d, ds[i]? = some d ∧ Im K G H v d
  | _, _, _, _, .nil, e => by simp at e
  | _, _, 0, _, .cons r _, e => by simp at e; subst e; exact ⟨_, rfl, r⟩
  | _, _, i + 1, _, .cons _ t, e => by
    obtain ⟨u, h1, h2⟩ := ImAll.getV (i := i) t (by simpa using e)
    exact ⟨u, by simpa using h1, h2⟩
theorem ImAll.snoc : ∀ {vs : List V} {ds : List PyData} {v : V} {d : PyData}, ImAll K G H vs ds → Im K G H v d → ImAll K G H (vs ++ [v]) (ds ++ [d])
  | _, _, _, _, .nil, r => .cons r .nil
  | _, _, _, _, .cons q t, r => .cons q (ImAll.snoc t r)
theorem ImAll.app : ∀ {vs : List V} {ds : List PyData} {us : List V} {es : List PyData}, ImAll K G H vs ds → ImAll K G H us es → ImAll K G H (vs ++ us) (ds ++ es)
  | _, _, _, _, .nil, r => r
  | _, _, _, _, .cons q t, r => .cons q (ImAll.app t r)
end
section
variable {K : PySem.W.Frag} {H : Hp}
theorem DpAll.len : ∀ {vs : List V} {ds : List PyData}, DpAll K H vs ds → vs.length = ds.length
  | _, _, .nil => rfl
  | _, _, .cons _ t => congrArg (· + 1) (DpAll.len t)
theorem DpAll.get : ∀ {vs : List V} {ds : List PyData} {i : Nat} {d : PyData}, DpAll K H vs ds → ds[i]? = some d → ∃ v, vs[i]? = some v ∧ Dp K H v d
  | _, _, _, _, .nil, e => by simp at e
  | _, _, 0, _, .cons r _, e => by simp at e; subst e; exact ⟨_, rfl, r⟩
  | _, _, i + 1, _, .cons _ t, e => by
    obtain ⟨u, h1, h2⟩ := DpAll.get (i := i) t (by simpa using e)
    exact ⟨u, by simpa using h1, h2⟩
/-- the name of a value's class -/
def tyN : PyData → String
  | .none => "NoneType" | .bool _ => "bool" | .int _ => "int" | .str _ => "str" | .list _ => "list" | .tuple _ => "tuple" | .dict _ => "dict"
theorem tyx_of : ∀ {x : V} {d : PyData}, Dp K H x d → TyX K H x (.type (tyN d))
  | _, _, .non => .base .non
  | _, _, .bl b => .base (.bl b)
  | _, _, .int i => .base (.int i)
  | _, _, .str x => .base (.str x)
  | _, _, .lst h _ => by
    rcases h with (h | ⟨o, h⟩) | ⟨o, its, n, hk, hc, _⟩
    · exact .base (.lst h)
    · exact .base (.frz h)
    · exact .kList hk hc
  | _, _, .tup h _ => by
    rcases h with (h | ⟨o, h⟩) | ⟨o, its, n, hk, hc, _⟩
    · exact .base (.tup h)
    · exact .fTuple h
    · exact .kTuple hk hc
def isI : PyData → Bool
  | .int _ => true | .bool _ => true | _ => false
def isB : PyData → Bool
  | .bool _ => true | _ => false
def isS : PyData → Bool
  | .str _ => true | _ => false
def isT : PyData → Bool
  | .tuple _ => true | _ => false
def isL : PyData → Bool
  | .list _ => true | _ => false
theorem kitI (d : PyData) : kitB (tyN d) "int" = some (isI d) := by cases d <;> (show kitB _ "int" = _; simp only [tyN, isI]; decide +kernel)
theorem kitBo (d : PyData) : kitB (tyN d) "bool" = some (isB d) := by cases d <;> (show kitB _ "bool" = _; simp only [tyN, isB]; decide +kernel)
theorem kitS (d : PyData) : kitB (tyN d) "str" = some (isS d) := by cases d <;> (show kitB _ "str" = _; simp only [tyN, isS]; decide +kernel)
theorem kitT (d : PyData) : kitB (tyN d) "tuple" = some (isT d) := by cases d <;> (show kitB _ "tuple" = _; simp only [tyN, isT]; decide +kernel)
theorem kitL (d : PyData) : kitB (tyN d) "list" = some (isL d) := by cases d <;> (show kitB _ "list" = _; simp only [tyN, isL]; decide +kernel)
theorem isi_int {x : V} {d : PyData} {Q : VK} (h : Dp K H x d) (q : Q (.bl (isI d)) H) : rIsi K [x, .ty "int"] H Q := ⟨x, .ty "int", _, _, _, rfl, .ty _, tyx_of h, kit_ty (kitI d), q⟩
theorem isi_bool {x : V} {d : PyData} {Q : VK} (h : Dp K H x d) (q : Q (.bl (isB d)) H) : rIsi K [x, .ty "bool"] H Q := ⟨x, .ty "bool", _, _, _, rfl, .ty _, tyx_of h, kit_ty (kitBo d), q⟩
theorem isi_str {x : V} {d : PyData} {Q : VK} (h : Dp K H x d) (q : Q (.bl (isS d)) H) : rIsi K [x, .ty "str"] H Q := ⟨x, .ty "str", _, _, _, rfl, .ty _, tyx_of h, kit_ty (kitS d), q⟩
theorem isi_tup {x : V} {d : PyData} {Q : VK} (h : Dp K H x d) (q : Q (.bl (isT d)) H) : rIsi K [x, .ty "tuple"] H Q := ⟨x, .ty "tuple", _, _, _, rfl, .ty _, tyx_of h, kit_ty (kitT d), q⟩
theorem isi_list {x : V} {d : PyData} {Q : VK} (h : Dp K H x d) (q : Q (.bl (isL d)) H) : rIsi K [x, .ty "list"] H Q := ⟨x, .ty "list", _, _, _, rfl, .ty _, tyx_of h, kit_ty (kitL d), q⟩
end
/-! ### the stream of draws -/
structure Stm (H : Hp) (s l : Addr) : Prop where
  ex : ∃ (a b m : Int) (ns : List Int), H s = some (.lst [.ref l, .int a, .int b, .int m]) ∧ H l = some (.lst (ns.map V.int)) ∧ ns.length ≤ 63 ∧ 0 ≤ a ∧ 0 ≤ b ∧ 0 ≤ m ∧ m < 2147483647
theorem Stm.keep {H H' : Hp} {s l : Addr} (h : Stm H s l) (e : Same H H') : Stm H' s l := by
  obtain ⟨a, b, m, ns, h1, h2, r⟩ := h.ex
  exact ⟨a, b, m, ns, e _ _ h1, e _ _ h2, r⟩
/-- another object is changed -/
theorem Stm.put {H : Hp} {s l r : Addr} {o : HO} (h : Stm H s l) (h1 : s ≠ r) (h2 : l ≠ r) : Stm (upd H r o) s l := by
  obtain ⟨a, b, m, ns, e1, e2, q⟩ := h.ex
  exact ⟨a, b, m, ns, by rw [upd_ne h1]; exact e1, by rw [upd_ne h2]; exact e2, q⟩
theorem Stm.at_s {H : Hp} {s l : Addr} (h : Stm H s l) : ∃ o, H s = some o := by
  obtain ⟨a, b, m, ns, e1, e2, q⟩ := h.ex
  exact ⟨_, e1⟩
theorem Stm.at_l {H : Hp} {s l : Addr} (h : Stm H s l) : ∃ o, H l = some o := by
  obtain ⟨a, b, m, ns, e1, e2, q⟩ := h.ex
  exact ⟨_, e2⟩
/-- a constant of the module -/
def GV (mg : Str → Option Value) (x : Str) (v : V) : Prop := ∃ u, mg x = some u ∧ RelV v u
theorem pe_gC {X : Cx} {x : Str} {v : V} {pos : Pos} (hg : Gl X x) (h : GV X.mg x v) (hd : (x == ("__debug__" : Str)) = false := by decide) : PE X (.Name x pos) (tC v) := by
  obtain ⟨u, e, r⟩ := h
  exact pe_glob hg e r hd

/-! ### 'a' * 40 -/
section
variable {X : Cx}
theorem op_mulS : OpR X (binaryOp .Mult) (fun x y H Q => ∃ z i, x = .str z ∧ y = .int i ∧ MulOk z i ∧ Q (.str (Txt.mul z i)) H) := by
  intro pins s σ H x y v u Q I rx ry h
  obtain ⟨z, i, rfl, rfl, hk, q⟩ := h
  obtain ⟨t, rfl⟩ := rx
  obtain ⟨t', rfl⟩ := ry
  exact SB.mul hk fun t2 k => ⟨.str _, H, I.tok k, ⟨_, rfl⟩, q⟩
end
/-! ### data written out: each part of it is new -/
section
variable {K : PySem.W.Frag}
/-- an expression that makes data and changes nothing else -/
def Lit (K : PySem.W.Frag) (σ : L2.St) (t : TE) (d : PyData) : Prop := ∀ (H : Hp) (Q : VK), (∀ v H', Same H H' → Im K (fun b => H b = Option.none) H' v d → Q v H') → t σ H Q
def LitA (K : PySem.W.Frag) (σ : L2.St) (t : TA) (ds : List PyData) : Prop := ∀ (H : Hp) (Q : List V → Hp → Prop), (∀ vs H', Same H H' → ImAll K (fun b => H b = Option.none) H' vs ds → Q vs H') → t σ H Q
variable {σ : L2.St}
theorem lit_int {i : Int} : Lit K σ (tC (.int i)) (.int i) := fun H Q h => h _ H (Same.refl H) (.int i)
theorem lit_str {x : Str} : Lit K σ (tC (.str x)) (.str x) := fun H Q h => h _ H (Same.refl H) (.str x)
theorem lit_bl {b : Bool} : Lit K σ (tC (.bl b)) (.bool b) := fun H Q h => h _ H (Same.refl H) (.bl b)
theorem lit_non : Lit K σ (tC .non) .none := fun H Q h => h _ H (Same.refl H) .non
theorem litA_nil : LitA K σ tNil [] := fun H Q h => h _ H (Same.refl H) .nil
theorem litA_cons {t : TE} {ta : TA} {d : PyData} {ds : List PyData} (h1 : Lit K σ t d) (h2 : LitA K σ ta ds) : LitA K σ (tCons t ta) (d :: ds) := fun H Q h =>
  h1 H _ fun v H1 s1 i1 => h2 H1 _ fun vs H2 s2 i2 => h _ H2 (s1.trans s2) (.cons (Im.mono (fun b o _ e => s2 b o e) (fun _ e => e) _ _ i1) (Im.monoAll (fun _ _ _ e => e) (fun b e => s1.free e) _ _ i2))
theorem lit_tup {ta : TA} {ds : List PyData} (h1 : LitA K σ ta ds) (hz : ds.length ≤ sizeLine) : Lit K σ (tTup ta) (.tuple ds) := fun H Q h =>
  h1 H _ fun vs H1 s1 i1 => ⟨by rw [i1.len]; exact hz, fun p np => h _ _ (s1.trans (same_upd np)) (.tup (s1.free np) upd_same (Im.monoAll (fun b o _ e => same_upd np b o e) (fun _ e => e) _ _ i1))⟩
theorem lit_lst {ta : TA} {ds : List PyData} (h1 : LitA K σ ta ds) (hz : ds.length ≤ sizeLine) : Lit K σ (tLst ta) (.list ds) := fun H Q h =>
  h1 H _ fun vs H1 s1 i1 => ⟨by rw [i1.len]; exact hz, fun p np => h _ _ (s1.trans (same_upd np)) (.lst (s1.free np) upd_same (Im.monoAll (fun b o _ e => same_upd np b o e) (fun _ e => e) _ _ i1))⟩
/-- what is an int -/
theorem lit_neg {t : TE} {i : Int} (h1 : Lit K σ t (.int i)) : Lit K σ (tUn (rU fun i => .int (-i)) t) (.int (-i)) := fun H Q h =>
  h1 H _ fun v H1 s1 i1 => by
    cases i1
    exact ⟨_, rfl, h _ H1 s1 (.int _)⟩
theorem lit_sub {t u : TE} {i j : Int} (h1 : Lit K σ t (.int i)) (h2 : Lit K σ u (.int j)) : Lit K σ (tOp (rI0 fun i j => .int (i - j)) t u) (.int (i - j)) := fun H Q h =>
  h1 H _ fun v H1 s1 i1 => h2 H1 _ fun v2 H2 s2 i2 => by
    cases i1
    cases i2
    exact ⟨_, _, rfl, rfl, h _ H2 (s1.trans s2) (.int _)⟩
theorem lit_pow {t u : TE} {i j : Int} (h1 : Lit K σ t (.int i)) (h2 : Lit K σ u (.int j)) (hc : CPow i j) : Lit K σ (tOp (rI CPow fun i j => .int (i ^ j.toNat)) t u) (.int (i ^ j.toNat)) := fun H Q h =>
  h1 H _ fun v H1 s1 i1 => h2 H1 _ fun v2 H2 s2 i2 => by
    cases i1
    cases i2
    exact ⟨_, _, rfl, rfl, hc, h _ H2 (s1.trans s2) (.int _)⟩
theorem lit_mulS {t u : TE} {z : Str} {j : Int} (h1 : Lit K σ t (.str z)) (h2 : Lit K σ u (.int j)) (hc : MulOk z j) : Lit K σ (tOp (fun x y H Q => ∃ z i, x = .str z ∧ y = .int i ∧ MulOk z i ∧ Q (.str (Txt.mul z i)) H) t u) (.str (Txt.mul z j)) := fun H Q h =>
  h1 H _ fun v H1 s1 i1 => h2 H1 _ fun v2 H2 s2 i2 => by
    cases i1
    cases i2
    exact ⟨_, _, rfl, rfl, hc, h _ H2 (s1.trans s2) (.str _)⟩
end
section
variable {X : Cx} {pos : Pos}
/-- a built-in class as a value -/
theorem pe_ty {x : Str} (n : String) (hg : Gl X x) (hm : X.mg x = Option.none) (hv : bootBuiltins x = some (.type n)) (hn : x ≠ "__name__" := by decide) (hd : (x == ("__debug__" : Str)) = false := by decide) : PE X (.Name x pos) (tC (.ty n)) :=
  pe_bltn hg hm hv rfl hn hd
end
section
variable {K : PySem.W.Frag} {H H' : Hp}
theorem same_sqT {a : Addr} {xs : List V} (e : Same H H') (h : SqT K H a xs) : SqT K H' a xs := by
  rcases h with (h | ⟨o, h⟩) | h
  · exact .inl (.inl (e _ _ h))
  · exact .inl (.inr ⟨o, e _ _ h⟩)
  · exact .inr h
mutual
theorem dp_same (e : Same H H') : ∀ (d : PyData) (v : V), Dp K H v d → Dp K H' v d
  | .none, _, h => by cases h; exact .non
  | .bool b, _, h => by cases h; exact .bl b
  | .int i, _, h => by cases h; exact .int i
  | .str x, _, h => by cases h; exact .str x
  | .list ds, _, h => by
    cases h with
    | lst g ha => exact .lst (e.seq g) (dp_sameAll e ds _ ha)
  | .tuple ds, _, h => by
    cases h with
    | tup g ha => exact .tup (same_sqT e g) (dp_sameAll e ds _ ha)
  | .dict _, _, h => by cases h
theorem dp_sameAll (e : Same H H') : ∀ (ds : List PyData) (vs : List V), DpAll K H vs ds → DpAll K H' vs ds
  | [], _, h => by cases h; exact .nil
  | d :: ds, _, h => by
    cases h with
    | cons h1 h2 => exact .cons (dp_same e d _ h1) (dp_sameAll e ds _ h2)
end
end
theorem small_of {n : Nat} (h : n ≤ 1000) : n ≤ sizeLine := Nat.le_of_lt (small1000 h)
theorem seq_asg {te : TE} {g : TG} {u : TS} {D : Ends} {σ : L2.St} {H : Hp} (h : te σ H fun x H1 => g x σ H1 (u D)) : tSeq (tAsg te g) u D σ H := h
theorem gname {i : Nat} {v : V} {σ : L2.St} {H : Hp} {Q : L2.St → Hp → Prop} (h : Q (σ.set i (some v)) H) : gName i v σ H Q := h
theorem nxp {N : L2.St → Hp → Prop} {R : VK} {B C : L2.St → Hp → Prop} {σ : L2.St} {H : Hp} (h : N σ H) : ({ nx := N, rt := R, bk := B, ct := C } : Ends).nx σ H := h
theorem seq_if {c : TT} {t t2 : TS} {u : TS} {D : Ends} {σ : L2.St} {H : Hp} (h : c σ H fun b H1 => if b = true then t { D with nx := u D } σ H1 else t2 { D with nx := u D } σ H1) : tSeq (tIfS c t t2) u D σ H := h
theorem seq_ifN {c : TT} {t : TS} {u : TS} {D : Ends} {σ : L2.St} {H : Hp} (h : c σ H fun b H1 => if b = true then t { D with nx := u D } σ H1 else u D σ H1) : tSeq (tIfS c t tNext) u D σ H := h
theorem seq_any {t : TS} {u : TS} {D : Ends} {σ : L2.St} {H : Hp} (h : t { D with nx := u D } σ H) : tSeq t u D σ H := h
theorem asg1 {te : TE} {g : TG} {D : Ends} {σ : L2.St} {H : Hp} (h : te σ H fun x H1 => g x σ H1 D.nx) : tAsg te g D σ H := h
section
variable {K : PySem.W.Frag} {G G' : Addr → Prop} {H H' : Hp}
mutual
theorem Im.mono2 (hH : ∀ b o, G b → H b = some o → H' b = some o) (hG : ∀ b o, H b = some o → G b → G' b) : ∀ (d : PyData) (v : V), Im K G H v d → Im K G' H' v d
  | .none, _, h => by cases h; exact .non
  | .bool b, _, h => by cases h; exact .bl b
  | .int i, _, h => by cases h; exact .int i
  | .str x, _, h => by cases h; exact .str x
  | .list ds, _, h => by
    cases h with
    | lst g e ha => exact .lst (hG _ _ e g) (hH _ _ g e) (Im.mono2All hH hG ds _ ha)
  | .tuple ds, _, h => by
    cases h with
    | tup g e ha => exact .tup (hG _ _ e g) (hH _ _ g e) (Im.mono2All hH hG ds _ ha)
  | .dict _, _, h => by cases h
theorem Im.mono2All (hH : ∀ b o, G b → H b = some o → H' b = some o) (hG : ∀ b o, H b = some o → G b → G' b) : ∀ (ds : List PyData) (vs : List V), ImAll K G H vs ds → ImAll K G' H' vs ds
  | [], _, h => by cases h; exact .nil
  | d :: ds, _, h => by
    cases h with
    | cons h1 h2 => exact .cons (Im.mono2 hH hG d _ h1) (Im.mono2All hH hG ds _ h2)
end
end
theorem join_set {c : Prop} [Decidable c] {v : V} {i : Nat} {u : TS} {D : Ends} {σ : L2.St} {H : Hp} (P : L2.St → Prop) (h : ∀ σ2, P σ2 → u D σ2 H) (h1 : c → P (σ.set i (some v))) (h2 : ¬ c → P σ) :
    if c then tAsg (tC v) (gName i) { D with nx := u D } σ H else u D σ H := by
  by_cases hc : c
  · rw [if_pos hc]
    exact h _ (h1 hc)
  · rw [if_neg hc]
    exact h _ (h2 hc)
/-- a constant tuple of the module, by its data -/
def GC (K : PySem.W.Frag) (mg : Str → Option Value) (x : Str) (d : PyData) : Prop := ∃ (u : Value) (v : V), mg x = some u ∧ RelV v u ∧ Dp K (fun _ => Option.none) v d
theorem none_same (H : Hp) : Same (fun _ => Option.none) H := fun _ _ e => nomatch e
theorem kt_of {K : PySem.W.Frag} {a : Addr} {its : Array Value} {n : Nat} {dd : Option Addr} {sl : Array (Option Value)} {xs : List V} {ds : List PyData} (h : K.lookup a = some ⟨.type "tuple", dd, .seq its n, sl⟩) (hz : its.size ≤ 1000) (hv : Vals xs its.toList) (ha : DpAll K (fun _ => Option.none) xs ds) :
    Dp K (fun _ => Option.none) (.ref a) (.tuple ds) := .tup (.inr ⟨_, its, n, h, rfl, rfl, Nat.le_trans hz (by decide), hv⟩) ha
/-! ### list.extend(tuple) -/
section
open Builtin
theorem extT (l b : Addr) (xs ys : Array Value) (n k : Nat) (dd : Option Addr) (sl : Array (Option Value)) (hlong : ¬(!xs.isEmpty && Builtin.List.listTooLong (xs.size + ys.size)) = true) (h1 : xs.size ≤ sizeLine) (h2 : xs.size + ys.size ≤ sizeLine + 1) :
    Meets (Builtin.«list.extend» ⟨[.ref l, .ref b], []⟩) (fun _ R s => s.heap.get? l = some { cls := .type "list", dict := none, data := .seq xs n, slots := #[] } ∧ s.heap.get? b = some { cls := .type "tuple", dict := dd, data := .seq ys k, slots := sl } ∧ R (.ok (.ret Value.none)) { s with heap := s.heap.update l (Obj.mapSeq fun x => x ++ ys), toks := s.toks }) := by
  refine .of_wp fun prog w A R s h => ?_
  obtain ⟨hp, g, d, tk, os⟩ := s
  obtain ⟨ea, eb, q⟩ := h
  have i1 := AutoSeq1.idx_int
  have i2 := AutoSeq1.sub_tuple_tuple
  have i3 := AutoSeq1.sub_list_list
  have i4 := AutoSeq1.sub_tuple_list
  have i5 := AutoSeq1.sub_list_tuple
  have hz : (xs ++ ys).size ≤ sizeLine + 1 := by rw [Array.size_append]; exact h2
  wp_walk using (wpAny_updateSeq ea rfl (hz := h1) (_hz' := hz)), AutoSeq1.wpAny_loadPart' ea, AutoSeq1.wpAny_loadPart' eb
  exact ⟨_, rfl, q⟩
end
section
variable {X : Cx}
def rExtT (K : PySem.W.Frag) : V → List V → Hp → VK → Prop := fun x vs H Q => ∃ l b xs zs, x = .ref l ∧ vs = [.ref b] ∧ H l = some (.lst xs) ∧ SqT K H b zs ∧ xs.length + zs.length ≤ sizeLine ∧ Q .non (upd H l (.lst (xs ++ zs)))
theorem mt_extT : MtR X "list.extend" (rExtT X.K) := by
  intro pins s σ H x vs v us Q I rx rv h
  obtain ⟨l, b, xs, zs, rfl, rfl, hH, hB, hz, q⟩ := h
  cases rx
  obtain ⟨u, rfl, ru⟩ := rv.one
  cases ru
  obtain ⟨z, its, n, r, hl, e⟩ := I.lstM hH
  obtain ⟨its2, r2, ⟨⟨oc, od, dt, sl⟩, e2, ec, k2, ed⟩, _⟩ := I.tuple hB
  simp only at ec ed
  subst ec ed
  have z1 := r.length
  have z2 := r2.length
  have hsz : its.toArray.size + its2.toArray.size ≤ sizeLine := by rw [List.size_toArray, List.size_toArray]; omega
  have nl : ¬ (!its.toArray.isEmpty && Builtin.List.listTooLong (its.toArray.size + its2.toArray.size)) = true := by
    rw [notLongL hsz, Bool.and_false]
    exact Bool.false_ne_true
  refine call_meets F.slot_list_extend ⟨_, e, rfl⟩ F.entry_list_extend (F.args_list_extend_2 _ _) (extT l b its.toArray its2.toArray n k2 od sl nl (by rw [List.size_toArray]; omega) (by omega)) ⟨e, e2, ?_⟩
  refine ⟨.non, _, I.lset (its' := its ++ its2) hH e (by simp) (r.append r2) ?_, rfl, q⟩
  rw [List.length_append]
  omega
/-! ### x in (a, b, ..), data of any depth -/
def rInT (K : PySem.W.Frag) : R2 := fun x y H Q => ∃ d ds, Dp K H x d ∧ Dp K H y (.tuple ds) ∧ SeqAt.shaped d = true ∧ SeqAt.shaped (.tuple ds) = true ∧ Q (.bl (ds.any fun z => PyData.eqv z d)) H
def rNotInT (K : PySem.W.Frag) : R2 := fun x y H Q => ∃ d ds, Dp K H x d ∧ Dp K H y (.tuple ds) ∧ SeqAt.shaped d = true ∧ SeqAt.shaped (.tuple ds) = true ∧ Q (.bl (!ds.any fun z => PyData.eqv z d)) H
theorem op_inT (hu : X.A.units + 65 < cLine) : OpR X (compareOp .In) (rInT X.K) := by
  intro pins s σ H x y v u Q I rx ry h
  obtain ⟨d, ds, hd, he, sd, se, q⟩ := h
  obtain ⟨as, r1⟩ := Dp.reads I d x v hd rx
  obtain ⟨bs, r2⟩ := Dp.reads I (.tuple ds) y u he ry
  exact SeqAt.in_tuple_reads r2 r1 (SeqAt.canLay_of_shaped se) (SeqAt.canLay_of_shaped sd) (room_in_shaped sd hu) ⟨.bl _, H, I, rfl, q⟩
theorem op_notInT (hu : X.A.units + 65 < cLine) : OpR X (compareOp .NotIn) (rNotInT X.K) := by
  intro pins s σ H x y v u Q I rx ry h
  obtain ⟨d, ds, hd, he, sd, se, q⟩ := h
  obtain ⟨as, r1⟩ := Dp.reads I d x v hd rx
  obtain ⟨bs, r2⟩ := Dp.reads I (.tuple ds) y u he ry
  exact SeqAt.notIn_tuple_reads r2 r1 (SeqAt.canLay_of_shaped se) (SeqAt.canLay_of_shaped sd) (room_in_shaped sd hu) ⟨.bl _, H, I, rfl, q⟩
theorem units65 {k : Nat} {A : Around} (r : Room k A) : A.units + 65 < cLine := by
  have := r.un
  omega
end
section
variable {K : PySem.W.Frag} {H : Hp}
theorem DpAll.dropt : ∀ {xs : List V} {ds : List PyData} (n : Nat), DpAll K H xs ds → DpAll K H (xs.drop n) (ds.drop n)
  | _, _, 0, r => r
  | _, _, _ + 1, .nil => .nil
  | _, _, n + 1, .cons _ t => DpAll.dropt n t
theorem DpAll.taket : ∀ {xs : List V} {ds : List PyData} (n : Nat), DpAll K H xs ds → DpAll K H (xs.take n) (ds.take n)
  | _, _, 0, _ => .nil
  | _, _, _ + 1, .nil => .nil
  | _, _, n + 1, .cons r t => .cons r (DpAll.taket n t)
theorem DpAll.app : ∀ {xs ys : List V} {ds es : List PyData}, DpAll K H xs ds → DpAll K H ys es → DpAll K H (xs ++ ys) (ds ++ es)
  | _, _, _, _, .nil, r => r
  | _, _, _, _, .cons q t, r => .cons q (DpAll.app t r)
theorem DpAll.getV : ∀ {vs : List V} {ds : List PyData} {i : Nat} {v : V}, DpAll K H vs ds → vs[i]? = some v → ∃ d, ds[i]? = some d ∧ Dp K H v d
  | _, _, _, _, .nil, e => by simp at e
  | _, _, 0, _, .cons r _, e => by simp at e; subst e; exact ⟨_, rfl, r⟩
  | _, _, i + 1, _, .cons _ t, e => by
    obtain ⟨u, h1, h2⟩ := DpAll.getV (i := i) t (by simpa using e)
    exact ⟨u, by simpa using h1, h2⟩
end
/-- a part of a tuple, also the whole -/
theorem cut_nat (xs : List V) (i j : Nat) (h1 : i ≤ xs.length) (h2 : j ≤ xs.length) : cutV xs (some (i : Int)) (some (j : Int)) = (xs.drop i).take (j - i) := by
  unfold cutV
  rw [HT.sIx_nat, HT.sIx_nat, Nat.min_eq_left h1, Nat.min_eq_left h2]
theorem slA_nat {K : PySem.W.Frag} {H : Hp} {a : Addr} {xs : List V} {i j : Nat} {Q : VK} (hs : SqT K H a xs) (h1 : i ≤ xs.length) (h2 : j ≤ xs.length) (h : ∀ b H', Same H H' → SqT K H' b ((xs.drop i).take (j - i)) → (∀ c, H c = Option.none → c ≠ b → H' c = Option.none) → Q (.ref b) H') :
    rSlA K (.ref a) (some (i : Int)) (some (j : Int)) H Q := by
  refine ⟨a, xs, rfl, hs, fun z => ?_, fun z p np => ?_⟩
  · rw [HT.sIx_nat, HT.sIx_nat, Nat.min_eq_left h1, Nat.min_eq_left h2] at z
    refine h a H (Same.refl H) ?_ fun _ e _ => e
    rw [z.1, z.2, List.drop_zero, Nat.sub_zero, List.take_length]
    exact hs
  · rw [cut_nat xs i j h1 h2]
    exact h p _ (same_upd np) (SqT.of upd_same) fun c e hc => by rw [upd_ne hc]; exact e
theorem cat_dp {K : PySem.W.Frag} {H : Hp} {x y : V} {ds es : List PyData} {Q : VK} (hx : Dp K H x (.tuple ds)) (hy : Dp K H y (.tuple es)) (hne : ds ≠ []) (hz : ds.length + es.length ≤ 1000) (h : ∀ v H', Same H H' → Dp K H' v (.tuple (ds ++ es)) → Q v H') : rCatT K x y H Q := by
  cases hx with
  | @tup a xs _ sx ax =>
  cases hy with
  | @tup b ys _ sy ay =>
  have lx := DpAll.len ax
  have ly := DpAll.len ay
  refine ⟨a, b, xs, ys, rfl, rfl, sx, sy, fun z => ?_, small_of (by omega), fun z => ?_, fun z p np => ?_⟩
  · rw [z] at lx
    exact hne (List.eq_nil_of_length_eq_zero lx.symm)
  · subst z
    cases ay
    rw [List.append_nil] at h
    exact h _ H (Same.refl H) (.tup sx ax)
  · exact h _ _ (same_upd np) (.tup (SqT.of upd_same) (dp_sameAll (same_upd np) _ _ (DpAll.app ax ay)))
theorem cut_from1 (v : V) (xs : List V) : cutV (v :: xs) (some 1) Option.none = xs := by
  unfold cutV
  rw [show (some (1 : Int)) = some ((1 : Nat) : Int) from rfl, HT.sIx_nat, HT.sIx_none, List.length_cons, Nat.min_eq_left (by omega), List.drop_succ_cons, List.drop_zero, Nat.add_sub_cancel]
  exact List.take_length
section
variable {σ : L2.St} {H : Hp}
theorem args1 {t : TE} {ta : TA} {Q : List V → Hp → Prop} (h : t σ H fun x H1 => ta σ H1 fun xs H2 => Q (x :: xs) H2) : tCons t ta σ H Q := h
theorem tup_of {ta : TA} {Q : VK} (h : ta σ H fun xs H1 => xs.length ≤ sizeLine ∧ ∀ p, H1 p = Option.none → Q (.ref p) (upd H1 p (.tup xs))) : tTup ta σ H Q := h
theorem const_of {v : V} {Q : VK} (h : Q v H) : tC v σ H Q := h
theorem op_of {r : R2} {ta tb : TE} {Q : VK} (h : ta σ H fun x H1 => tb σ H1 fun y H2 => r x y H2 Q) : tOp r ta tb σ H Q := h
theorem nil_of {Q : List V → Hp → Prop} (h : Q [] H) : tNil σ H Q := h
end
section
variable {σ : L2.St} {H : Hp}
theorem call_of {sp : Sp} {dvs : List V} {E : XK} {t : TA} {Q : VK} (h : t σ H fun vs H1 => sp (vs ++ dvs) H1 Q E) : tCall sp dvs E t σ H Q := h
theorem args_and {r : R2} {sp : Sp} {dvs : List V} {E : XK} {t : TA} {tb tc : TE} {D : Ends} (h : t σ H fun vs H1 => sp (vs ++ dvs) H1 (fun x H1 => tb σ H1 fun y H2 => r x y H2 fun x H1 => ∃ c, x = .bl c ∧ if c = true then tc σ H1 D.rt else D.rt (.bl false) H1) E) : tRet (tAndV (tOp r (tCall sp dvs E t) tb) tc) D σ H := h
end
theorem relStr (x : Str) (t : Tok) : RelV (.str x) (.str x t) := ⟨_, rfl⟩
theorem relInt (i : Int) (t : Tok) : RelV (.int i) (.int i t) := ⟨_, rfl⟩
theorem relRef (a : Addr) : RelV (.ref a) (.ref a) := rfl
/-! ### a < b of data whose places are alike -/
section
variable {X : Cx}
def rLtD (K : PySem.W.Frag) : R2 := fun x y H Q => ∃ d e, Dp K H x d ∧ Dp K H y e ∧ PySem.W.alike d e = true ∧ d ≠ .none ∧ d.depth ≤ 8 ∧ Q (.bl (PySem.W.dataLt d e)) H
theorem op_ltD (hu : X.A.units + 64 < cLine) : OpR X (compareOp .Lt) (rLtD X.K) := by
  intro pins s σ H x y v u Q I rx ry h
  obtain ⟨d, e, hd, he, ha, hn, hz, q⟩ := h
  obtain ⟨as, r1⟩ := Dp.reads I d x v hd rx
  obtain ⟨bs, r2⟩ := Dp.reads I e y u he ry
  have R := PySem.W.rcLt_alike d e X.A s v u as bs r1 r2 ha hn (Nat.lt_of_le_of_lt (Nat.add_le_add_left (Nat.le_trans (Nat.min_le_left _ _) (Nat.le_trans hz (by decide : 8 ≤ 64))) _) hu)
  have z : wpAny (model X.prog X.w) X.A (compareOp .Lt v u) (EP X pins σ Q) X.xe s := R X.prog X.w X.xe (EP X pins σ Q) ⟨.bl _, H, I, rfl, q⟩
  exact z
end
/-! ### zip of two tuples -/
theorem walk_zipT {K : PySem.W.Frag} {a b : Addr} {xs ys : List V} {n : Nat} (hn : n = min xs.length ys.length) : Walk (RZ.ItzT K a b) n (fun H => SqT K H a xs ∧ SqT K H b ys) (YPair (fun i => xs[i]?) (fun i => ys[i]?)) := by
  subst hn
  refine ⟨fun i H hi q => ?_, fun H q => ⟨xs, ys, q.1, q.2, by omega⟩, fun i H v H' hi q y => ?_⟩
  · have h1 : i < xs.length := by omega
    have h2 : i < ys.length := by omega
    exact ⟨xs, ys, _, _, q.1, q.2, List.getElem?_eq_getElem h1, List.getElem?_eq_getElem h2⟩
  · obtain ⟨T, x, y, e1, e2, e3, e4, e5⟩ := y
    exact ⟨T, x, y, e1, e2, e3, e4 xs q.1, e5 ys q.2⟩
/-! ### () + t -/
section
open Builtin
theorem addE (l b : Addr) (xs ys : Array Value) (n k : Nat) (dd dd2 : Option Addr) (sl sl2 : Array (Option Value)) (he : xs.isEmpty = true) :
    Meets (Builtin.«tuple.__add__» ⟨[.ref l, .ref b], []⟩) (fun _ R s => s.heap.get? l = some { cls := .type "tuple", dict := dd, data := .seq xs n, slots := sl } ∧ s.heap.get? b = some { cls := .type "tuple", dict := dd2, data := .seq ys k, slots := sl2 } ∧ R (.ok (.ret (Value.ref b))) s) := by
  refine .of_wp fun prog w A R s h => ?_
  obtain ⟨hp, g, d, tk, os⟩ := s
  obtain ⟨ea, eb, q⟩ := h
  have i1 := AutoSeq1.idx_int
  have i2 := AutoSeq1.sub_tuple_tuple
  have i3 := AutoSeq1.sub_list_list
  have i4 := AutoSeq1.sub_tuple_list
  have i5 := AutoSeq1.sub_list_tuple
  wp_walk using AutoSeq1.wpAny_loadPart' ea, AutoSeq1.wpAny_loadPart' eb
  exact ⟨_, rfl, q⟩
end
section
variable {X : Cx}
def rCatA (K : PySem.W.Frag) : R2 := fun x y H Q => ∃ a b xs ys, x = .ref a ∧ y = .ref b ∧ SqT K H a xs ∧ SqT K H b ys ∧ xs.length + ys.length ≤ sizeLine ∧ (xs = [] → Q (.ref b) H) ∧ (ys = [] → Q (.ref a) H) ∧ ∀ p, H p = Option.none → Q (.ref p) (upd H p (.tup (xs ++ ys)))
theorem op_catA : OpR X (binaryOp .Add) (rCatA X.K) := by
  intro pins s σ H x y v u Q I rx ry h
  obtain ⟨a, b, xs, ys, rfl, rfl, ha, hb, hz, q1, q2, q3⟩ := h
  by_cases hx : xs = []
  · subst hx
    cases rx
    cases ry
    obtain ⟨its, r1, p1, _⟩ := I.tuple ha
    obtain ⟨its2, r2, p2, _⟩ := I.tuple hb
    cases r1
    obtain ⟨⟨oc, od, dt, sl⟩, e1, c1, n, d1⟩ := p1
    obtain ⟨⟨oc2, od2, dt2, sl2⟩, e2, c2, n2, d2⟩ := p2
    simp only at c1 d1 c2 d2
    subst c1 d1 c2 d2
    exact concat_meets ⟨_, e1, rfl⟩ ⟨_, e2, rfl⟩ noFill_tuple_add seq_tuple_add PySem.F.slot_tuple_add PySem.F.entry_tuple_add (PySem.F.args_tuple_add_2 _ _)
      (addE a b #[] its2.toArray n n2 od od2 sl sl2 rfl) ⟨e1, e2, ⟨.ref b, H, I, rfl, q1 rfl⟩⟩
  · exact op_catT pins s σ H (.ref a) (.ref b) v u Q I rx ry ⟨a, b, xs, ys, rfl, rfl, ha, hb, hx, hz, q2, fun _ p np => q3 p np⟩
end
section
variable {K : PySem.W.Frag} {G : Addr → Prop} {H : Hp}
theorem ImAll.dropt : ∀ {xs : List V} {ds : List PyData} (n : Nat), ImAll K G H xs ds → ImAll K G H (xs.drop n) (ds.drop n)
  | _, _, 0, r => r
  | _, _, _ + 1, .nil => .nil
  | _, _, n + 1, .cons _ t => ImAll.dropt n t
theorem ImAll.taket : ∀ {xs : List V} {ds : List PyData} (n : Nat), ImAll K G H xs ds → ImAll K G H (xs.take n) (ds.take n)
  | _, _, 0, _ => .nil
  | _, _, _ + 1, .nil => .nil
  | _, _, n + 1, .cons r t => .cons r (ImAll.taket n t)
theorem im_new {xs : List V} {ds : List PyData} {p : Addr} (np : H p = Option.none) (ia : ImAll K G H xs ds) : Im K (fun b => G b ∨ H b = Option.none) (upd H p (.tup xs)) (.ref p) (.tuple ds) :=
  .tup (.inr np) upd_same (Im.monoAll (fun b o _ e => same_upd np b o e) (fun _ g => .inl g) _ _ ia)
theorem im_cut {x : V} {ds es : List PyData} {lo hi : Option Int} {Q : VK} (iv : Im K G H x (.tuple ds)) (hc : ∀ xs : List V, ImAll K G H xs ds → ImAll K G H (cutV xs lo hi) es) (h : ∀ v H', Same H H' → (∀ b, G b ∨ H b = Option.none → G b ∨ H b = Option.none) → Im K (fun b => G b ∨ H b = Option.none) H' v (.tuple es) → Q v H') : rSlA K x lo hi H Q := by
  cases iv with
  | @tup a xs _ g e ia =>
  refine ⟨a, xs, rfl, SqT.of e, fun z => ?_, fun z p np => ?_⟩
  · have hw : cutV xs lo hi = xs := by
      unfold cutV
      rw [z.1, z.2, List.drop_zero, Nat.sub_zero, List.take_length]
    have := hc xs ia
    rw [hw] at this
    exact h _ H (Same.refl H) (fun _ q => q) (.tup (.inl g) e (Im.monoAll (fun _ _ _ e => e) (fun _ g => .inl g) _ _ this))
  · exact h _ _ (same_upd np) (fun _ q => q) (im_new np (hc xs ia))
theorem im_take {x : V} {ds : List PyData} {k : Nat} {Q : VK} (iv : Im K G H x (.tuple ds)) (hk : k ≤ ds.length) (h : ∀ v H', Same H H' → Im K (fun b => G b ∨ H b = Option.none) H' v (.tuple (ds.take k)) → Q v H') : rSlA K x Option.none (some (k : Int)) H Q :=
  im_cut iv (fun xs ia => by
    unfold cutV
    rw [HT.sIx_none, HT.sIx_nat, Nat.min_eq_left (by rw [ia.len]; exact hk), List.drop_zero, Nat.sub_zero]
    exact ImAll.taket _ ia) fun v H' s _ i => h v H' s i
theorem im_drop {x : V} {ds : List PyData} {k : Nat} {Q : VK} (iv : Im K G H x (.tuple ds)) (hk : k ≤ ds.length) (h : ∀ v H', Same H H' → Im K (fun b => G b ∨ H b = Option.none) H' v (.tuple (ds.drop k)) → Q v H') : rSlA K x (some (k : Int)) Option.none H Q :=
  im_cut iv (fun xs ia => by
    unfold cutV
    rw [HT.sIx_none, HT.sIx_nat, Nat.min_eq_left (by rw [ia.len]; exact hk), List.take_of_length_le (by rw [List.length_drop]; exact Nat.le_refl _)]
    exact ImAll.dropt _ ia) fun v H' s _ i => h v H' s i
theorem im_cat {x y : V} {ds es : List PyData} {Q : VK} (iv : Im K G H x (.tuple ds)) (iw : Im K G H y (.tuple es)) (hz : ds.length + es.length ≤ 1000) (h : ∀ v H', Same H H' → Im K (fun b => G b ∨ H b = Option.none) H' v (.tuple (ds ++ es)) → Q v H') : rCatA K x y H Q := by
  have w1 := Im.mono (G' := fun b => G b ∨ H b = Option.none) (fun _ _ _ e => e) (fun _ g => .inl g) _ _ iv
  have w2 := Im.mono (G' := fun b => G b ∨ H b = Option.none) (fun _ _ _ e => e) (fun _ g => .inl g) _ _ iw
  cases iv with
  | @tup a xs _ g e ia =>
  cases iw with
  | @tup b ys _ g2 e2 ib =>
  have l1 := ia.len
  have l2 := ib.len
  refine ⟨a, b, xs, ys, rfl, rfl, SqT.of e, SqT.of e2, small_of (by omega), fun z => ?_, fun z => ?_, fun p np => ?_⟩
  · subst z
    cases ia
    exact h _ H (Same.refl H) w2
  · subst z
    cases ib
    rw [List.append_nil] at h
    exact h _ H (Same.refl H) w1
  · exact h _ _ (same_upd np) (im_new np (ImAll.app ia ib))
end
end My

namespace My
open PySem PySem.Spec PyProof.Rows L2
/-! ### the text -/
def topS (i : Nat) : Stmt := PySem.Challenge.pw_hornbook_k55_different_values.main.body.getD i (.Pass ⟨0, 0, 0, 0⟩)
abbrev s_values : Stmt := topS 1
abbrev N_values : List Str := ["given", "low", "high", "value"]
theorem sc_values : FnScope N_values ["given"] (defScope s_values) := ⟨rfl, rfl, rfl, by decide +kernel, rfl, by decide +kernel, by decide +kernel⟩
abbrev s_handed_on : Stmt := topS 3
abbrev N_handed_on : List Str := ["askers", "variable", "value", "found"]
theorem sc_handed_on : FnScope N_handed_on ["askers", "variable", "value"] (defScope s_handed_on) := ⟨rfl, rfl, rfl, by decide +kernel, rfl, by decide +kernel, by decide +kernel⟩
abbrev s_exchange : Stmt := topS 4
abbrev N_exchange : List Str := ["start", "choices", "owners", "askers", "waiting", "variable", "value", "owner"]
theorem sc_exchange : FnScope N_exchange ["start", "choices", "owners"] (defScope s_exchange) := ⟨rfl, rfl, rfl, by decide +kernel, rfl, by decide +kernel, by decide +kernel⟩
abbrev s_match_choices : Stmt := topS 5
abbrev N_match_choices : List Str := ["choices", "owners", "start", "changes", "stuck", "variable", "value", "chosen"]
theorem sc_match_choices : FnScope N_match_choices ["choices"] (defScope s_match_choices) := ⟨rfl, rfl, rfl, by decide +kernel, rfl, by decide +kernel, by decide +kernel⟩
abbrev s_distinct_values : Stmt := topS 6
abbrev N_distinct_values : List Str := ["given", "one"]
theorem sc_distinct_values : FnScope N_distinct_values ["given"] (defScope s_distinct_values) := ⟨rfl, rfl, rfl, by decide +kernel, rfl, by decide +kernel, by decide +kernel⟩
abbrev s__law_stream : Stmt := topS 8
abbrev N__law_stream : List Str := ["script", "mixed", "cell"]
theorem sc__law_stream : FnScope N__law_stream ["script"] (defScope s__law_stream) := ⟨rfl, rfl, rfl, by decide +kernel, rfl, by decide +kernel, by decide +kernel⟩
abbrev s__law_draw : Stmt := topS 9
abbrev N__law_draw : List Str := ["stream", "many", "value"]
theorem sc__law_draw : FnScope N__law_draw ["stream", "many"] (defScope s__law_draw) := ⟨rfl, rfl, rfl, by decide +kernel, rfl, by decide +kernel, by decide +kernel⟩
abbrev s__law_is_integer : Stmt := topS 10
abbrev N__law_is_integer : List Str := ["value"]
theorem sc__law_is_integer : FnScope N__law_is_integer ["value"] (defScope s__law_is_integer) := ⟨rfl, rfl, rfl, by decide +kernel, rfl, by decide +kernel, by decide +kernel⟩
abbrev s__law_domain : Stmt := topS 11
abbrev N__law_domain : List Str := ["given", "found", "value"]
theorem sc__law_domain : FnScope N__law_domain ["given"] (defScope s__law_domain) := ⟨rfl, rfl, rfl, by decide +kernel, rfl, by decide +kernel, by decide +kernel⟩
abbrev s__law_values : Stmt := topS 12
abbrev N__law_values : List Str := ["given", "found", "pair", "value"]
theorem sc__law_values : FnScope N__law_values ["given"] (defScope s__law_values) := ⟨rfl, rfl, rfl, by decide +kernel, rfl, by decide +kernel, by decide +kernel⟩
abbrev s__law_domains : Stmt := topS 13
abbrev N__law_domains : List Str := ["stream", "wide", "found", "k", "size", "j"]
theorem sc__law_domains : FnScope N__law_domains ["stream"] (defScope s__law_domains) := ⟨rfl, rfl, rfl, by decide +kernel, rfl, by decide +kernel, by decide +kernel⟩
abbrev s_law : Stmt := topS 14
abbrev N_law : List Str := ["script", "stream", "given", "kept", "actual", "chosen", "k", "few", "found", "value"]
theorem sc_law : FnScope N_law ["script"] (defScope s_law) := ⟨rfl, rfl, rfl, by decide +kernel, rfl, by decide +kernel, by decide +kernel⟩
/-- names that the top leaves to the built-ins, and its constants -/
structure Bi (K : PySem.W.Frag) (mg : Str → Option Value) : Prop where
  b_abs : mg "abs" = Option.none
  b_bool : mg "bool" = Option.none
  b_int : mg "int" = Option.none
  b_isinstance : mg "isinstance" = Option.none
  b_len : mg "len" = Option.none
  b_list : mg "list" = Option.none
  b_range : mg "range" = Option.none
  b_sorted : mg "sorted" = Option.none
  b_tuple : mg "tuple" = Option.none

/-! ### names, nodes, terms -/
def okSign (c : Nat) : Bool := decide (32 ≤ c) && decide (c ≤ 126) && !decide (c = 37)
def okName (x : Str) : Bool := decide (1 ≤ x.length) && decide (x.length ≤ 40) && x.cps.toList.all okSign
def names20 : List Str := ["a", "b", "f", "g", "hello", "[]", "+", "-", ",", "it's", "X", "a b", "{}", ".", "=", "'", "aB_1", "!", "0", "lvjkuwnd"]
def signs : Str := (Str.ofString " !\"#$&'()*+,-./0123456789:;<=>?@ABCDEFGHIJKLMNOPQRSTUVWXYZ[\\]^_`") ++ (Str.ofString "abcdefghijklmnopqrstuvwxyz{|}~")
theorem names20_ok : names20.all okName = true := by decide +kernel
theorem signs_ok : signs.cps.toList.all okSign = true := by decide +kernel
theorem signs_len : signs.length = 94 := by decide +kernel
theorem join_ones (e : Str) (he : e.cps = #[]) : ∀ cs : List Nat, (Str.join e (cs.map fun c => ⟨#[c]⟩)).cps.toList = cs
  | [] => rfl
  | [c] => rfl
  | c :: d :: r => by
    have ih := join_ones e he (d :: r)
    show ((⟨#[c]⟩ : Str) ++ e ++ Str.join e ((d :: r).map fun c => (⟨#[c]⟩ : Str))).cps.toList = c :: d :: r
    show (#[c] ++ e.cps ++ (Str.join e ((d :: r).map fun c => (⟨#[c]⟩ : Str))).cps).toList = c :: d :: r
    rw [he, Array.toList_append, ih]
    rfl
inductive Nd (wd : Int) : PyData → Prop
  | v (n : Int) : 0 ≤ n → n < wd → Nd wd (.tuple [.str "v", .int n])
  | i (n : Int) : -(10 ^ 40) < n → n < 10 ^ 40 → Nd wd (.int n)
  | f (x : Str) (n : Int) : okName x = true → 0 ≤ n → n ≤ 8 → Nd wd (.tuple [.str "f", .str x, .int n])
def arN : PyData → Nat
  | .tuple [_, _, c] => (match c with | .int n => n.toNat | _ => 0) | _ => 0
/-- from m missing terms on, the nodes are just these terms -/
def Cls : Nat → List PyData → Prop
  | m, [] => m = 0
  | m, d :: r => 0 < m ∧ Cls (m - 1 + arN d) r
structure Term (wd : Int) (ds : List PyData) : Prop where
  cl : Cls 1 ds
  nd : ∀ d ∈ ds, Nd wd d
/-! ### the promises -/
def sp__law_stream (K : PySem.W.Frag) : Sp := fun vs H Q _ => ∃ (a : Addr) (ns : List Int), vs = [.ref a] ∧ SqL K H a (ns.map V.int) ∧ ns.length ≤ 63 ∧ ∀ s l H', H s = Option.none → H l = Option.none → Same H H' → Stm H' s l → Q (.ref s) H'
def sp__law_draw (K : PySem.W.Frag) : Sp := fun vs H Q _ => ∃ (s l : Addr) (n : Int), vs = [.ref s, .int n] ∧ Stm H s l ∧ 0 < n ∧ n.natAbs < 2 ^ 9000 ∧ ∀ r H', 0 ≤ r → r < n → But s H H' → Stm H' s l → Q (.int r) H'
/-! ### nodes -/
def isSymN : PyData → Bool
  | .tuple [_, _, _] => true | _ => false
def NdA (d : PyData) : Prop := ∃ wd, Nd wd d
/-- how many nodes m terms take -/
def tk : Nat → List PyData → Nat
  | _, [] => 0
  | m, d :: r => if m = 0 then 0 else 1 + tk (m - 1 + arN d) r
theorem tk_zero (l : List PyData) : tk 0 l = 0 := by
  cases l with
  | nil => rfl
  | cons d r => exact if_pos rfl
theorem tk_cons {m : Nat} (h : 0 < m) (d : PyData) (r : List PyData) : tk m (d :: r) = 1 + tk (m - 1 + arN d) r := if_neg (by omega)
theorem arN_nsym {d : PyData} (h : isSymN d = false) : arN d = 0 := by
  cases d with
  | tuple ds =>
    rcases ds with _ | ⟨a, _ | ⟨b, _ | ⟨c, _ | ⟨e, r⟩⟩⟩⟩
    · rfl
    · rfl
    · rfl
    · cases h
    · rfl
  | _ => rfl
theorem tk_le : ∀ (l : List PyData) (m : Nat), tk m l ≤ l.length
  | [], _ => Nat.le_refl 0
  | d :: r, m => by
    by_cases h : m = 0
    · subst h; rw [tk_zero]; exact Nat.zero_le _
    · rw [tk_cons (by omega)]
      have := tk_le r (m - 1 + arN d)
      rw [List.length_cons]
      omega
theorem tk_add : ∀ (l : List PyData) (j m : Nat), tk (j + m) l = tk j l + tk m (l.drop (tk j l))
  | [], j, m => by simp [tk]
  | d :: r, j, m => by
    by_cases h : j = 0
    · subst h
      rw [tk_zero, Nat.zero_add, Nat.zero_add, List.drop_zero]
    · rw [tk_cons (by omega), tk_cons (m := j) (by omega), show j + m - 1 + arN d = (j - 1 + arN d) + m by omega, tk_add r (j - 1 + arN d) m]
      rw [show 1 + tk (j - 1 + arN d) r = tk (j - 1 + arN d) r + 1 by omega, List.drop_succ_cons]
      omega
/-- the rest of what is closed is closed -/
theorem cls_drop : ∀ (l : List PyData) (k j : Nat), Cls k l → j ≤ k → Cls (k - j) (l.drop (tk j l))
  | [], k, j, h, hj => by
    have hk : k = 0 := h
    rw [List.drop_nil]
    show k - j = 0
    omega
  | d :: r, k, j, h, hj => by
    by_cases z : j = 0
    · subst z
      rw [tk_zero]
      exact h
    · rw [tk_cons (by omega), show 1 + tk (j - 1 + arN d) r = tk (j - 1 + arN d) r + 1 by omega, List.drop_succ_cons]
      have := cls_drop r (k - 1 + arN d) (j - 1 + arN d) h.2 (by omega)
      rwa [show k - 1 + arN d - (j - 1 + arN d) = k - j by omega] at this
theorem cls_take : ∀ (l : List PyData) (k j : Nat), Cls k l → j ≤ k → Cls j (l.take (tk j l))
  | [], k, j, h, hj => by
    have hk : k = 0 := h
    rw [List.take_nil]
    show j = 0
    omega
  | d :: r, k, j, h, hj => by
    by_cases z : j = 0
    · subst z
      rw [tk_zero]
      rfl
    · rw [tk_cons (by omega), show 1 + tk (j - 1 + arN d) r = tk (j - 1 + arN d) r + 1 by omega, List.take_succ_cons]
      exact ⟨by omega, cls_take r (k - 1 + arN d) (j - 1 + arN d) h.2 (by omega)⟩
theorem tk_take : ∀ (l : List PyData) (i j : Nat), i ≤ j → tk i (l.take (tk j l)) = tk i l
  | [], i, j, _ => by rw [List.take_nil]
  | d :: r, i, j, h => by
    by_cases z : i = 0
    · subst z
      rw [tk_zero, tk_zero]
    · rw [tk_cons (m := j) (by omega), show 1 + tk (j - 1 + arN d) r = tk (j - 1 + arN d) r + 1 by omega, List.take_succ_cons, tk_cons (by omega), tk_cons (by omega), tk_take r _ _ (by omega)]
theorem take_full : ∀ (l : List PyData) (k : Nat), Cls k l → l.take (tk k l) = l
  | [], _, _ => List.take_nil
  | d :: r, k, h => by
    rw [tk_cons h.1, show 1 + tk (k - 1 + arN d) r = tk (k - 1 + arN d) r + 1 by omega, List.take_succ_cons, take_full r _ h.2]
theorem cls_map : ∀ (ds es : List PyData) (m : Nat), es.map arN = ds.map arN → Cls m ds → Cls m es
  | [], [], m, _, h => h
  | [], e :: es, m, h, _ => by cases h
  | d :: ds, [], m, h, _ => by cases h
  | d :: ds, e :: es, m, h, hc => by
    rw [List.map_cons, List.map_cons] at h
    obtain ⟨h1, h2⟩ := List.cons.inj h
    exact ⟨hc.1, by rw [h1]; exact cls_map ds es _ h2 hc.2⟩
/-! ### nodes can be compared -/
theorem okName_cps {x : Str} (h : okName x = true) : PyData.strOk x = true := by
  unfold okName at h
  rw [Bool.and_eq_true] at h
  unfold PyData.strOk
  rw [← Array.all_toList]
  refine List.all_eq_true.mpr fun c hc => ?_
  have := List.all_eq_true.mp h.2 c hc
  unfold okSign at this
  simp only [Bool.and_eq_true, decide_eq_true_eq] at this
  exact decide_eq_true (by omega)
theorem nd_lay {d : PyData} (h : NdA d) : d.canLay0 = true ∧ d.depth ≤ 1 ∧ d.eqv d = true := by
  obtain ⟨wd, h⟩ := h
  cases h with
  | v n _ _ => exact ⟨by simp only [PyData.canLay0, PyData.canLayAll0]; decide +kernel, by simp [PyData.depth, PyData.depthAll], by simp only [PyData.eqv, PyData.eqvAll, beq_self_eq_true, Bool.and_self]⟩
  | i n _ _ => exact ⟨by simp only [PyData.canLay0], by simp [PyData.depth], by simp only [PyData.eqv, beq_self_eq_true]⟩
  | f x n hx _ _ => exact ⟨by simp only [PyData.canLay0, PyData.canLayAll0]; rw [okName_cps hx]; decide +kernel, by simp [PyData.depth, PyData.depthAll], by simp only [PyData.eqv, PyData.eqvAll, beq_self_eq_true, Bool.and_self]⟩
theorem nds_lay : ∀ {ds : List PyData}, (∀ d ∈ ds, NdA d) → PyData.canLayAll0 ds = true ∧ PyData.depthAll ds ≤ 1 ∧ PyData.eqvAll ds ds = true
  | [], _ => ⟨by simp only [PyData.canLayAll0], by simp [PyData.depthAll], by simp only [PyData.eqvAll]⟩
  | d :: r, h => by
    obtain ⟨a1, a2, a3⟩ := nd_lay (h d List.mem_cons_self)
    obtain ⟨b1, b2, b3⟩ := nds_lay (ds := r) fun e he => h e (List.mem_cons_of_mem _ he)
    refine ⟨by simp only [PyData.canLayAll0, a1, b1, Bool.and_self], ?_, by simp only [PyData.eqvAll, a3, b3, Bool.and_self]⟩
    simp only [PyData.depthAll]
    omega
theorem nd_shaped {d : PyData} (h : NdA d) : SeqAt.shaped d = true := by
  obtain ⟨a1, a2, _⟩ := nd_lay h
  show (d.canLay0 && decide (d.depth ≤ 64)) = true
  rw [a1, decide_eq_true (by omega)]
  rfl
theorem tup_shaped {ds : List PyData} (h : ∀ d ∈ ds, NdA d) : SeqAt.shaped (.tuple ds) = true := by
  obtain ⟨a1, a2, _⟩ := nds_lay h
  have hd : (PyData.tuple ds).depth ≤ 64 := by
    simp only [PyData.depth]
    omega
  have hc : (PyData.tuple ds).canLay0 = true := by
    simp only [PyData.canLay0]
    exact a1
  show ((PyData.tuple ds).canLay0 && decide ((PyData.tuple ds).depth ≤ 64)) = true
  rw [hc, decide_eq_true hd]
  rfl
theorem tup_eqv {ds : List PyData} (h : ∀ d ∈ ds, NdA d) : PyData.eqv (.tuple ds) (.tuple ds) = true := by
  simp only [PyData.eqv]
  exact (nds_lay h).2.2
/-- name = {k: v for ..} on one line, the name a local -/
theorem ps_setDc {X : Cx} {i : Nat} {y : Str} {py : Pos} {kx vx tg iter : Expr} {ifs : List Expr} {scope : Scope} {own : List (Str × Nat)} {pos spos : Pos} {wi : TI} {g : TG} {tt : TT} {tk tv : TE} (c1 : X.calm = true) (c2 : X.N.Nodup) (c3 : X.N[i]? = some y) (c4 : X.env.scope.names.lookup y = some .local)
    (c5 : swapsWith (.DictComp kx vx [⟨tg, iter, ifs, 0⟩] scope pos) (some (.Name y py)) spos.line X.env = pure true) (c6 : PI X tg iter wi) (c7 : BlkOk X.N X.env.scope scope own)
    (c8 : ∀ (z : Shared) (H : Hp) (C : Addr) (cl : List (Str × Addr)) (fp : List Addr), PG (X.blk z H scope (compEnvC scope cl C X.env) fp) tg g) (c9 : ∀ (z : Shared) (H : Hp) (C : Addr) (cl : List (Str × Addr)) (fp : List Addr), PTs (X.blk z H scope (compEnvC scope cl C X.env) fp) ifs tt)
    (d1 : ∀ (z : Shared) (H : Hp) (C : Addr) (cl : List (Str × Addr)) (fp : List Addr), PE (X.blk z H scope (compEnvC scope cl C X.env) fp) kx tk)
    (d2 : ∀ (z : Shared) (H : Hp) (C : Addr) (cl : List (Str × Addr)) (fp : List Addr), PE (X.blk z H scope (compEnvC scope cl C X.env) fp) vx tv) (d3 : ∀ x, foldedSetIterable iter X.env x = pure x := by intro _; rfl) :
    PS X (.Assign [.Name y py] (.DictComp kx vx [⟨tg, iter, ifs, 0⟩] scope pos) spos) (tAsg (tDc wi g tt tk tv (own.map (·.2))) (gName i)) := by
  refine ⟨fun pins st0 σ H D inv hyp => ?_⟩
  have hyp' : tDc wi g tt tk tv (own.map (·.2)) σ H (fun v Hq => gName i v σ Hq D.nx) := hyp
  rw [exec_Assign_Name_used _ _ _ _ c5]
  refine wpAny_bind <| wpAny_standAt <| wpAny_bind ?_
  show wpAny _ X.A (do let _ ← comprehension (.DictComp kx vx [⟨tg, iter, ifs, 0⟩] scope pos) scope X.env (firstIterPos [⟨tg, iter, ifs, 0⟩] pos) newDict false (eval iter X.env) (some (assign (.Name y py) X.env))) _ _ st0
  have core := dc_core (Qf := fun _ fin => SP X pins D .next fin) (pos := pos) (pos' := firstIterPos [⟨tg, iter, ifs, 0⟩] pos) (use := some (assign (.Name y py) X.env)) c1 c2 inv c6 c7 c8 c9 d1 d2 d3 hyp' fun L C fin mm Hf inv' qf nsC fp => by
    show wpAny _ _ (assign (.Name y py) X.env (.ref L)) _ _ _
    obtain ⟨e0, e1, e2, e3, e4, e5⟩ := fp
    refine wpAny_assign_Name (store_ok2 (v := V.ref L) inv' c2 c3 (.inl c4) rfl (fun fin2 inv2 ⟨w, same, hw⟩ => ?_) (.inr c4))
    have cw : C ≠ w := by
      intro z
      cases hw with
      | inl hw => exact e1 (z.trans hw)
      | inr hw => exact e4 y w hw z.symm
    exact ⟨mm, nsC.sameBut same cw, fun h3 sb3 => ⟨_, Hf, inv2.turned (t' := fin2.toks) (fun b o hb e => (sb3.2 b hb).trans e) e0 e1 e3 e4 e5, qf⟩⟩
  exact wpAny_bind (thn core fun _ fin hq => wpAny_pure (wpAny_pure hq))
theorem seq_via {t u : TS} {D : Ends} {σ : L2.St} {H : Hp} (P : L2.St → Hp → Prop) (hu : ∀ σ H, P σ H → u D σ H) (ht : (∀ σ H, P σ H → u D σ H) → t { D with nx := u D } σ H) : tSeq t u D σ H := ht hu
def isVarN : PyData → Bool
  | .tuple [_, _] => true | _ => false
def numN : PyData → Int
  | .tuple [_, .int n] => n | _ => 0
theorem var_arN {d : PyData} (h : isVarN d = true) : arN d = 0 := by
  cases d with
  | tuple ds =>
    rcases ds with _ | ⟨a, _ | ⟨b, _ | ⟨c, r⟩⟩⟩
    · rfl
    · rfl
    · rfl
    · cases h
  | _ => rfl
theorem nd_eq {d e : PyData} (h : NdA d) (h2 : NdA e) (q : PyData.eqv d e = true) : d = e := by
  obtain ⟨wd, h⟩ := h
  obtain ⟨we, h2⟩ := h2
  cases h with
  | v n _ _ =>
    cases h2 with
    | v m _ _ =>
      simp only [PyData.eqv, PyData.eqvAll, Bool.and_eq_true, beq_iff_eq] at q
      rw [q.2.1]
    | i m _ _ => simp [PyData.eqv] at q
    | f x m _ _ _ => simp [PyData.eqv, PyData.eqvAll] at q
  | i n _ _ =>
    cases h2 with
    | v m _ _ => simp [PyData.eqv] at q
    | i m _ _ =>
      simp only [PyData.eqv, beq_iff_eq] at q
      rw [q]
    | f x m _ _ _ => simp [PyData.eqv] at q
  | f x n _ _ _ =>
    cases h2 with
    | v m _ _ => simp [PyData.eqv, PyData.eqvAll] at q
    | i m _ _ => simp [PyData.eqv] at q
    | f y m _ _ _ =>
      simp only [PyData.eqv, PyData.eqvAll, Bool.and_eq_true, beq_iff_eq] at q
      rw [q.2.1, q.2.2.1]
theorem nds_eq : ∀ {ds es : List PyData}, (∀ d ∈ ds, NdA d) → (∀ e ∈ es, NdA e) → PyData.eqvAll ds es = true → ds = es
  | [], [], _, _, _ => rfl
  | [], _ :: _, _, _, h => by simp [PyData.eqvAll] at h
  | _ :: _, [], _, _, h => by simp [PyData.eqvAll] at h
  | d :: ds, e :: es, h1, h2, h => by
    simp only [PyData.eqvAll, Bool.and_eq_true] at h
    rw [nd_eq (h1 d List.mem_cons_self) (h2 e List.mem_cons_self) h.1, nds_eq (fun x hx => h1 x (List.mem_cons_of_mem _ hx)) (fun x hx => h2 x (List.mem_cons_of_mem _ hx)) h.2]
theorem tup_eq {ds es : List PyData} (h1 : ∀ d ∈ ds, NdA d) (h2 : ∀ e ∈ es, NdA e) (h : PyData.eqv (.tuple ds) (.tuple es) = true) : ds = es := by
  simp only [PyData.eqv] at h
  exact nds_eq h1 h2 h
theorem cls_app : ∀ (l r : List PyData) (j k : Nat), Cls j l → Cls k r → Cls (j + k) (l ++ r)
  | [], r, j, k, h, h2 => by
    have e : j = 0 := h
    rw [e, Nat.zero_add]
    exact h2
  | d :: l, r, j, k, h, h2 => by
    refine ⟨by have := h.1; omega, ?_⟩
    have := cls_app l r (j - 1 + arN d) k h.2 h2
    have e := h.1
    rwa [show j - 1 + arN d + k = j + k - 1 + arN d by omega] at this
/-- at each place of what is closed so many terms are missing -/
theorem cls_split : ∀ (ds : List PyData) (m i : Nat), Cls m ds → i ≤ ds.length → ∃ k, Cls k (ds.drop i) ∧ ∀ t, Cls k t → Cls m (ds.take i ++ t)
  | ds, m, 0, h, _ => ⟨m, h, fun t ht => ht⟩
  | [], m, i + 1, h, hi => absurd hi (by simp)
  | d :: ds, m, i + 1, h, hi => by
    obtain ⟨k, h1, h2⟩ := cls_split ds (m - 1 + arN d) i h.2 (by simpa using hi)
    exact ⟨k, h1, fun t ht => ⟨h.1, h2 t ht⟩⟩
abbrev Tab := List (Int × List PyData)
def valT (t : Tab) (n : Int) : Option (List PyData) := (t.find? fun p => decide (p.1 = n)).map (·.2)
/-- a dict with this table -/
def TabK (K : PySem.W.Frag) (H : Hp) : List (Key × V) → Tab → Prop
  | [], [] => True
  | p :: kvs, q :: t => p.1 = Sum.inl q.1 ∧ Dp K H p.2 (.tuple q.2) ∧ TabK K H kvs t
  | _, _ => False
def TabN (t : Tab) : Prop := ∀ p ∈ t, (∀ d ∈ p.2, NdA d)
theorem TabK.len {K : PySem.W.Frag} {H : Hp} : ∀ {kvs : List (Key × V)} {t : Tab}, TabK K H kvs t → kvs.length = t.length
  | [], [], _ => rfl
  | [], _ :: _, h => h.elim
  | _ :: _, [], h => h.elim
  | p :: kvs, q :: t, h => congrArg (· + 1) (TabK.len h.2.2)
theorem TabK.mono {K : PySem.W.Frag} {H H' : Hp} (f : ∀ v ds, (∀ d ∈ ds, NdA d) → Dp K H v (.tuple ds) → Dp K H' v (.tuple ds)) : ∀ {kvs : List (Key × V)} {t : Tab}, TabN t → TabK K H kvs t → TabK K H' kvs t
  | [], [], _, _ => True.intro
  | [], _ :: _, _, h => h.elim
  | _ :: _, [], _, h => h.elim
  | p :: kvs, q :: t, n, h => ⟨h.1, f _ _ (n q List.mem_cons_self) h.2.1, TabK.mono f (fun x hx => n x (List.mem_cons_of_mem _ hx)) h.2.2⟩
theorem TabK.val {K : PySem.W.Frag} {H : Hp} (n : Int) : ∀ {kvs : List (Key × V)} {t : Tab}, TabK K H kvs t → (valV kvs (Sum.inl n) = none ∧ valT t n = none) ∨ ∃ v ds, valV kvs (Sum.inl n) = some v ∧ valT t n = some ds ∧ Dp K H v (.tuple ds)
  | [], [], _ => .inl ⟨rfl, rfl⟩
  | [], _ :: _, h => h.elim
  | _ :: _, [], h => h.elim
  | p :: kvs, q :: t, h => by
    by_cases e : q.1 = n
    · refine .inr ⟨p.2, q.2, valV_pos (by rw [h.1, e]), ?_, h.2.1⟩
      unfold valT
      rw [List.find?_cons, decide_eq_true e]
      rfl
    · have e1 : ¬ p.1 = Sum.inl n := fun z => e (Sum.inl.inj (h.1.symm.trans z))
      have e2 : valT (q :: t) n = valT t n := by
        unfold valT
        rw [List.find?_cons, decide_eq_false e]
      rw [valV_neg e1, e2]
      exact TabK.val n h.2.2
theorem TabK.snoc {K : PySem.W.Frag} {H : Hp} {n : Int} {v : V} {ds : List PyData} (hd : Dp K H v (.tuple ds)) : ∀ {kvs : List (Key × V)} {t : Tab}, TabK K H kvs t → TabK K H (kvs ++ [(Sum.inl n, v)]) (t ++ [(n, ds)])
  | [], [], _ => ⟨rfl, hd, True.intro⟩
  | [], _ :: _, h => h.elim
  | _ :: _, [], h => h.elim
  | p :: kvs, q :: t, h => ⟨h.1, h.2.1, TabK.snoc hd h.2.2⟩
theorem valT_snoc (t : Tab) (n m : Int) (ds : List PyData) (h : valT t n = none) : valT (t ++ [(n, ds)]) m = if m = n then some ds else valT t m := by
  unfold valT at *
  rw [List.find?_append]
  cases e : t.find? fun p => decide (p.1 = m) with
  | some p =>
    have hm : ¬ m = n := fun z => by rw [z] at e; rw [e] at h; cases h
    rw [if_neg hm]
    rfl
  | none =>
    by_cases hm : m = n
    · rw [if_pos hm, Option.none_or]
      rw [List.find?_cons, decide_eq_true hm.symm]
      rfl
    · rw [if_neg hm, Option.none_or]
      rw [List.find?_cons, decide_eq_false (fun z => hm z.symm)]
      rfl
theorem valT_none {t : Tab} {n : Int} (h : valT t n = none) : ∀ q ∈ t, q.1 ≠ n := by
  intro q hq e
  unfold valT at h
  rw [Option.map_eq_none_iff, List.find?_eq_none] at h
  exact h q hq (decide_eq_true e)
mutual
def noL : PyData → Bool
  | .none => true
  | .bool _ => true
  | .int _ => true
  | .str _ => true
  | .tuple ds => noLA ds
  | .list _ => false
  | .dict _ => false
def noLA : List PyData → Bool
  | [] => true
  | d :: ds => noL d && noLA ds
end
def notTup (H : Hp) (p : Addr) : Prop := (∃ ys, H p = some (.lst ys)) ∨ (∃ kvs, H p = some (.dK kvs)) ∨ ∃ o kvs, H p = some (.frz o (.dK kvs))
theorem sqT_put {K : PySem.W.Frag} {H : Hp} {p b : Addr} {o : HO} {xs : List V} (hp : notTup H p) (h : SqT K H b xs) : SqT K (upd H p o) b xs := by
  rcases h with (h | ⟨q, h⟩) | h
  · exact .inl (.inl (by rw [upd_ne (fun z => by rw [z] at h; rcases hp with ⟨_, hp⟩ | ⟨_, hp⟩ | ⟨_, _, hp⟩ <;> (rw [hp] at h; cases h))]; exact h))
  · exact .inl (.inr ⟨q, by rw [upd_ne (fun z => by rw [z] at h; rcases hp with ⟨_, hp⟩ | ⟨_, hp⟩ | ⟨_, _, hp⟩ <;> (rw [hp] at h; cases h))]; exact h⟩)
  · exact .inr h
section
variable {K : PySem.W.Frag} {H : Hp} {p : Addr} {o : HO}
mutual
theorem dp_put (hp : notTup H p) : ∀ (d : PyData) (v : V), noL d = true → Dp K H v d → Dp K (upd H p o) v d
  | .none, _, _, h => by cases h; exact .non
  | .bool b, _, _, h => by cases h; exact .bl b
  | .int i, _, _, h => by cases h; exact .int i
  | .str x, _, _, h => by cases h; exact .str x
  | .list ds, _, n, h => by simp [noL] at n
  | .tuple ds, _, n, h => by
    cases h with
    | tup g ha => exact .tup (sqT_put hp g) (dp_putAll hp ds _ (by simpa [noL] using n) ha)
  | .dict _, _, n, h => by cases h
theorem dp_putAll (hp : notTup H p) : ∀ (ds : List PyData) (vs : List V), noLA ds = true → DpAll K H vs ds → DpAll K (upd H p o) vs ds
  | [], _, _, h => by cases h; exact .nil
  | d :: ds, _, n, h => by
    rw [noLA, Bool.and_eq_true] at n
    cases h with
    | cons h1 h2 => exact .cons (dp_put hp d _ n.1 h1) (dp_putAll hp ds _ n.2 h2)
end
end
theorem nd_noL {d : PyData} (h : NdA d) : noL d = true := by
  obtain ⟨wd, h⟩ := h
  cases h <;> simp [noL, noLA]
theorem nds_noL : ∀ {ds : List PyData}, (∀ d ∈ ds, NdA d) → noLA ds = true
  | [], _ => by simp [noLA]
  | d :: r, h => by rw [noLA, nd_noL (h d List.mem_cons_self), nds_noL fun e he => h e (List.mem_cons_of_mem _ he)]; rfl
theorem tup_noL {ds : List PyData} (h : ∀ d ∈ ds, NdA d) : noL (.tuple ds) = true := by rw [noL]; exact nds_noL h
theorem tab_put {K : PySem.W.Frag} {H : Hp} {p : Addr} {o : HO} {kvs : List (Key × V)} {t : Tab} (hp : notTup H p) (n : TabN t) (h : TabK K H kvs t) : TabK K (upd H p o) kvs t := TabK.mono (fun v ds hn hd => dp_put hp _ _ (tup_noL hn) hd) n h
theorem tab_same {K : PySem.W.Frag} {H H' : Hp} {kvs : List (Key × V)} {t : Tab} (s : Same H H') (n : TabN t) (h : TabK K H kvs t) : TabK K H' kvs t := TabK.mono (fun v ds _ hd => dp_same s _ _ hd) n h
section
variable {K : PySem.W.Frag} {H H' : Hp}
mutual
theorem dp_map (f : ∀ b xs, SqT K H b xs → SqT K H' b xs) : ∀ (d : PyData) (v : V), noL d = true → Dp K H v d → Dp K H' v d
  | .none, _, _, h => by cases h; exact .non
  | .bool b, _, _, h => by cases h; exact .bl b
  | .int i, _, _, h => by cases h; exact .int i
  | .str x, _, _, h => by cases h; exact .str x
  | .list ds, _, n, h => by simp [noL] at n
  | .tuple ds, _, n, h => by
    cases h with
    | tup g ha => exact .tup (f _ _ g) (dp_mapAll f ds _ (by simpa [noL] using n) ha)
  | .dict _, _, n, h => by cases h
theorem dp_mapAll (f : ∀ b xs, SqT K H b xs → SqT K H' b xs) : ∀ (ds : List PyData) (vs : List V), noLA ds = true → DpAll K H vs ds → DpAll K H' vs ds
  | [], _, _, h => by cases h; exact .nil
  | d :: ds, _, n, h => by
    rw [noLA, Bool.and_eq_true] at n
    cases h with
    | cons h1 h2 => exact .cons (dp_map f d _ n.1 h1) (dp_mapAll f ds _ n.2 h2)
end
theorem sqT_but {p b : Addr} {xs : List V} (hp : notTup H p) (hb : But p H H') (h : SqT K H b xs) : SqT K H' b xs := by
  rcases h with (h | ⟨q, h⟩) | h
  · exact .inl (.inl (hb _ _ (fun z => by rw [z] at h; rcases hp with ⟨_, hp⟩ | ⟨_, hp⟩ | ⟨_, _, hp⟩ <;> (rw [hp] at h; cases h)) h))
  · exact .inl (.inr ⟨q, hb _ _ (fun z => by rw [z] at h; rcases hp with ⟨_, hp⟩ | ⟨_, hp⟩ | ⟨_, _, hp⟩ <;> (rw [hp] at h; cases h)) h⟩)
  · exact .inr h
/-- draws change the stream alone -/
theorem dp_but {s l : Addr} {v : V} {ds : List PyData} (S : Stm H s l) (b : But s H H') (n : ∀ d ∈ ds, NdA d) (h : Dp K H v (.tuple ds)) : Dp K H' v (.tuple ds) := by
  obtain ⟨x, y, m, ns, e, _⟩ := S.ex
  exact dp_map (fun c xs g => sqT_but (.inl ⟨_, e⟩) b g) _ _ (tup_noL n) h
end
theorem TabK.rep {K : PySem.W.Frag} {H : Hp} {n : Int} {v : V} {ds : List PyData} (hd : Dp K H v (.tuple ds)) : ∀ {kvs : List (Key × V)} {t : Tab}, TabK K H kvs t → TabK K H (kvs.map fun kv => if kv.1 = Sum.inl n then (kv.1, v) else kv) (t.map fun q => if q.1 = n then (q.1, ds) else q)
  | [], [], _ => True.intro
  | [], _ :: _, h => h.elim
  | _ :: _, [], h => h.elim
  | p :: kvs, q :: t, h => by
    have i : p.1 = Sum.inl n ↔ q.1 = n := by rw [h.1]; exact ⟨fun z => Sum.inl.inj z, fun z => congrArg _ z⟩
    refine ⟨?_, ?_, TabK.rep hd h.2.2⟩
    · by_cases e : q.1 = n
      · simp only [if_pos e, if_pos (i.mpr e)]; exact h.1
      · simp only [if_neg e, if_neg (fun z => e (i.mp z))]; exact h.1
    · by_cases e : q.1 = n
      · simp only [if_pos e, if_pos (i.mpr e)]; exact hd
      · simp only [if_neg e, if_neg (fun z => e (i.mp z))]; exact h.2.1
theorem TabK.put {K : PySem.W.Frag} {H : Hp} {n : Int} {v : V} {ds : List PyData} (hd : Dp K H v (.tuple ds)) {kvs : List (Key × V)} {t : Tab} (h : TabK K H kvs t) : ∃ t', TabK K H (putK kvs (Sum.inl n) v) t' ∧ (∀ q ∈ t', q ∈ t ∨ q.2 = ds) ∧ t'.length ≤ t.length + 1 := by
  unfold putK
  split
  · refine ⟨_, TabK.rep hd h, fun q hq => ?_, by rw [List.length_map]; exact Nat.le_succ _⟩
    obtain ⟨q', h1, h2⟩ := List.mem_map.mp hq
    split at h2
    · right; rw [← h2]
    · left; rw [← h2]; exact h1
  · refine ⟨_, TabK.snoc hd h, fun q hq => ?_, by rw [List.length_append]; exact Nat.le_refl _⟩
    rcases List.mem_append.mp hq with z | z
    · exact .inl z
    · right; rw [List.mem_singleton.mp z]
theorem TabK.at_ {K : PySem.W.Frag} {H : Hp} : ∀ {kvs : List (Key × V)} {t : Tab} {i : Nat} {k : Key} {v : V}, TabK K H kvs t → kvs[i]? = some (k, v) → ∃ q, q ∈ t ∧ k = Sum.inl q.1
  | [], [], i, k, v, _, h => by simp at h
  | [], _ :: _, _, _, _, h, _ => h.elim
  | _ :: _, [], _, _, _, h, _ => h.elim
  | p :: kvs, q :: t, 0, k, v, h, e => by
    rw [List.getElem?_cons_zero] at e
    cases e
    exact ⟨q, List.mem_cons_self, h.1⟩
  | p :: kvs, q :: t, i + 1, k, v, h, e => by
    rw [List.getElem?_cons_succ] at e
    obtain ⟨q', h1, h2⟩ := TabK.at_ h.2.2 e
    exact ⟨q', List.mem_cons_of_mem _ h1, h2⟩
theorem valT_of {t : Tab} {q : Int × List PyData} (h : q ∈ t) : ∃ ds, valT t q.1 = some ds := by
  cases e : valT t q.1 with
  | some ds => exact ⟨ds, rfl⟩
  | none => exact absurd rfl (valT_none e q h)
theorem putK_old {kvs : List (Key × V)} {k : Key} {v w : V} (h : valV kvs k = some w) : putK kvs k v = kvs.map fun kv => if kv.1 = k then (kv.1, v) else kv := by
  unfold putK
  rw [if_pos (by rw [valV_any, h]; rfl)]
theorem valT_mem {t : Tab} {n : Int} {ds : List PyData} (h : valT t n = some ds) : ∃ q ∈ t, q.2 = ds := by
  unfold valT at h
  cases e : t.find? fun p => decide (p.1 = n) with
  | none => rw [e] at h; cases h
  | some p =>
    rw [e] at h
    exact ⟨p, List.mem_of_find?_eq_some e, Option.some.inj h⟩
/-- a dict comprehension over what is walked -/
theorem dc_it {J : It} {n : Nat} {G : Hp → Prop} {Y : Nat → Hp → V → Hp → Prop} (wk : Walk J n G Y) {g : TG} {tt : TT} {tk tv : TE} {vs : List Nat} {σ : L2.St} {H1 : Hp} {D : Addr} {Qd : Hp → Prop} (Pv : Nat → Hp → Prop) (p0 : Pv 0 (upd H1 D (.dK []))) (pG : ∀ i H, i ≤ n → Pv i H → G H)
    (turn : ∀ i x H H', i < n → Pv i H → Y i H x H' → g x (wipe σ vs) H' fun σ2 H2 => wipe σ2 vs = wipe σ vs ∧ tt σ2 H2 fun b H3 =>
      if b = true then tk σ2 H3 fun y H4 => tv σ2 H4 fun z H5 => ∃ kvs k, y = kV k ∧ H5 D = some (.dK kvs) ∧ kvs.length < sizeLine ∧ Pv (i + 1) (upd H5 D (.dK (putK kvs k z))) else Pv (i + 1) H3) (pd : ∀ H, Pv n H → Qd H) :
    ∃ W : Nat → Nat → Hp → Prop, (∃ m, W 0 m (upd H1 D (.dK []))) ∧ ∀ i m H, W i m H →
      (J.stop i H ∧ Qd H) ∨ (J.go i H ∧ ∃ Nx : Hp → Prop, (∀ H', Nx H' → ∃ m', m' < m ∧ W (i + 1) m' H') ∧ ∀ x H', J.yld i H x H' → g x (wipe σ vs) H' fun σ2 H2 => wipe σ2 vs = wipe σ vs ∧ tt σ2 H2 fun b H3 =>
        if b = true then tk σ2 H3 fun y H4 => tv σ2 H4 fun z H5 => ∃ kvs k, y = kV k ∧ H5 D = some (.dK kvs) ∧ kvs.length < sizeLine ∧ Nx (upd H5 D (.dK (putK kvs k z))) else Nx H3) := by
  refine ⟨fun i m H => m = n - i ∧ i ≤ n ∧ Pv i H, ⟨n, by simp, Nat.zero_le _, p0⟩, ?_⟩
  rintro i m H ⟨rfl, hi, hp⟩
  have hg := pG i H hi hp
  rcases Nat.lt_or_ge i n with hlt | hge
  · exact .inr ⟨wk.goes i H hlt hg, Pv (i + 1), fun σ' p' => ⟨n - (i + 1), by omega, rfl, hlt, p'⟩, fun x H' y => turn i x H H' hlt hp (wk.yields i H x H' hlt hg y)⟩
  · obtain rfl : i = n := by omega
    exact .inl ⟨wk.stops H hg, pd H hp⟩
theorem TabK.get {K : PySem.W.Frag} {H : Hp} : ∀ {kvs : List (Key × V)} {t : Tab} {i : Nat} {kv : Key × V}, TabK K H kvs t → kvs[i]? = some kv → ∃ q, t[i]? = some q ∧ kv.1 = Sum.inl q.1 ∧ Dp K H kv.2 (.tuple q.2)
  | [], [], i, kv, _, h => by simp at h
  | [], _ :: _, _, _, h, _ => h.elim
  | _ :: _, [], _, _, h, _ => h.elim
  | p :: kvs, q :: t, 0, kv, h, e => by
    rw [List.getElem?_cons_zero] at e
    cases e
    exact ⟨q, rfl, h.1, h.2.1⟩
  | p :: kvs, q :: t, i + 1, kv, h, e => by
    rw [List.getElem?_cons_succ] at e
    obtain ⟨q', h1, h2⟩ := TabK.get h.2.2 e
    exact ⟨q', by rw [List.getElem?_cons_succ]; exact h1, h2⟩
theorem valT_notin {t : Tab} {n : Int} (h : n ∉ t.map (·.1)) : valT t n = none := by
  unfold valT
  rw [Option.map_eq_none_iff, List.find?_eq_none]
  exact fun q hq e => h (List.mem_map.mpr ⟨q, hq, of_decide_eq_true e⟩)
theorem TabK.none {K : PySem.W.Frag} {H : Hp} {kvs : List (Key × V)} {t : Tab} {n : Int} (T : TabK K H kvs t) (h : n ∉ t.map (·.1)) : valV kvs (Sum.inl n) = Option.none := by
  rcases TabK.val n T with ⟨w, _⟩ | ⟨v, ds, _, w, _⟩
  · exact w
  · rw [valT_notin h] at w; cases w
theorem TabK.some {K : PySem.W.Frag} {H : Hp} {kvs : List (Key × V)} {t : Tab} {n : Int} (T : TabK K H kvs t) (h : n ∈ t.map (·.1)) : (valV kvs (Sum.inl n)).isSome = true := by
  obtain ⟨q, hq, rfl⟩ := List.mem_map.mp h
  rcases TabK.val q.1 T with ⟨_, w⟩ | ⟨v, ds, w, _, _⟩
  · exact absurd rfl (valT_none w q hq)
  · rw [w]; rfl
/-- a key that is new goes to the end -/
theorem TabK.add {K : PySem.W.Frag} {H : Hp} {kvs : List (Key × V)} {t : Tab} {n : Int} {v : V} {ds : List PyData} (T : TabK K H kvs t) (h : n ∉ t.map (·.1)) (hd : Dp K H v (.tuple ds)) : TabK K H (putK kvs (Sum.inl n) v) (t ++ [(n, ds)]) := by
  rw [putK_new _ (T.none h)]
  exact TabK.snoc hd T
/-- the i-th key is none of those before -/
theorem nodup_new {t : Tab} {i : Nat} {q : Int × List PyData} (h : (t.map (·.1)).Nodup) (hq : t[i]? = some q) : q.1 ∉ (t.take i).map (·.1) := by
  intro hm
  obtain ⟨x, hx, e⟩ := List.mem_map.mp hm
  obtain ⟨j, hj⟩ := List.getElem?_of_mem hx
  have hji : j < i := by
    have := (List.getElem?_eq_some_iff.mp hj).1
    rw [List.length_take] at this
    omega
  rw [List.getElem?_take_of_lt hji] at hj
  have a1 : (t.map (·.1))[j]? = some q.1 := by rw [List.getElem?_map, hj, ← e]; rfl
  have a2 : (t.map (·.1))[i]? = some q.1 := by rw [List.getElem?_map, hq]; rfl
  have b1 := (List.getElem?_eq_some_iff.mp a1).1
  have := (List.getElem?_inj b1 h).mp (a1.trans a2.symm)
  omega
/-! ### substitutions -/
def varN (n : Int) : List PyData := [.tuple [.str "v", .int n]]
def appN (t : Tab) (d : PyData) : List PyData := if isVarN d = true then (match valT t (numN d) with | some w => w | none => [d]) else [d]
def appM (t : Tab) (ds : List PyData) : List PyData := ds.flatMap (appN t)
/-- a value that is the key itself falls out -/
def keepN (n : Int) (w : List PyData) : Option (List PyData) := if PyData.eqv (.tuple w) (.tuple (varN n)) = true then none else some w
def compV (t u : Tab) (n : Int) : Option (List PyData) :=
  match valT t n with
  | some w => keepN n (appM u w)
  | none => (match valT u n with | some w => keepN n w | none => none)
theorem var_form {d : PyData} (h : NdA d) (v : isVarN d = true) : ∃ n, d = .tuple [.str "v", .int n] := by
  obtain ⟨wd, nd⟩ := h
  cases nd with
  | v n _ _ => exact ⟨n, rfl⟩
  | i n _ _ => cases v
  | f x n _ _ _ => cases v
theorem var_nd {n : Int} (h : 0 ≤ n) : ∀ d ∈ varN n, NdA d := fun d hd => ⟨n + 1, by rw [List.mem_singleton.mp hd]; exact .v n h (by omega)⟩
theorem valT_nd {t : Tab} {n : Int} {w : List PyData} (ht : TabN t) (h : valT t n = some w) : ∀ d ∈ w, NdA d := by
  obtain ⟨q, hq, e⟩ := valT_mem h
  rw [← e]
  exact ht q hq
theorem appN_nd {t : Tab} (ht : TabN t) {d : PyData} (hd : NdA d) : ∀ e ∈ appN t d, NdA e := by
  unfold appN
  by_cases v : isVarN d = true
  · rw [if_pos v]
    cases e : valT t (numN d) with
    | some w => exact valT_nd ht e
    | none => exact fun e he => by rw [List.mem_singleton.mp he]; exact hd
  · rw [if_neg v]
    exact fun e he => by rw [List.mem_singleton.mp he]; exact hd
theorem appM_nd {t : Tab} (ht : TabN t) {ds : List PyData} (hd : ∀ d ∈ ds, NdA d) : ∀ e ∈ appM t ds, NdA e := fun e he => by
  obtain ⟨d, h1, h2⟩ := List.mem_flatMap.mp he
  exact appN_nd ht (hd d h1) e h2
theorem var_num {d : PyData} (h : NdA d) (v : isVarN d = true) : ∃ n, 0 ≤ n ∧ d = .tuple [.str "v", .int n] := by
  obtain ⟨wd, nd⟩ := h
  cases nd with
  | v n h1 _ => exact ⟨n, h1, rfl⟩
  | i n _ _ => cases v
  | f x n _ _ _ => cases v
theorem comp_app {t u c : Tab} (nt : TabN t) (nu : TabN u) (hc : ∀ n, valT c n = compV t u n) {ds : List PyData} (nd : ∀ d ∈ ds, NdA d) : appM c ds = appM u (appM t ds) := by
  unfold appM
  rw [List.flatMap_assoc]
  have h : ∀ d ∈ ds, appN c d = (appN t d).flatMap (appN u) := by
    intro d hd
    by_cases v : isVarN d = true
    · obtain ⟨n, n0, rfl⟩ := var_num (nd d hd) v
      have e1 : ∀ s : Tab, appN s (.tuple [.str "v", .int n]) = (match valT s n with | some w => w | none => varN n) := fun s => by
        unfold appN
        rw [if_pos v]
        rfl
      rw [e1, e1, hc n]
      unfold compV
      cases ht : valT t n with
      | some w =>
        simp only
        unfold keepN
        by_cases hk : PyData.eqv (.tuple (appM u w)) (.tuple (varN n)) = true
        · rw [if_pos hk]
          exact (tup_eq (appM_nd nu (valT_nd nt ht)) (var_nd n0) hk).symm
        · rw [if_neg hk]
          rfl
      | none =>
        simp only
        have e2 : (varN n).flatMap (appN u) = (match valT u n with | some w => w | none => varN n) := by
          unfold varN
          rw [List.flatMap_cons, List.flatMap_nil, List.append_nil]
          exact e1 u
        rw [e2]
        cases hu : valT u n with
        | some w =>
          simp only
          unfold keepN
          by_cases hk : PyData.eqv (.tuple w) (.tuple (varN n)) = true
          · rw [if_pos hk]
            exact (tup_eq (valT_nd nu hu) (var_nd n0) hk).symm
          · rw [if_neg hk]
        | none => rfl
    · have e3 : ∀ s : Tab, appN s d = [d] := fun s => if_neg v
      rw [e3, e3, List.flatMap_cons, List.flatMap_nil, List.append_nil, e3]
  clear hc
  induction ds with
  | nil => rfl
  | cons d r ih =>
    rw [List.flatMap_cons, List.flatMap_cons, h d List.mem_cons_self, ih (fun x hx => nd x (List.mem_cons_of_mem _ hx)) fun x hx => h x (List.mem_cons_of_mem _ hx)]
theorem appM_take {t : Tab} {ds : List PyData} {i : Nat} {d : PyData} (h : ds[i]? = some d) : appM t (ds.take (i + 1)) = appM t (ds.take i) ++ appN t d := by
  unfold appM
  rw [List.take_add_one, h, List.flatMap_append]
  show _ ++ (appN t d ++ []) = _
  rw [List.append_nil]
theorem appN_non {t : Tab} {d : PyData} (v : ¬ isVarN d = true) : appN t d = [d] := if_neg v
theorem appN_out {t : Tab} {n : Int} (h : valT t n = none) : appN t (.tuple [.str "v", .int n]) = [.tuple [.str "v", .int n]] := by
  unfold appN
  rw [if_pos (show isVarN (.tuple [.str "v", .int n]) = true from rfl), show numN (.tuple [.str "v", .int n]) = n from rfl, h]
theorem appN_in {t : Tab} {n : Int} {w : List PyData} (h : valT t n = some w) : appN t (.tuple [.str "v", .int n]) = w := by
  unfold appN
  rw [if_pos (show isVarN (.tuple [.str "v", .int n]) = true from rfl), show numN (.tuple [.str "v", .int n]) = n from rfl, h]
/-- the composed table: the first one's values with the second applied, then what the second adds, without a key that is its own value -/
def comp1 (t u : Tab) : Tab := t.map fun x => (x.1, appM u x.2)
def newK (t : Tab) (x : Int × List PyData) : Bool := !(decide (x.1 ∈ t.map (·.1)))
def notOwn (x : Int × List PyData) : Bool := !PyData.eqv (.tuple x.2) (.tuple (varN x.1))
def compT (t u : Tab) : Tab := (comp1 t u ++ u.filter (newK t)).filter notOwn
theorem comp1_keys (t u : Tab) : (comp1 t u).map (·.1) = t.map (·.1) := by unfold comp1; rw [List.map_map]; rfl
theorem comp1_nd {t u : Tab} (ht : TabN t) (hu : TabN u) : TabN (comp1 t u) := fun x hx => by
  obtain ⟨q, h1, rfl⟩ := List.mem_map.mp hx
  exact appM_nd hu (ht q h1)
/-! ### domains -/
def ivD (p : Int × Int) : PyData := .tuple [.int p.1, .int p.2]
def domD (D : List (Int × Int)) : PyData := .tuple (D.map ivD)
def Can : List (Int × Int) → Prop
  | [] => True
  | p :: D => p.1 ≤ p.2 ∧ (∀ q ∈ D, p.2 + 1 < q.1) ∧ Can D
def Inn (D : List (Int × Int)) (v : Int) : Prop := ∃ p ∈ D, p.1 ≤ v ∧ v ≤ p.2
theorem can_mem : ∀ {D : List (Int × Int)}, Can D → ∀ p ∈ D, p.1 ≤ p.2
  | _ :: _, h, p, hp => by
    rcases List.mem_cons.mp hp with z | z
    · rw [z]; exact h.1
    · exact can_mem h.2.2 p z
theorem inn_ge {p : Int × Int} {D : List (Int × Int)} (h : Can (p :: D)) {v : Int} (hv : Inn (p :: D) v) : p.1 ≤ v := by
  obtain ⟨q, hq, h1, h2⟩ := hv
  rcases List.mem_cons.mp hq with z | z
  · rw [z] at h1; exact h1
  · have := h.2.1 q z
    have := h.1
    omega
theorem can_end {p q : Int × Int} {D D' : List (Int × Int)} (h : Can (p :: D)) (h' : Can (q :: D')) (e : p.1 = q.1) (hv : ∀ v, Inn (q :: D') v → Inn (p :: D) v) : q.2 ≤ p.2 := by
  rcases (show p.2 < q.2 ∨ q.2 ≤ p.2 by omega) with z | z
  · exfalso
    have h1 := h.1
    obtain ⟨r, hr, r1, r2⟩ := hv (p.2 + 1) ⟨q, List.mem_cons_self, by omega, by omega⟩
    rcases List.mem_cons.mp hr with w | w
    · rw [w] at r2; omega
    · have := h.2.1 r w
      omega
  · exact z
theorem can_uniq : ∀ {D D' : List (Int × Int)}, Can D → Can D' → (∀ v, Inn D v ↔ Inn D' v) → D = D'
  | [], [], _, _, _ => rfl
  | [], q :: D', _, h, e => by
    obtain ⟨r, hr, _⟩ := (e q.1).mpr ⟨q, List.mem_cons_self, Int.le_refl _, h.1⟩
    cases hr
  | p :: D, [], h, _, e => by
    obtain ⟨r, hr, _⟩ := (e p.1).mp ⟨p, List.mem_cons_self, Int.le_refl _, h.1⟩
    cases hr
  | p :: D, q :: D', h, h', e => by
    have e1 : p.1 = q.1 := Int.le_antisymm (inn_ge h ((e q.1).mpr ⟨q, List.mem_cons_self, Int.le_refl _, h'.1⟩)) (inn_ge h' ((e p.1).mp ⟨p, List.mem_cons_self, Int.le_refl _, h.1⟩))
    have e2 : p.2 = q.2 := Int.le_antisymm (can_end h' h e1.symm fun v hv => (e v).mp hv) (can_end h h' e1 fun v hv => (e v).mpr hv)
    have half : ∀ {p q : Int × Int} {D D' : List (Int × Int)}, Can (p :: D) → p.2 = q.2 → (∀ v, Inn (p :: D) v → Inn (q :: D') v) → ∀ v, Inn D v → Inn D' v := by
      intro p q D D' h e2 e v ⟨r, hr, r1, r2⟩
      obtain ⟨t, ht, t1, t2⟩ := e v ⟨r, List.mem_cons_of_mem _ hr, r1, r2⟩
      rcases List.mem_cons.mp ht with z | z
      · have := h.2.1 r hr
        rw [z] at t2
        omega
      · exact ⟨t, z, t1, t2⟩
    have e3 := can_uniq h.2.2 h'.2.2 fun v => ⟨half h e2 (fun v => (e v).mp) v, half h' e2.symm (fun v => (e v).mpr) v⟩
    rw [e3, show p = q from Prod.ext e1 e2]
theorem can_snoc : ∀ {A : List (Int × Int)} {p : Int × Int}, Can (A ++ [p]) ↔ Can A ∧ p.1 ≤ p.2 ∧ ∀ q ∈ A, q.2 + 1 < p.1
  | [], p => ⟨fun h => ⟨True.intro, h.1, fun q hq => nomatch hq⟩, fun h => ⟨h.2.1, (fun q hq => nomatch hq), True.intro⟩⟩
  | a :: A, p => by
    constructor
    · rintro ⟨h1, h2, h3⟩
      obtain ⟨k1, k2, k3⟩ := can_snoc.mp h3
      refine ⟨⟨h1, fun q hq => h2 q (List.mem_append_left _ hq), k1⟩, k2, fun q hq => ?_⟩
      rcases List.mem_cons.mp hq with z | z
      · rw [z]; exact h2 p (List.mem_append_right _ (List.mem_singleton.mpr rfl))
      · exact k3 q z
    · rintro ⟨⟨h1, h2, h3⟩, k2, k3⟩
      refine ⟨h1, fun q hq => ?_, can_snoc.mpr ⟨h3, k2, fun q hq => k3 q (List.mem_cons_of_mem _ hq)⟩⟩
      rcases List.mem_append.mp hq with z | z
      · exact h2 q z
      · rw [List.mem_singleton.mp z]; exact k3 a List.mem_cons_self
/-- what the loop holds behind some values -/
structure Pre (I : List (Int × Int)) (pre : List Int) : Prop where
  can : Can I
  inn : ∀ w, Inn I w ↔ w ∈ pre
  top : ∀ A p, I = A ++ [p] → ∀ w ∈ pre, w ≤ p.2
theorem pre_nil : Pre [] [] := ⟨True.intro, fun w => ⟨fun ⟨_, h, _⟩ => (nomatch h), fun h => nomatch h⟩, fun A p h => by
  have := congrArg List.length h
  simp at this⟩
theorem snoc_inj {A B : List (Int × Int)} {p q : Int × Int} (h : A ++ [p] = B ++ [q]) : A = B ∧ p = q := by
  have := List.append_inj' h rfl
  exact ⟨this.1, List.singleton_inj.mp this.2⟩
theorem pre_new {I : List (Int × Int)} {pre : List Int} {v : Int} (h : Pre I pre) (hv : ∀ w ∈ pre, w ≤ v) (hn : ∀ A p, I = A ++ [p] → p.2 + 1 < v) : Pre (I ++ [(v, v)]) (pre ++ [v]) := by
  refine ⟨can_snoc.mpr ⟨h.can, Int.le_refl _, fun q hq => ?_⟩, fun w => ?_, fun A p e w hw => ?_⟩
  · rcases List.eq_nil_or_concat I with z | ⟨A, p, z⟩
    · rw [z] at hq; cases hq
    · have hp := hn A p (by rw [z, List.concat_eq_append])
      have hq2 : q.2 ∈ pre := (h.inn q.2).mp ⟨q, hq, can_mem h.can q hq, Int.le_refl _⟩
      have := h.top A p (by rw [z, List.concat_eq_append]) q.2 hq2
      show q.2 + 1 < v
      omega
  · constructor
    · rintro ⟨q, hq, h1, h2⟩
      rcases List.mem_append.mp hq with z | z
      · exact List.mem_append_left _ ((h.inn w).mp ⟨q, z, h1, h2⟩)
      · rw [List.mem_singleton.mp z] at h1 h2
        have e : w = v := Int.le_antisymm h2 h1
        rw [e]; exact List.mem_append_right _ (List.mem_singleton.mpr rfl)
    · intro hw
      rcases List.mem_append.mp hw with z | z
      · obtain ⟨q, hq, h1, h2⟩ := (h.inn w).mpr z
        exact ⟨q, List.mem_append_left _ hq, h1, h2⟩
      · rw [List.mem_singleton.mp z]
        exact ⟨(v, v), List.mem_append_right _ (List.mem_singleton.mpr rfl), Int.le_refl _, Int.le_refl _⟩
  · obtain ⟨_, e2⟩ := snoc_inj e
    rw [← e2]
    rcases List.mem_append.mp hw with z | z
    · exact hv w z
    · rw [List.mem_singleton.mp z]; exact Int.le_refl _
theorem pre_more {A : List (Int × Int)} {p : Int × Int} {pre : List Int} {v : Int} (h : Pre (A ++ [p]) pre) (hv : ∀ w ∈ pre, w ≤ v) (hn : v ≤ p.2 + 1) : Pre (A ++ [(p.1, v)]) (pre ++ [v]) := by
  obtain ⟨c1, c2, c3⟩ := can_snoc.mp h.can
  have hp2 : p.2 ∈ pre := (h.inn p.2).mp ⟨p, List.mem_append_right _ (List.mem_singleton.mpr rfl), c2, Int.le_refl _⟩
  have hpv := hv _ hp2
  refine ⟨can_snoc.mpr ⟨c1, by show p.1 ≤ v; omega, c3⟩, fun w => ?_, fun B q e w hw => ?_⟩
  · constructor
    · rintro ⟨q, hq, h1, h2⟩
      rcases List.mem_append.mp hq with z | z
      · exact List.mem_append_left _ ((h.inn w).mp ⟨q, List.mem_append_left _ z, h1, h2⟩)
      · rw [List.mem_singleton.mp z] at h1 h2
        have h1 : p.1 ≤ w := h1
        have h2 : w ≤ v := h2
        rcases (show p.2 < w ∨ w ≤ p.2 by omega) with y | y
        · have : w = v := by omega
          rw [this]; exact List.mem_append_right _ (List.mem_singleton.mpr rfl)
        · exact List.mem_append_left _ ((h.inn w).mp ⟨p, List.mem_append_right _ (List.mem_singleton.mpr rfl), h1, y⟩)
    · intro hw
      rcases List.mem_append.mp hw with z | z
      · obtain ⟨q, hq, h1, h2⟩ := (h.inn w).mpr z
        rcases List.mem_append.mp hq with y | y
        · exact ⟨q, List.mem_append_left _ y, h1, h2⟩
        · rw [List.mem_singleton.mp y] at h1 h2
          exact ⟨(p.1, v), List.mem_append_right _ (List.mem_singleton.mpr rfl), h1, by show w ≤ v; omega⟩
      · rw [List.mem_singleton.mp z]
        exact ⟨(p.1, v), List.mem_append_right _ (List.mem_singleton.mpr rfl), by show p.1 ≤ v; omega, Int.le_refl _⟩
  · obtain ⟨_, e2⟩ := snoc_inj e
    rw [← e2]
    rcases List.mem_append.mp hw with z | z
    · exact hv w z
    · rw [List.mem_singleton.mp z]; exact Int.le_refl _
/-- the domain of a set of values -/
def IsDom (D : List (Int × Int)) (ns : List Int) : Prop := Can D ∧ ∀ w, Inn D w ↔ w ∈ ns
theorem dom_uniq {D D' : List (Int × Int)} {ns ms : List Int} (h : IsDom D ns) (h' : IsDom D' ms) (e : ∀ v, v ∈ ns ↔ v ∈ ms) : D = D' :=
  can_uniq h.1 h'.1 fun v => (h.2 v).trans ((e v).trans (h'.2 v).symm)
def vals (p : Int × Int) : List Int := (List.range (p.2 + 1 - p.1).toNat).map fun i : Nat => p.1 + (i : Int)
def valsM (D : List (Int × Int)) : List Int := D.flatMap vals
theorem mem_vals {p : Int × Int} {v : Int} : v ∈ vals p ↔ p.1 ≤ v ∧ v ≤ p.2 := by
  unfold vals
  rw [List.mem_map]
  constructor
  · rintro ⟨i, hi, rfl⟩
    rw [List.mem_range] at hi
    omega
  · rintro ⟨h1, h2⟩
    exact ⟨(v - p.1).toNat, List.mem_range.mpr (by omega), by omega⟩
theorem mem_valsM {D : List (Int × Int)} {v : Int} : v ∈ valsM D ↔ Inn D v := by
  unfold valsM Inn
  rw [List.mem_flatMap]
  exact ⟨fun ⟨p, h1, h2⟩ => ⟨p, h1, mem_vals.mp h2⟩, fun ⟨p, h1, h2⟩ => ⟨p, h1, mem_vals.mpr h2⟩⟩
theorem vals_lt (p : Int × Int) : (vals p).Pairwise (· < ·) := by
  unfold vals
  rw [List.pairwise_map]
  exact List.pairwise_lt_range.imp fun h => by omega
theorem valsM_lt : ∀ {D : List (Int × Int)}, Can D → (valsM D).Pairwise (· < ·)
  | [], _ => List.Pairwise.nil
  | p :: D, h => by
    show (vals p ++ valsM D).Pairwise (· < ·)
    refine List.pairwise_append.mpr ⟨vals_lt p, valsM_lt h.2.2, fun a ha b hb => ?_⟩
    obtain ⟨q, hq, h1, h2⟩ := mem_valsM.mp hb
    have := h.2.1 q hq
    have := (mem_vals.mp ha).2
    omega
theorem lt_len : ∀ {l : List Int} {lo hi : Int}, l.Pairwise (· < ·) → (∀ v ∈ l, lo ≤ v ∧ v ≤ hi) → (l.length : Int) ≤ max (hi + 1 - lo) 0
  | [], _, _, _, _ => by simp; omega
  | v :: l, lo, hi, h, hb => by
    rw [List.pairwise_cons] at h
    obtain ⟨b1, b2⟩ := hb v List.mem_cons_self
    have := lt_len (lo := v + 1) (hi := hi) h.2 fun w hw => ⟨by have := h.1 w hw; omega, (hb w (List.mem_cons_of_mem _ hw)).2⟩
    rw [List.length_cons]
    omega
theorem vals_len {D : List (Int × Int)} {ns : List Int} (h : IsDom D ns) (hb : ∀ v ∈ ns, -50 ≤ v ∧ v ≤ 50) : (valsM D).length ≤ 101 := by
  have := lt_len (lo := -50) (hi := 50) (valsM_lt h.1) fun v hv => hb v ((h.2 v).mp (mem_valsM.mp hv))
  omega
theorem pd_lay : ∀ (D : List (Int × Int)), PyData.canLayAll0 (D.map ivD) = true ∧ PyData.depthAll (D.map ivD) ≤ 1 ∧ PyData.eqvAll (D.map ivD) (D.map ivD) = true ∧ noLA (D.map ivD) = true
  | [] => ⟨by simp [PyData.canLayAll0], by simp [PyData.depthAll], by simp [PyData.eqvAll], by simp [noLA]⟩
  | p :: D => by
    obtain ⟨a, b, c, d⟩ := pd_lay D
    rw [List.map_cons]
    have e : (ivD p).canLay0 = true := by unfold ivD; simp only [PyData.canLay0, PyData.canLayAll0]; rfl
    have f : (ivD p).depth = 1 := by unfold ivD; simp [PyData.depth, PyData.depthAll]
    have g : PyData.eqv (ivD p) (ivD p) = true := by unfold ivD; simp [PyData.eqv, PyData.eqvAll]
    have k : noL (ivD p) = true := by unfold ivD; simp [noL, noLA]
    refine ⟨by simp only [PyData.canLayAll0, a, e, Bool.and_self], ?_, by simp only [PyData.eqvAll, c, g, Bool.and_self], by simp only [noLA, d, k, Bool.and_self]⟩
    simp only [PyData.depthAll]
    omega
theorem dom_shaped (D : List (Int × Int)) : SeqAt.shaped (domD D) = true := by
  obtain ⟨a, b, _⟩ := pd_lay D
  have hd : (domD D).depth ≤ 64 := by unfold domD; simp only [PyData.depth]; omega
  have hc : (domD D).canLay0 = true := by unfold domD; simp only [PyData.canLay0]; exact a
  show ((domD D).canLay0 && decide ((domD D).depth ≤ 64)) = true
  rw [hc, decide_eq_true hd]
  rfl
theorem dom_eqv (D : List (Int × Int)) : PyData.eqv (domD D) (domD D) = true := by
  unfold domD
  simp only [PyData.eqv]
  exact (pd_lay D).2.2.1
theorem dom_noL (D : List (Int × Int)) : noL (domD D) = true := by
  unfold domD
  rw [noL]
  exact (pd_lay D).2.2.2
theorem ints_lay : ∀ (ns : List Int), PyData.canLayAll0 (ns.map PyData.int) = true ∧ PyData.depthAll (ns.map PyData.int) = 0 ∧ PyData.eqvAll (ns.map PyData.int) (ns.map PyData.int) = true
  | [] => ⟨by simp [PyData.canLayAll0], by simp [PyData.depthAll], by simp [PyData.eqvAll]⟩
  | n :: ns => by
    obtain ⟨a, b, c⟩ := ints_lay ns
    rw [List.map_cons]
    refine ⟨by simp only [PyData.canLayAll0, PyData.canLay0, a, Bool.and_self], ?_, by simp only [PyData.eqvAll, PyData.eqv, c, beq_self_eq_true, Bool.and_self]⟩
    simp only [PyData.depthAll, PyData.depth, b]
    rfl
theorem ints_shaped (ns : List Int) : SeqAt.shaped (.list (ns.map PyData.int)) = true := by
  obtain ⟨a, b, _⟩ := ints_lay ns
  have hd : (PyData.list (ns.map PyData.int)).depth ≤ 64 := by simp only [PyData.depth, b]; decide
  have hc : (PyData.list (ns.map PyData.int)).canLay0 = true := by simp only [PyData.canLay0]; exact a
  show ((PyData.list (ns.map PyData.int)).canLay0 && decide ((PyData.list (ns.map PyData.int)).depth ≤ 64)) = true
  rw [hc, decide_eq_true hd]
  rfl
theorem ints_eqv (ns : List Int) : PyData.eqv (.list (ns.map PyData.int)) (.list (ns.map PyData.int)) = true := by
  simp only [PyData.eqv]
  exact (ints_lay ns).2.2
theorem dp_ints {K : PySem.W.Frag} {H : Hp} : ∀ (ns : List Int), DpAll K H (ns.map V.int) (ns.map PyData.int)
  | [] => .nil
  | n :: ns => .cons (.int n) (dp_ints ns)
theorem same_sqL {K : PySem.W.Frag} {H H' : Hp} {a : Addr} {xs : List V} (e : Same H H') (h : SqL K H a xs) : SqL K H' a xs := by
  rcases h with (h | ⟨p, h⟩) | h
  · exact .inl (.inl (e _ _ h))
  · exact .inl (.inr ⟨p, e _ _ h⟩)
  · exact .inr h
theorem walk_gen {J : It} {n : Nat} {G : Hp → Prop} {Y : Nat → Hp → V → Hp → Prop} (wk : Walk J n G Y) {B : V → Hp → (Hp → Prop) → Prop} {H0 : Hp} {Qd : Hp → Prop} (Pv : Nat → Hp → Prop) (p0 : Pv 0 H0) (pG : ∀ i H, i ≤ n → Pv i H → G H)
    (turn : ∀ i x H H', i < n → Pv i H → Y i H x H' → B x H' (Pv (i + 1))) (pd : ∀ H, Pv n H → Qd H) :
    ∃ W : Nat → Nat → Hp → Prop, (∃ m, W 0 m H0) ∧ ∀ i m H, W i m H → (J.stop i H ∧ Qd H) ∨ (J.go i H ∧ ∃ Nx : Hp → Prop, (∀ H', Nx H' → ∃ m', m' < m ∧ W (i + 1) m' H') ∧ ∀ x H', J.yld i H x H' → B x H' Nx) := by
  refine ⟨fun i m H => m = n - i ∧ i ≤ n ∧ Pv i H, ⟨n, by simp, Nat.zero_le _, p0⟩, ?_⟩
  rintro i m H ⟨rfl, hi, hp⟩
  have hg := pG i H hi hp
  rcases Nat.lt_or_ge i n with hlt | hge
  · exact .inr ⟨wk.goes i H hlt hg, Pv (i + 1), fun σ' p' => ⟨n - (i + 1), by omega, rfl, hlt, p'⟩, fun x H' y => turn i x H H' hlt hp (wk.yields i H x H' hlt hg y)⟩
  · obtain rfl : i = n := by omega
    exact .inl ⟨wk.stops H hg, pd H hp⟩
theorem ix_len {α : Type} (A : List α) (x : α) : ixN (A ++ [x]).length (((A ++ [x]).length : Int) - 1) = some A.length := by
  unfold ixN
  rw [List.length_append]
  simp
  omega
theorem at_len {α : Type} (A : List α) (x : α) : atI (A ++ [x]) (((A ++ [x]).length : Int) - 1) = some x := by
  unfold atI
  rw [ix_len]
  simp
theorem set_last {α : Type} (A : List α) (x y : α) : (A ++ [x]).set A.length y = A ++ [y] := by
  rw [List.set_append_right _ _ (Nat.le_refl _), Nat.sub_self]
  rfl
theorem dp_snoc {K : PySem.W.Frag} {H : Hp} {ys : List V} {A : List (Int × Int)} {p : Int × Int} (h : DpAll K H ys ((A ++ [p]).map ivD)) : ∃ ya y, ys = ya ++ [y] ∧ DpAll K H ya (A.map ivD) ∧ Dp K H y (ivD p) := by
  have hl := DpAll.len h
  rw [List.map_append] at h hl
  rw [List.length_append, List.length_map] at hl
  rcases List.eq_nil_or_concat ys with z | ⟨ya, y, z⟩
  · rw [z] at hl; simp at hl
  · rw [List.concat_eq_append] at z
    subst z
    rw [List.length_append] at hl
    have hl2 : ya.length = A.length := by
      have e1 : ([y] : List V).length = 1 := rfl
      have e2 : ([p].map ivD).length = 1 := rfl
      omega
    refine ⟨ya, y, rfl, ?_, ?_⟩
    · have := DpAll.taket ya.length h
      rw [List.take_left' rfl, List.take_left' (by rw [List.length_map]; exact hl2.symm)] at this
      exact this
    · have := DpAll.dropt ya.length h
      rw [List.drop_left' rfl, List.drop_left' (by rw [List.length_map]; exact hl2.symm)] at this
      cases this with
      | cons h _ => exact h
theorem sorted_le {ns : List Int} (h : ns.Pairwise (· ≤ ·)) {i : Nat} {v : Int} (hv : ns[i]? = some v) : ∀ w ∈ ns.take i, w ≤ v := by
  intro w hw
  obtain ⟨j, hj⟩ := List.getElem?_of_mem hw
  have hji : j < i := by
    have := (List.getElem?_eq_some_iff.mp hj).1
    rw [List.length_take] at this
    omega
  rw [List.getElem?_take_of_lt hji] at hj
  obtain ⟨k1, g1⟩ := List.getElem?_eq_some_iff.mp hj
  obtain ⟨k2, g2⟩ := List.getElem?_eq_some_iff.mp hv
  rw [← g1, ← g2]
  exact List.pairwise_iff_getElem.mp h j i k1 k2 hji
theorem vals_take {p : Int × Int} {j : Nat} (h : j < (p.2 + 1 - p.1).toNat) : (vals p)[j]? = some (p.1 + (j : Int)) := by
  unfold vals
  rw [List.getElem?_map, List.getElem?_range h]
  rfl
theorem vals_length (p : Int × Int) : (vals p).length = (p.2 + 1 - p.1).toNat := by
  unfold vals
  rw [List.length_map, List.length_range]
theorem pre_bounds {D : List (Int × Int)} (h : (valsM D).length ≤ 101) (i : Nat) {p : Int × Int} (hp : D[i]? = some p) : (valsM (D.take i)).length + (vals p).length ≤ 101 ∧ valsM (D.take (i + 1)) = valsM (D.take i) ++ vals p := by
  have e : valsM (D.take (i + 1)) = valsM (D.take i) ++ vals p := by
    unfold valsM
    rw [List.take_add_one, hp, List.flatMap_append]
    show _ ++ (vals p ++ []) = _
    rw [List.append_nil]
  refine ⟨?_, e⟩
  have : valsM D = valsM (D.take (i + 1)) ++ valsM (D.drop (i + 1)) := by
    unfold valsM
    rw [← List.flatMap_append, List.take_append_drop]
  rw [this, e, List.length_append, List.length_append] at h
  omega
theorem dom_bounds {D : List (Int × Int)} {ns : List Int} (h : IsDom D ns) (hn : ∀ n ∈ ns, -50 ≤ n ∧ n ≤ 50) : ∀ p ∈ D, -50 ≤ p.1 ∧ p.2 ≤ 50 := fun p hp => by
  have hpp := can_mem h.1 p hp
  exact ⟨(hn _ ((h.2 p.1).mp ⟨p, hp, Int.le_refl _, hpp⟩)).1, (hn _ ((h.2 p.2).mp ⟨p, hp, hpp, Int.le_refl _⟩)).2⟩
theorem cut_take (xs : List V) (i : Nat) (h : i ≤ xs.length) : cutV xs Option.none (some (i : Int)) = xs.take i := by
  unfold cutV
  rw [HT.sIx_none, HT.sIx_nat, Nat.min_eq_left h, List.drop_zero, Nat.sub_zero]
theorem int_pick {K : PySem.W.Frag} {G : Addr → Prop} {H : Hp} {xs : List V} {is : List Int} {r : Int} (a : ImAll K G H xs (is.map PyData.int)) (r0 : 0 ≤ r) (r1 : r < (is.length : Int)) : ∃ x, x ∈ is ∧ atI xs r = some (.int x) := by
  have hr : r.toNat < is.length := by omega
  have hd : (is.map PyData.int)[r.toNat]? = some (.int is[r.toNat]) := by
    rw [List.getElem?_map, List.getElem?_eq_getElem hr]
    rfl
  obtain ⟨v, hv, iv⟩ := ImAll.get a hd
  cases iv
  exact ⟨_, List.getElem_mem hr, at_of (j := r.toNat) (by omega) hv⟩
theorem perm_vals {D : List (Int × Int)} (h : Can D) {ns : List Int} (hp : ns.Perm (valsM D)) (hs : ns.Pairwise (· ≤ ·)) : ns = valsM D :=
  hp.eq_of_pairwise (fun x y _ _ h1 h2 => Int.le_antisymm h1 h2) hs ((valsM_lt h).imp fun h => Int.le_of_lt h)
section
variable {K : PySem.W.Frag} {H Ha Hb Hn H' : Hp} {s l : Addr} {v : V} {d : PyData}
theorem fr_of (bn : But s H Hn) (Sn : Stm Hn s l) : ∀ b, Hn b = Option.none → H b = Option.none := fun b np => by
  obtain ⟨on, hon⟩ := Sn.at_s
  cases e : H b with
  | none => rfl
  | some o =>
    by_cases z : b = s
    · rw [z, hon] at np; cases np
    · rw [bn _ _ z e] at np; cases np
theorem frs_of (bn : But s H Hn) (Sn : Stm Hn s l) (i : Im K (fun b => Hn b = Option.none) H' v d) : Im K (fun b => H b = Option.none) H' v d := Im.mono (fun _ _ _ e => e) (fr_of bn Sn) _ _ i
theorem frs_keep (S0 : Stm H s l) (b : But s Ha Hb) (i : Im K (fun b => H b = Option.none) Ha v d) : Im K (fun b => H b = Option.none) Hb v d := by
  obtain ⟨os, hos⟩ := S0.at_s
  exact Im.mono (fun c o g e => b c o (fun z => by rw [z, hos] at g; cases g) e) (fun _ g => g) _ _ i
theorem frs_cat {x y : V} {ds es : List PyData} {Q : VK} (bn : But s H Ha) (Sn : Stm Ha s l) (iv : Im K (fun b => H b = Option.none) Ha x (.tuple ds)) (iw : Im K (fun b => H b = Option.none) Ha y (.tuple es)) (hz : ds.length + es.length ≤ 1000)
    (h : ∀ v H', Same Ha H' → Im K (fun b => H b = Option.none) H' v (.tuple (ds ++ es)) → Q v H') : rCatA K x y Ha Q :=
  im_cat iv iw hz fun v H' s' i => h v H' s' (Im.mono (fun _ _ _ e => e) (fun b g => g.elim id (fr_of bn Sn b)) _ _ i)
end
theorem inV_int (v : Int) : ∀ ns : List Int, inV (V.int v) (ns.map V.int) = decide (v ∈ ns)
  | [] => rfl
  | n :: ns => by
    have ih := inV_int v ns
    show (eqV (V.int n) (V.int v) || inV (V.int v) (ns.map V.int)) = _
    rw [ih, show eqV (V.int n) (V.int v) = decide (v = n) by
      by_cases e : v = n
      · subst e; rw [decide_eq_true rfl]; simp [eqV]
      · rw [decide_eq_false e]; simp [eqV]; exact fun z => e z.symm]
    rw [← Bool.decide_or]
    exact decide_eq_decide.mpr (by rw [List.mem_cons])
theorem flat_ints (ns : List Int) : (ns.map V.int).all flatV = true := by
  rw [List.all_map]
  exact List.all_eq_true.mpr fun n _ => rfl
/-! ### the search for different values -/
def putF (o : Int → Option Int) (x v : Int) : Int → Option Int := fun y => if y = x then some v else o y
/-- who owns which value, behind the first k variables -/
structure Own (ch : List (List Int)) (o : Int → Option Int) (k : Nat) : Prop where
  mem : ∀ y w, o y = some w → 0 ≤ w ∧ w < (k : Int) ∧ ∃ cs, ch[w.toNat]? = some cs ∧ y ∈ cs
  all : ∀ w : Int, 0 ≤ w → w < (k : Int) → ∃ y, o y = some w
  inj : ∀ y y' w, o y = some w → o y' = some w → y = y'
abbrev Ask := List (Int × Option (Int × Int))
def askD : Option (Int × Int) → PyData
  | none => .none
  | some p => .tuple [.int p.1, .int p.2]
def keysA (A : Ask) : List Int := A.map (·.1)
/-- an asker stands behind the one that asked for its value -/
inductive AskOk (ch : List (List Int)) (o : Int → Option Int) (start : Int) : Ask → Prop
  | one : AskOk ch o start [(start, none)]
  | more {A : Ask} {w v x : Int} {cs : List Int} : AskOk ch o start A → v ∈ keysA A → w ∉ keysA A → ch[v.toNat]? = some cs → x ∈ cs → o x = some w → AskOk ch o start (A ++ [(w, some (v, x))])
inductive Path (A : Ask) : Int → Int → List (Int × Int) → Prop
  | last {v x : Int} : (v, none) ∈ A → Path A v x [(v, x)]
  | more {v x v' x' : Int} {r : List (Int × Int)} : (v, some (v', x')) ∈ A → Path A v' x' r → Path A v x ((v, x) :: r)
def putAll (o : Int → Option Int) (P : List (Int × Int)) : Int → Option Int := P.foldl (fun o p => putF o p.2 p.1) o
theorem ask_nodup {ch : List (List Int)} {o : Int → Option Int} {start : Int} {A : Ask} (h : AskOk ch o start A) : (keysA A).Nodup := by
  induction h with
  | one => simp [keysA]
  | @more A w v x cs _ _ hw _ _ _ ih =>
    show ((A ++ [(w, some (v, x))]).map (·.1)).Nodup
    rw [List.map_append]
    refine List.nodup_append.mpr ⟨ih, by simp, fun a ha b hb e => ?_⟩
    have hb : b = w := List.mem_singleton.mp hb
    rw [e, hb] at ha
    exact hw ha
/-- what an entry says: its place, and that of the one that asked -/
theorem ask_entry {ch : List (List Int)} {o : Int → Option Int} {start : Int} {A : Ask} (h : AskOk ch o start A) : ∀ {i : Nat} {w : Int} {e : Option (Int × Int)}, A[i]? = some (w, e) →
    (e = none ∧ w = start ∧ i = 0) ∨ ∃ v x cs j, e = some (v, x) ∧ j < i ∧ (∃ e', A[j]? = some (v, e')) ∧ ch[v.toNat]? = some cs ∧ x ∈ cs ∧ o x = some w := by
  induction h with
  | one =>
    intro i w e hi
    cases i with
    | zero =>
      rw [List.getElem?_cons_zero] at hi
      cases hi
      exact .inl ⟨rfl, rfl, rfl⟩
    | succ i => simp at hi
  | @more A w v x cs hA hv hw hc hx ho ih =>
    intro i w' e hi
    by_cases hlt : i < A.length
    · rw [List.getElem?_append_left hlt] at hi
      rcases ih hi with z | ⟨v', x', cs', j, h1, h2, ⟨e', h3⟩, h4⟩
      · exact .inl z
      · exact .inr ⟨v', x', cs', j, h1, h2, ⟨e', by rw [List.getElem?_append_left (by omega)]; exact h3⟩, h4⟩
    · rw [List.getElem?_append_right (by omega)] at hi
      have h0 : i - A.length = 0 := by
        have := (List.getElem?_eq_some_iff.mp hi).1
        rw [List.length_singleton] at this
        omega
      rw [h0, List.getElem?_cons_zero] at hi
      cases hi
      obtain ⟨p, hp, hpv⟩ := List.mem_map.mp hv
      obtain ⟨j, hj⟩ := List.getElem?_of_mem hp
      have hjl := (List.getElem?_eq_some_iff.mp hj).1
      refine .inr ⟨v, x, cs, j, rfl, by omega, ⟨p.2, ?_⟩, hc, hx, ho⟩
      rw [List.getElem?_append_left hjl, hj, ← hpv]
theorem ask_place {A : Ask} (h : (keysA A).Nodup) {i j : Nat} {w : Int} {e e' : Option (Int × Int)} (h1 : A[i]? = some (w, e)) (h2 : A[j]? = some (w, e')) : i = j ∧ e = e' := by
  have a1 : (keysA A)[i]? = some w := by unfold keysA; rw [List.getElem?_map, h1]; rfl
  have a2 : (keysA A)[j]? = some w := by unfold keysA; rw [List.getElem?_map, h2]; rfl
  have b1 := (List.getElem?_eq_some_iff.mp a1).1
  have e1 : i = j := (List.getElem?_inj b1 h).mp (a1.trans a2.symm)
  subst e1
  rw [h1] at h2
  exact ⟨rfl, by cases h2; rfl⟩
/-- handing the values on along the path leaves each variable with a value, and the new one too -/
theorem hand_on {ch : List (List Int)} {o : Int → Option Int} {start : Nat} {A : Ask} (hA : AskOk ch o (start : Int) A) : ∀ {P : List (Int × Int)} {v x : Int} {oc : Int → Option Int} {i : Nat} {e : Option (Int × Int)}, Path A v x P → A[i]? = some (v, e) →
    (∃ cs, ch[v.toNat]? = some cs ∧ x ∈ cs) → (∀ k ∈ keysA A, 0 ≤ k ∧ k ≤ (start : Int)) →
    (∀ y w, oc y = some w → 0 ≤ w ∧ w < (start : Int) ∧ ∃ cs, ch[w.toNat]? = some cs ∧ y ∈ cs) → (∀ w : Int, 0 ≤ w → w < (start : Int) → ∃ y, y ≠ x ∧ oc y = some w) → (∀ y y' w, y ≠ x → y' ≠ x → oc y = some w → oc y' = some w → y = y') →
    (∀ y, (oc y ≠ o y ∨ y = x) → o y = none ∨ ∃ u j e', o y = some u ∧ A[j]? = some (u, e') ∧ i < j) → Own ch (putAll oc P) (start + 1) := by
  intro P
  induction P with
  | nil => intro v x oc i e hp; cases hp
  | cons p P ih =>
    intro v x oc i e hp hi hx hk h1 h2 h3 h4
    have hnd := ask_nodup hA
    cases hp with
    | last hm =>
      obtain ⟨j, hj⟩ := List.getElem?_of_mem hm
      obtain ⟨hij, he⟩ := ask_place hnd hi hj
      rcases ask_entry hA hj with ⟨_, hv, _⟩ | ⟨_, _, _, _, h, _⟩
      · subst hv
        refine ⟨fun y w hw => ?_, fun w w0 w1 => ?_, fun y y' w hy hy' => ?_⟩
        · have hw : (if y = x then some (start : Int) else oc y) = some w := hw
          by_cases e1 : y = x
          · rw [if_pos e1] at hw
            have : (start : Int) = w := Option.some.inj hw
            subst this
            rw [e1]
            exact ⟨by omega, by omega, hx⟩
          · rw [if_neg e1] at hw
            obtain ⟨a, b, c⟩ := h1 y w hw
            exact ⟨a, by omega, c⟩
        · by_cases e1 : w = (start : Int)
          · exact ⟨x, by show (if x = x then some (start : Int) else oc x) = some w; rw [if_pos rfl, e1]⟩
          · obtain ⟨y, y1, y2⟩ := h2 w w0 (by omega)
            exact ⟨y, by show (if y = x then some (start : Int) else oc y) = some w; rw [if_neg y1]; exact y2⟩
        · have hy : (if y = x then some (start : Int) else oc y) = some w := hy
          have hy' : (if y' = x then some (start : Int) else oc y') = some w := hy'
          by_cases e1 : y = x
          · by_cases e2 : y' = x
            · rw [e1, e2]
            · exfalso
              rw [if_pos e1] at hy
              rw [if_neg e2] at hy'
              have := (h1 y' w hy').2.1
              have : (start : Int) = w := Option.some.inj hy
              omega
          · rw [if_neg e1] at hy
            by_cases e2 : y' = x
            · exfalso
              rw [if_pos e2] at hy'
              have := (h1 y w hy).2.1
              have : (start : Int) = w := Option.some.inj hy'
              omega
            · rw [if_neg e2] at hy'
              exact h3 y y' w e1 e2 hy hy'
      · cases h
    | @more _ _ v' x' _ hm hp' =>
      obtain ⟨j, hj⟩ := List.getElem?_of_mem hm
      obtain ⟨hij, he⟩ := ask_place hnd hi hj
      subst hij
      rcases ask_entry hA hj with ⟨h, _⟩ | ⟨v2, x2, cs2, j2, h, hlt, ⟨e2, hj2⟩, hc2, hx2, ho2⟩
      · cases h
      · cases h
        -- x' is v's own
        have hxx : ¬ (oc x' ≠ o x' ∨ x' = x) := fun z => by
          rcases h4 x' z with z | ⟨u, k, e', z1, z2, z3⟩
          · rw [ho2] at z; cases z
          · rw [ho2] at z1
            cases z1
            obtain ⟨z4, _⟩ := ask_place hnd hi z2
            omega
        have ocx : oc x' = some v := by
          cases Classical.em (oc x' = o x') with
          | inl z => rw [z]; exact ho2
          | inr z => exact absurd (.inl z) hxx
        have xne : x' ≠ x := fun z => hxx (.inr z)
        have vlt := (h1 x' v ocx)
        refine ih (oc := putF oc x v) (i := j2) (e := e2) hp' hj2 ⟨cs2, hc2, hx2⟩ hk (fun y w hw => ?_) (fun w w0 w1 => ?_) (fun y y' w n1 n2 hy hy' => ?_) (fun y hy => ?_)
        · have hw : (if y = x then some v else oc y) = some w := hw
          by_cases e1 : y = x
          · rw [if_pos e1] at hw
            cases hw
            rw [e1]
            exact ⟨vlt.1, vlt.2.1, hx⟩
          · rw [if_neg e1] at hw
            exact h1 y w hw
        · by_cases e1 : w = v
          · exact ⟨x, xne.symm, by show (if x = x then some v else oc x) = some w; rw [if_pos rfl, e1]⟩
          · obtain ⟨y, y1, y2⟩ := h2 w w0 w1
            refine ⟨y, fun z => ?_, by show (if y = x then some v else oc y) = some w; rw [if_neg y1]; exact y2⟩
            rw [z, ocx] at y2
            exact e1 (Option.some.inj y2).symm
        · have hy : (if y = x then some v else oc y) = some w := hy
          have hy' : (if y' = x then some v else oc y') = some w := hy'
          by_cases e1 : y = x
          · by_cases e2 : y' = x
            · rw [e1, e2]
            · exfalso
              rw [if_pos e1] at hy
              rw [if_neg e2] at hy'
              cases hy
              exact n2 (h3 y' x' v e2 xne hy' ocx)
          · rw [if_neg e1] at hy
            by_cases e2 : y' = x
            · exfalso
              rw [if_pos e2] at hy'
              cases hy'
              exact n1 (h3 y x' v e1 xne hy ocx)
            · rw [if_neg e2] at hy'
              exact h3 y y' w e1 e2 hy hy'
        · have more : (o y = none ∨ ∃ u j e', o y = some u ∧ A[j]? = some (u, e') ∧ i < j) → (o y = none ∨ ∃ u j e', o y = some u ∧ A[j]? = some (u, e') ∧ j2 < j) := fun z => by
            rcases z with z | ⟨u, k, e', z1, z2, z3⟩
            · exact .inl z
            · exact .inr ⟨u, k, e', z1, z2, by omega⟩
          rcases hy with z | z
          · by_cases e1 : y = x
            · exact more (h4 y (.inr e1))
            · have z : (if y = x then some v else oc y) ≠ o y := z
              rw [if_neg e1] at z
              exact more (h4 y (.inl z))
          · rw [z]
            exact .inr ⟨v, i, _, ho2, hi, hlt⟩
/-- where all values of the askers have owners among them, they are too few -/
theorem too_few {ch : List (List Int)} {o : Int → Option Int} {start : Nat} {A : Ask} (hA : AskOk ch o (start : Int) A) (hO : Own ch o start) (hc : ∀ k ∈ keysA A, ∀ cs, ch[k.toNat]? = some cs → ∀ x ∈ cs, ∃ w, o x = some w ∧ w ∈ keysA A) {L : List Int} (hL : L.Nodup)
    (hl : ∀ x ∈ L, ∃ k ∈ keysA A, ∃ cs, ch[k.toNat]? = some cs ∧ x ∈ cs) : L.length < (keysA A).length := by
  have hnd := ask_nodup hA
  have hs : (start : Int) ∈ keysA A := by
    clear hc hl hnd
    induction hA with
    | one => exact List.mem_singleton.mpr rfl
    | more _ _ _ _ _ _ ih =>
      unfold keysA at *
      rw [List.map_append]
      exact List.mem_append_left _ ih
  have hg : ∀ x ∈ L, ∃ w, o x = some w ∧ w ∈ keysA A := fun x hx => by
    obtain ⟨k, hk, cs, h1, h2⟩ := hl x hx
    exact hc k hk cs h1 x h2
  have main : ∀ (L : List Int) (S : List Int), L.Nodup → (∀ x ∈ L, ∃ w, o x = some w ∧ w ∈ S) → L.length ≤ S.length := by
    intro L
    induction L with
    | nil => intro S _ _; exact Nat.zero_le _
    | cons x L ih =>
      intro S hn hS
      rw [List.nodup_cons] at hn
      obtain ⟨w, hw, hwS⟩ := hS x List.mem_cons_self
      have := ih (S.erase w) hn.2 fun y hy => by
        obtain ⟨u, hu, huS⟩ := hS y (List.mem_cons_of_mem _ hy)
        refine ⟨u, hu, ?_⟩
        rw [List.mem_erase_of_ne fun z => ?_]
        · exact huS
        · rw [z] at hu
          have := hO.inj y x w hu hw
          rw [this] at hy
          exact hn.1 hy
      rw [List.length_erase_of_mem hwS] at this
      have := List.length_pos_of_mem hwS
      rw [List.length_cons]
      omega
  have h1 := main L ((keysA A).erase (start : Int)) hL fun x hx => by
    obtain ⟨w, hw, hwS⟩ := hg x hx
    refine ⟨w, hw, ?_⟩
    rw [List.mem_erase_of_ne]
    · exact hwS
    · intro z
      have := (hO.mem x w hw).2.1
      omega
  rw [List.length_erase_of_mem hs] at h1
  have := List.length_pos_of_mem hs
  omega
theorem nodup_lt {l : List Int} {lo hi : Int} (h : l.Pairwise (· < ·)) (hb : ∀ v ∈ l, lo ≤ v ∧ v ≤ hi) : (l.length : Int) ≤ max (hi + 1 - lo) 0 := lt_len h hb
def AskK (K : PySem.W.Frag) (H : Hp) : List (Key × V) → Ask → Prop
  | [], [] => True
  | p :: kvs, q :: t => p.1 = Sum.inl q.1 ∧ Dp K H p.2 (askD q.2) ∧ AskK K H kvs t
  | _, _ => False
theorem ask_noL (e : Option (Int × Int)) : noL (askD e) = true := by cases e <;> simp [askD, noL, noLA]
theorem AskK.len {K : PySem.W.Frag} {H : Hp} : ∀ {kvs : List (Key × V)} {t : Ask}, AskK K H kvs t → kvs.length = t.length
  | [], [], _ => rfl
  | [], _ :: _, h => h.elim
  | _ :: _, [], h => h.elim
  | p :: kvs, q :: t, h => congrArg (· + 1) (AskK.len h.2.2)
theorem AskK.mono {K : PySem.W.Frag} {H H' : Hp} (f : ∀ v e, Dp K H v (askD e) → Dp K H' v (askD e)) : ∀ {kvs : List (Key × V)} {t : Ask}, AskK K H kvs t → AskK K H' kvs t
  | [], [], _ => True.intro
  | [], _ :: _, h => h.elim
  | _ :: _, [], h => h.elim
  | p :: kvs, q :: t, h => ⟨h.1, f _ _ h.2.1, AskK.mono f h.2.2⟩
theorem AskK.same {K : PySem.W.Frag} {H H' : Hp} {kvs : List (Key × V)} {t : Ask} (s : Same H H') (h : AskK K H kvs t) : AskK K H' kvs t := AskK.mono (fun v e => dp_same s _ _) h
theorem AskK.put {K : PySem.W.Frag} {H : Hp} {p : Addr} {o : HO} {kvs : List (Key × V)} {t : Ask} (hp : notTup H p) (h : AskK K H kvs t) : AskK K (upd H p o) kvs t := AskK.mono (fun v e hd => dp_put hp _ _ (ask_noL e) hd) h
theorem AskK.at_ {K : PySem.W.Frag} {H : Hp} (n : Int) : ∀ {kvs : List (Key × V)} {t : Ask}, AskK K H kvs t → (valV kvs (Sum.inl n) = none ∧ n ∉ keysA t) ∨ ∃ (v : V) (i : Nat) (e : Option (Int × Int)), t[i]? = some (n, e) ∧ valV kvs (Sum.inl n) = some v ∧ Dp K H v (askD e)
  | [], [], _ => .inl ⟨rfl, fun h => nomatch h⟩
  | [], _ :: _, h => h.elim
  | _ :: _, [], h => h.elim
  | p :: kvs, q :: t, h => by
    by_cases e : q.1 = n
    · exact .inr ⟨p.2, 0, q.2, by rw [List.getElem?_cons_zero, ← e], valV_pos (by rw [h.1, e]), h.2.1⟩
    · have e1 : ¬ p.1 = Sum.inl n := fun z => e (Sum.inl.inj (h.1.symm.trans z))
      rw [valV_neg e1]
      rcases AskK.at_ n h.2.2 with ⟨h1, h2⟩ | ⟨v, i, e', h1, h2⟩
      · refine .inl ⟨h1, fun z => ?_⟩
        rcases List.mem_cons.mp z with z | z
        · exact e z.symm
        · exact h2 z
      · exact .inr ⟨v, i + 1, e', by rw [List.getElem?_cons_succ]; exact h1, h2⟩
theorem AskK.snoc {K : PySem.W.Frag} {H : Hp} {n : Int} {v : V} {e : Option (Int × Int)} (hd : Dp K H v (askD e)) : ∀ {kvs : List (Key × V)} {t : Ask}, AskK K H kvs t → AskK K H (kvs ++ [(Sum.inl n, v)]) (t ++ [(n, e)])
  | [], [], _ => ⟨rfl, hd, True.intro⟩
  | [], _ :: _, h => h.elim
  | _ :: _, [], h => h.elim
  | p :: kvs, q :: t, h => ⟨h.1, h.2.1, AskK.snoc hd h.2.2⟩
theorem AskK.keys {K : PySem.W.Frag} {H : Hp} : ∀ {kvs : List (Key × V)} {t : Ask}, AskK K H kvs t → kvs.map (fun kv => kV kv.1) = (keysA t).map V.int
  | [], [], _ => rfl
  | [], _ :: _, h => h.elim
  | _ :: _, [], h => h.elim
  | p :: kvs, q :: t, h => by
    show kV p.1 :: kvs.map _ = V.int q.1 :: (keysA t).map V.int
    rw [h.1, AskK.keys h.2.2]
    rfl
/-- the table of the owners -/
structure OwnK (kvs : List (Key × V)) (o : Int → Option Int) : Prop where
  val : ∀ x, valV kvs (Sum.inl x) = (o x).map V.int
  kvs : ∀ kv ∈ kvs, ∃ x w, kv = (Sum.inl x, V.int w) ∧ o x = some w
theorem own_nil : OwnK [] fun _ => none := ⟨fun _ => rfl, fun _ h => nomatch h⟩
theorem own_put {kvs : List (Key × V)} {o : Int → Option Int} (h : OwnK kvs o) (x v : Int) : OwnK (putK kvs (Sum.inl x) (.int v)) (putF o x v) := by
  refine ⟨fun y => ?_, fun kv hk => ?_⟩
  · have : (putF o x v y).map V.int = if y = x then some (V.int v) else (o y).map V.int := by
      unfold putF
      split <;> rfl
    rw [this, valV_put]
    by_cases e : y = x
    · rw [if_pos e, if_pos (by rw [e])]
    · rw [if_neg e, if_neg (fun z => e (Sum.inl.inj z)), h.val y]
  · unfold putK at hk
    split at hk
    · obtain ⟨kv', h1, h2⟩ := List.mem_map.mp hk
      obtain ⟨x', w', rfl, h3⟩ := h.kvs kv' h1
      by_cases e : x' = x
      · rw [if_pos (by rw [e])] at h2
        exact ⟨x', v, h2.symm, by unfold putF; rw [if_pos e]⟩
      · rw [if_neg (fun z => e (Sum.inl.inj z))] at h2
        exact ⟨x', w', h2.symm, by unfold putF; rw [if_neg e]; exact h3⟩
    · rcases List.mem_append.mp hk with z | z
      · obtain ⟨x', w', rfl, h3⟩ := h.kvs kv z
        by_cases e : x' = x
        · exfalso
          rename_i hn
          exact hn (List.any_eq_true.mpr ⟨_, z, decide_eq_true (by rw [e])⟩)
        · exact ⟨x', w', rfl, by unfold putF; rw [if_neg e]; exact h3⟩
      · exact ⟨x, v, List.mem_singleton.mp z, by unfold putF; rw [if_pos rfl]⟩
def Chs (H : Hp) (c : Addr) (ch : List (List Int)) : Prop := ∃ as : List Addr, H c = some (.lst (as.map V.ref)) ∧ as.length = ch.length ∧ ∀ (i : Nat) (a : Addr) (cs : List Int), as[i]? = some a → ch[i]? = some cs → H a = some (.lst (cs.map V.int))
theorem Chs.same {H H' : Hp} {c : Addr} {ch : List (List Int)} (s : Same H H') : Chs H c ch → Chs H' c ch := fun ⟨as, h1, h2, h3⟩ => ⟨as, s _ _ h1, h2, fun i a cs e1 e2 => s _ _ (h3 i a cs e1 e2)⟩
def ChB (ch : List (List Int)) : Prop := ch.length ≤ 8 ∧ ∀ cs ∈ ch, cs.length ≤ 101
def Few (ch : List (List Int)) (ks : List Int) : Prop := ks.Pairwise (· < ·) ∧ ks ≠ [] ∧ (∀ k ∈ ks, 0 ≤ k ∧ k < (ch.length : Int)) ∧ ∀ L : List Int, L.Nodup → (∀ x ∈ L, ∃ k ∈ ks, ∃ cs, ch[k.toNat]? = some cs ∧ x ∈ cs) → L.length < ks.length
def Fits (ch : List (List Int)) (ns : List Int) : Prop := ns.length = ch.length ∧ ns.Nodup ∧ ∀ (i : Nat) (n : Int) (cs : List Int), ns[i]? = some n → ch[i]? = some cs → n ∈ cs
def QFew (K : PySem.W.Frag) (H : Hp) (ch : List (List Int)) (Q : VK) : Prop := ∀ (b r : Addr) (ks : List Int) (H' : Hp), Same H H' → SqT K H' b [.non, .ref r] → H' r = some (.lst (ks.map V.int)) → Few ch ks → Q (.ref b) H'
def QFit (K : PySem.W.Frag) (H : Hp) (ch : List (List Int)) (Q : VK) : Prop := ∀ (b r : Addr) (ns : List Int) (H' : Hp), Same H H' → SqT K H' b [.ref r, .non] → H' r = some (.lst (ns.map V.int)) → Fits ch ns → Q (.ref b) H'
def DomB (D : List (Int × Int)) : Prop := Can D ∧ (∀ p ∈ D, -50 ≤ p.1 ∧ p.2 ≤ 50) ∧ (valsM D).length ≤ 101
theorem nodup_sub : ∀ (L S : List Int), L.Nodup → (∀ x ∈ L, x ∈ S) → L.length ≤ S.length
  | [], S, _, _ => Nat.zero_le _
  | x :: L, S, hn, hS => by
    rw [List.nodup_cons] at hn
    have hx := hS x List.mem_cons_self
    have := nodup_sub L (S.erase x) hn.2 fun y hy => by
      exact (List.mem_erase_of_ne (fun z : y = x => hn.1 (by rw [← z]; exact hy))).mpr (hS y (List.mem_cons_of_mem _ hy))
    rw [List.length_erase_of_mem hx] at this
    have := List.length_pos_of_mem hx
    rw [List.length_cons]
    omega
theorem ask_range {ch : List (List Int)} {o : Int → Option Int} {s : Nat} {A : Ask} (hO : Own ch o s) (h : AskOk ch o (s : Int) A) : ∀ k ∈ keysA A, 0 ≤ k ∧ k ≤ (s : Int) := by
  induction h with
  | one =>
    intro k hk
    have hk : k = (s : Int) := List.mem_singleton.mp hk
    omega
  | @more A w v x cs _ _ _ _ _ ho ih =>
    intro k hk
    unfold keysA at hk
    rw [List.map_append] at hk
    rcases List.mem_append.mp hk with z | z
    · exact ih k z
    · have z : k = w := List.mem_singleton.mp z
      have := hO.mem x w ho
      omega
theorem ask_len {ch : List (List Int)} {o : Int → Option Int} {s : Nat} {A : Ask} (hO : Own ch o s) (h : AskOk ch o (s : Int) A) : A.length ≤ s + 1 := by
  have := nodup_sub (keysA A) ((List.range (s + 1)).map fun i : Nat => (i : Int)) (ask_nodup h) fun k hk => by
    have := ask_range hO h k hk
    exact List.mem_map.mpr ⟨k.toNat, List.mem_range.mpr (by omega), by omega⟩
  rw [List.length_map, List.length_range] at this
  unfold keysA at this
  rwa [List.length_map] at this
theorem ask_pos {ch : List (List Int)} {o : Int → Option Int} {s : Int} {A : Ask} (h : AskOk ch o s A) : keysA A ≠ [] := by
  cases h with
  | one => exact fun z => nomatch z
  | more => unfold keysA; rw [List.map_append]; simp
def Cl (ch : List (List Int)) (o : Int → Option Int) (A : Ask) (k : Int) : Prop := ∀ cs, ch[k.toNat]? = some cs → ∀ x ∈ cs, ∃ w, o x = some w ∧ w ∈ keysA A
theorem keys_more (A : Ask) (u : Int) (e : Option (Int × Int)) : keysA (A ++ [(u, e)]) = keysA A ++ [u] := by
  unfold keysA
  rw [List.map_append]
  rfl
theorem Cl.more {ch : List (List Int)} {o : Int → Option Int} {A : Ask} {k : Int} (h : Cl ch o A k) (p : Int × Option (Int × Int)) : Cl ch o (A ++ [p]) k := fun cs hc x hx => by
  obtain ⟨w, h1, h2⟩ := h cs hc x hx
  refine ⟨w, h1, ?_⟩
  unfold keysA
  rw [List.map_append]
  exact List.mem_append_left _ h2
theorem few_of {ch : List (List Int)} {o : Int → Option Int} {s : Nat} {A : Ask} {ks : List Int} (hA : AskOk ch o (s : Int) A) (hO : Own ch o s) (hs : s < ch.length) (hc : ∀ k ∈ keysA A, Cl ch o A k) (hp : ks.Perm (keysA A)) (hl : ks.Pairwise (· ≤ ·)) : Few ch ks := by
  have hn : ks.Nodup := hp.nodup_iff.mpr (ask_nodup hA)
  refine ⟨(hl.and hn).imp fun ⟨h1, h2⟩ => by omega, fun z => ?_, fun k hk => ?_, fun L hL h => ?_⟩
  · rw [z] at hp
    exact ask_pos hA hp.symm.eq_nil
  · have := ask_range hO hA k (hp.mem_iff.mp hk)
    omega
  · rw [hp.length_eq]
    exact too_few hA hO hc hL fun x hx => by
      obtain ⟨k, hk, h2⟩ := h x hx
      exact ⟨k, hp.mem_iff.mp hk, h2⟩
structure Ex (K : PySem.W.Frag) (H H' : Hp) (a r : Addr) (ch : List (List Int)) (o : Int → Option Int) (s : Nat) (A : Ask) (Wt : List Int) (kv : List (Key × V)) : Prop where
  same : Same H H'
  ea : H' a = some (.dK kv)
  er : H' r = some (.lst (Wt.map V.int))
  ask : AskK K H' kv A
  ok : AskOk ch o (s : Int) A
  sub : ∀ k ∈ Wt, k ∈ keysA A
  wl : Wt.length ≤ A.length
theorem valV_mem {kvs : List (Key × V)} {k : Key} {v : V} (h : valV kvs k = some v) : (k, v) ∈ kvs := by
  unfold valV at h
  cases e : kvs.find? fun p => decide (p.1 = k) with
  | none => rw [e] at h; cases h
  | some p =>
    rw [e] at h
    have h0 := List.find?_some e
    have h1 : p.1 = k := of_decide_eq_true h0
    have h2 : p.2 = v := Option.some.inj h
    rw [← h1, ← h2]
    exact List.mem_of_find?_eq_some e
theorem fits_of {ch : List (List Int)} {o : Int → Option Int} {ns : List Int} (hO : Own ch o ch.length) (hl : ns.length = ch.length) (h : ∀ (k : Nat) (n : Int), ns[k]? = some n → o n = some (k : Int)) : Fits ch ns := by
  refine ⟨hl, List.pairwise_iff_getElem.mpr fun i j hi hj hij e => ?_, fun i n cs h1 h2 => ?_⟩
  · have a1 := h i _ (List.getElem?_eq_getElem hi)
    have a2 := h j _ (List.getElem?_eq_getElem hj)
    rw [e, a2] at a1
    have := Option.some.inj a1
    omega
  · obtain ⟨_, _, cs', h3, h4⟩ := hO.mem n _ (h i n h1)
    rw [show ((i : Int)).toNat = i from rfl, h2] at h3
    cases h3
    exact h4
theorem putAll_snoc (o : Int → Option Int) (P : List (Int × Int)) (p : Int × Int) : putAll o (P ++ [p]) = putF (putAll o P) p.2 p.1 := by
  unfold putAll
  rw [List.foldl_append]
  rfl
def wides4 : List Int := [3, 5, 9, 50]
theorem doms_noL : ∀ Ds : List (List (Int × Int)), noLA (Ds.map domD) = true
  | [] => by simp [noLA]
  | D :: Ds => by rw [List.map_cons, noLA, dom_noL, doms_noL Ds]; rfl
theorem domB_of {D : List (Int × Int)} {ns : List Int} (h : IsDom D ns) (hb : ∀ n ∈ ns, -50 ≤ n ∧ n ≤ 50) : DomB D := ⟨h.1, dom_bounds h hb, vals_len h hb⟩
theorem dps_but {K : PySem.W.Frag} {H H' : Hp} {s l : Addr} {vs : List V} {ds : List PyData} (S : Stm H s l) (b : But s H H') (n : noLA ds = true) (h : DpAll K H vs ds) : DpAll K H' vs ds := by
  obtain ⟨x, y, m, ns, e, _⟩ := S.ex
  exact dp_mapAll (fun c xs g => sqT_but (.inl ⟨_, e⟩) b g) _ _ n h
theorem doms_lay : ∀ Ds : List (List (Int × Int)), PyData.canLayAll0 (Ds.map domD) = true ∧ PyData.depthAll (Ds.map domD) ≤ 2 ∧ PyData.eqvAll (Ds.map domD) (Ds.map domD) = true
  | [] => ⟨by simp [PyData.canLayAll0], by simp [PyData.depthAll], by simp [PyData.eqvAll]⟩
  | D :: Ds => by
    obtain ⟨a, b, c⟩ := doms_lay Ds
    obtain ⟨a1, b1, _⟩ := pd_lay D
    rw [List.map_cons]
    have e : (domD D).canLay0 = true := by unfold domD; simp only [PyData.canLay0]; exact a1
    have f : (domD D).depth ≤ 2 := by unfold domD; simp only [PyData.depth]; omega
    refine ⟨by simp only [PyData.canLayAll0, a, e, Bool.and_self], ?_, by simp only [PyData.eqvAll, c, dom_eqv D, Bool.and_self]⟩
    simp only [PyData.depthAll]
    omega
theorem doms_shaped (Ds : List (List (Int × Int))) : SeqAt.shaped (.list (Ds.map domD)) = true := by
  obtain ⟨a, b, _⟩ := doms_lay Ds
  have hd : (PyData.list (Ds.map domD)).depth ≤ 64 := by simp only [PyData.depth]; omega
  have hc : (PyData.list (Ds.map domD)).canLay0 = true := by simp only [PyData.canLay0]; exact a
  show ((PyData.list (Ds.map domD)).canLay0 && decide ((PyData.list (Ds.map domD)).depth ≤ 64)) = true
  rw [hc, decide_eq_true hd]
  rfl
theorem doms_eqv (Ds : List (List (Int × Int))) : PyData.eqv (.list (Ds.map domD)) (.list (Ds.map domD)) = true := by
  simp only [PyData.eqv]
  exact (doms_lay Ds).2.2
theorem nopart_of {σ : L2.St} {H : Hp} {Q : Option Int → Hp → Prop} (h : Q Option.none H) : tNoPart σ H Q := h
theorem nodup_take {ns : List Int} (h : ns.Nodup) {i : Nat} {n : Int} (hn : ns[i]? = some n) : n ∉ ns.take i := by
  intro hm
  obtain ⟨j, hj⟩ := List.getElem?_of_mem hm
  have hji : j < i := by
    have := (List.getElem?_eq_some_iff.mp hj).1
    rw [List.length_take] at this
    omega
  rw [List.getElem?_take_of_lt hji] at hj
  have := (List.getElem?_inj (List.getElem?_eq_some_iff.mp hj).1 h).mp (hj.trans hn.symm)
  omega
/-! ### the promises -/
def sp__law_is_integer (K : PySem.W.Frag) : Sp := fun vs H Q _ => ∃ (x : V) (d : PyData), vs = [x] ∧ Dp K H x d ∧ Q (.bl (isI d && !isB d)) H
def sp__law_domain (K : PySem.W.Frag) : Sp := fun vs H Q _ => ∃ (a : Addr) (ns : List Int), vs = [.ref a] ∧ SqL K H a (ns.map V.int) ∧ ns.length ≤ 200 ∧ ∀ v D H', Same H H' → IsDom D ns → Dp K H' v (domD D) → Q v H'
def sp_values (K : PySem.W.Frag) : Sp := fun vs H Q _ => ∃ (x : V) (D : List (Int × Int)), vs = [x] ∧ Dp K H x (domD D) ∧ (valsM D).length ≤ 101 ∧ Can D ∧ (∀ p ∈ D, -50 ≤ p.1 ∧ p.2 ≤ 50) ∧ ∀ r H', Same H H' → H r = Option.none → H' r = some (.lst ((valsM D).map V.int)) → Q (.ref r) H'
def sp__law_values (K : PySem.W.Frag) : Sp := sp_values K
def sp_handed_on (K : PySem.W.Frag) : Sp := fun vs H Q _ => ∃ (a : Addr) (v x : Int) (kvs : List (Key × V)) (A : Ask) (ch : List (List Int)) (o : Int → Option Int) (s : Int), vs = [.ref a, .int v, .int x] ∧ H a = some (.dK kvs) ∧ AskK K H kvs A ∧ AskOk ch o s A ∧ v ∈ keysA A ∧ A.length ≤ 8 ∧
  ∀ (r : Addr) (P : List (Int × Int)) (ys : List V) (H' : Hp), Same H H' → H r = Option.none → Path A v x P → P.length ≤ A.length → H' r = some (.lst ys) → DpAll K H' ys (P.map ivD) → Q (.ref r) H'
def sp_exchange (K : PySem.W.Frag) : Sp := fun vs H Q _ => ∃ (s : Nat) (c w : Addr) (ch : List (List Int)) (kvs : List (Key × V)) (o : Int → Option Int), vs = [.int (s : Int), .ref c, .ref w] ∧ Chs H c ch ∧ ChB ch ∧ H w = some (.dK kvs) ∧ OwnK kvs o ∧ Own ch o s ∧ s < ch.length ∧
  (∀ (b r : Addr) (P : List (Int × Int)) (ys : List V) (H' : Hp), Same H H' → SqT K H' b [.ref r, .non] → H r = Option.none → H' r = some (.lst ys) → DpAll K H' ys (P.map ivD) → P.length ≤ 8 → Own ch (putAll o P) (s + 1) → Q (.ref b) H') ∧ QFew K H ch Q
def sp_match_choices (K : PySem.W.Frag) : Sp := fun vs H Q _ => ∃ (c : Addr) (ch : List (List Int)), vs = [.ref c] ∧ Chs H c ch ∧ ChB ch ∧ QFit K H ch Q ∧ QFew K H ch Q
def sp_distinct_values (K : PySem.W.Frag) : Sp := fun vs H Q _ => ∃ (g : Addr) (gs : List V) (Ds : List (List (Int × Int))), vs = [.ref g] ∧ H g = some (.lst gs) ∧ DpAll K H gs (Ds.map domD) ∧ (∀ D ∈ Ds, DomB D) ∧ Ds.length ≤ 8 ∧ QFit K H (Ds.map valsM) Q ∧ QFew K H (Ds.map valsM) Q
def sp__law_domains (K : PySem.W.Frag) : Sp := fun vs H Q _ => ∃ (s l : Addr), vs = [.ref s] ∧ Stm H s l ∧ ∀ (r : Addr) (gs : List V) (Ds : List (List (Int × Int))) (H' : Hp), H' r = some (.lst gs) → DpAll K H' gs (Ds.map domD) → (∀ D ∈ Ds, DomB D) → Ds.length ≤ 8 → Q (.ref r) H'
def sp_law (K : PySem.W.Frag) : Sp := fun vs H Q _ => ∃ (a : Addr) (ns : List Int), vs = [.ref a] ∧ SqL K H a (ns.map V.int) ∧ ns.length ≤ 63 ∧ ∀ H', Q (.bl true) H'

local macro_rules | `(tactic| walk_at "lits") => `(tactic| repeat' (first | exact lit_int | exact lit_str | exact lit_bl | exact lit_non | exact litA_nil | refine litA_cons ?_ ?_ | refine lit_tup ?_ (by decide) | refine lit_lst ?_ (by decide) | refine lit_neg ?_ | refine lit_sub ?_ ?_ | refine lit_pow ?_ ?_ ⟨by decide, by decide, by decide⟩ | refine lit_mulS ?_ ?_ ⟨by decide, by decide, by decide⟩))
section
variable {P : Program} {w : World} {K : PySem.W.Frag} {mg : Str → Option Value} {base : Heap}
theorem ok_values {f : Addr} {fd : FuncData} (F : Fun K "values" "values" s_values f fd) (E : Bi K mg)  : FnOk P w K mg base CX0 1 f fd ["given"] (sp_values K) := by
  refine F.ok sc_values (fun vs H Q E h => ?_) (fun cdv A outer s H vs Q E' hr h => ?_)
  · obtain ⟨x, D, rfl, _⟩ := h
    rfl
  · obtain ⟨x, D, rfl, hx, hl, hc, hb, q⟩ := h
    refine ⟨_, (pss_one (ps_ret (pe_lc2 (own := [("low", 1), ("high", 2), ("value", 3)]) (vs1 := [3]) (g := gTup K 2 (gCons (gName 1) (gCons (gName 2) gNil))) (g1 := gName 3) (tt := tYes) (tt1 := tYes) rfl sc_values.nd (pi_tup (pv 0)) (blkOk_by (N := N_values) (sc := defScope s_values) (by decide +kernel)) (by decide) (fun _ _ _ _ _ => pg_tup rfl (pgs_cons (pg_name (i := 1) sc_values.nd rfl (Or.inl rfl)) (pgs_cons (pg_name (i := 2) sc_values.nd rfl (Or.inl rfl)) pgs_nil))) (fun _ _ _ _ _ => pts_nil) (fun _ _ _ _ _ => (pi_range2 (by rfl) E.b_range (pa_cons (pv 1) (pa_cons (pe_op op_add (pv 2) pe_int) pa_nil)))) (fun _ _ _ _ _ => pg_name (i := 3) sc_values.nd rfl (Or.inl rfl)) (fun _ _ _ _ _ => pts_nil) (fun _ _ _ _ _ => (pv 3))))), ?_⟩
    unfold domD at hx
    cases id hx with
    | @tup a xs _ hs ha =>
    have hxl := DpAll.len ha
    rw [List.length_map] at hxl
    refine ⟨_, rfl, a, rfl, ⟨_, hs⟩, fun R hR => ?_⟩
    refine walk_gen (n := xs.length) walk_tup (fun i H' => Same H H' ∧ H' R = some (.lst ((valsM (D.take i)).map V.int))) ⟨same_upd hR, upd_same⟩ (fun i H' _ h => same_sqT h.1 hs) ?_ ?_
    · rintro i y H1 H2 hi ⟨s1, h1⟩ ⟨rfl, hy⟩
      obtain ⟨d, hd, dy0⟩ := DpAll.getV ha hy
      rw [List.getElem?_map] at hd
      obtain ⟨p, hp, rfl⟩ : ∃ p, D[i]? = some p ∧ ivD p = d := by
        cases hr : D[i]? with
        | none => rw [hr] at hd; cases hd
        | some p => rw [hr] at hd; exact ⟨p, rfl, Option.some.inj hd⟩
      have hpm := List.mem_of_getElem? hp
      obtain ⟨b1, b2⟩ := hb p hpm
      have hpp := can_mem hc p hpm
      obtain ⟨k1, k2⟩ := pre_bounds hl i hp
      have dy := dp_same s1 _ _ dy0
      unfold ivD at dy
      cases id dy with
      | @tup c zs _ hz az =>
      cases az with
      | cons e1 az =>
      cases az with
      | cons e2 az =>
      cases az
      cases e1
      cases e2
      refine ⟨c, _, rfl, hz, rfl, _, _, rfl, gname ⟨_, [], rfl, gname ⟨rfl, ?_⟩⟩⟩
      refine ⟨rfl, ?_⟩
      refine ⟨_, rfl, _, rfl, _, _, rfl, rfl, _, _, rfl, ⟨by omega, by omega, by omega, by omega⟩, ?_⟩
      refine walk_gen (n := (p.2 + 1 - p.1).toNat) walk_range (fun j H' => Same H H' ∧ H' R = some (.lst ((valsM (D.take i) ++ (vals p).take j).map V.int))) ⟨s1, by rw [List.take_zero, List.append_nil]; exact h1⟩ (fun _ _ _ _ => trivial) ?_ ?_
      · rintro j z H3 H4 hj ⟨s3, h3⟩ ⟨rfl, rfl⟩
        refine ⟨rfl, _, rfl, _, h3, small1000 (by rw [List.length_map, List.length_append, List.length_take]; omega), fun b o e => by rw [upd_ne (ne_of_none e hR)]; exact s3 _ _ e, ?_⟩
        rw [upd_same, List.take_add_one, vals_take hj, ← List.append_assoc, List.map_append, List.map_append, List.map_append]
        rfl
      · rintro H3 ⟨s3, h3⟩
        rw [← vals_length, List.take_length] at h3
        exact ⟨s3, by rw [k2]; exact h3⟩
    · rintro H1 ⟨s1, h1⟩
      rw [hxl, List.take_length] at h1
      exact q _ _ s1 hR h1

theorem ok_handed_on {f : Addr} {fd : FuncData} (F : Fun K "handed_on" "handed_on" s_handed_on f fd) (E : Bi K mg)  : FnOk P w K mg base CX0 1 f fd ["askers", "variable", "value"] (sp_handed_on K) := by
  refine F.ok sc_handed_on (fun vs H Q E h => ?_) (fun cdv A outer s H vs Q E' hr h => ?_)
  · obtain ⟨a, v, x, kvs, A, ch, o, s, rfl, _⟩ := h
    rfl
  · obtain ⟨a, v, x, kvs, A, ch, o, s, rfl, ha, hA, hok, hv, hl, q⟩ := h
    refine ⟨_, (pss_cons (ps_set (i := 3) sc_handed_on.nd rfl (Or.inl rfl) (pe_lst (pa_cons (pe_tup (pa_cons (pv 1) (pa_cons (pv 2) pa_nil))) pa_nil)))
      (pss_cons (ps_while PassesOwn.never (pt_cmpR op_notN (pe_dget (hu_of hr) (pv 0) (pv 1) (fun _ _ => rfl)) pe_non (nomark _)) (pss_cons (ps_asg (pe_dget (hu_of hr) (pv 0) (pv 1) (fun _ _ => rfl)) (pg_tup rfl (pgs_cons (pg_name (i := 1) sc_handed_on.nd rfl (Or.inl rfl)) (pgs_cons (pg_name (i := 2) sc_handed_on.nd rfl (Or.inl rfl)) pgs_nil))))
      (pss_one (ps_expr (pe_bm PySem.F.plainAttrs_list PySem.F.slot_list_append PySem.F.type_list_append mt_append (pv 3) (pa_cons (pe_tup (pa_cons (pv 1) (pa_cons (pv 2) pa_nil))) pa_nil))))))
      (pss_one (ps_ret (pv 3))))), ?_⟩
    have hnd := ask_nodup hok
    refine seq_asg ?_
    refine ⟨_, rfl, _, rfl, (by show 2 ≤ sizeLine; decide), fun t1 nt1 => ⟨(by show 1 ≤ sizeLine; decide), fun r nr => ?_⟩⟩
    refine gname (seq_any ?_)
    have st1 := same_upd (o := .tup [.int v, .int x]) nt1
    have nr0 : H r = Option.none := by
      cases e : H r with
      | none => rfl
      | some z => rw [st1 _ _ e] at nr; cases nr
    have s1 := st1.trans (same_upd (o := .lst [.ref t1]) nr)
    have dt : Dp K (upd (upd H t1 (.tup [.int v, .int x])) r (.lst [.ref t1])) (.ref t1) (ivD (v, x)) := .tup (SqT.of (same_upd (o := .lst [.ref t1]) nr _ _ upd_same)) (.cons (.int _) (.cons (.int _) .nil))
    have e1 : (upd (upd H t1 (.tup [.int v, .int x])) r (.lst [.ref t1])) r = some (.lst [.ref t1]) := upd_same
    obtain ⟨i0, hi0⟩ : ∃ i e, A[i]? = some (v, e) := by
      obtain ⟨p, hp, hpv⟩ := List.mem_map.mp hv
      obtain ⟨j, hj⟩ := List.getElem?_of_mem hp
      exact ⟨j, p.2, by rw [hj, ← hpv]⟩
    obtain ⟨e0, hi0⟩ := hi0
    generalize upd (upd H t1 (.tup [.int v, .int x])) r (.lst [.ref t1]) = H1 at s1 dt e1
    have il0 := (List.getElem?_eq_some_iff.mp hi0).1
    refine ⟨fun m σ H' => ∃ (v' x' : Int) (F : List (Int × Int)) (ys : List V) (e : Option (Int × Int)), σ = [some (.ref a), some (.int v'), some (.int x'), some (.ref r)] ∧ Same H H' ∧ H' r = some (.lst ys) ∧ DpAll K H' ys ((F ++ [(v', x')]).map ivD) ∧ A[m]? = some (v', e) ∧ F.length + 1 + m ≤ A.length ∧ ∀ P, Path A v' x' P → Path A v x (F ++ P),
      ⟨i0, v, x, [], _, e0, rfl, s1, e1, .cons dt .nil, hi0, by show 0 + 1 + i0 ≤ A.length; omega, fun P h => h⟩, ?_⟩
    rintro m σ H2 ⟨v', x', F, ys, e, rfl, s2, e2, d2, hm, hl2, hP⟩
    have hyl := DpAll.len d2
    rw [List.length_map, List.length_append, List.length_singleton] at hyl
    have A2 := AskK.same s2 hA
    have g2 : DGet H2 a (.int v') (valV kvs (Sum.inl v')) := DGet.k (k := Sum.inl v') (s2 _ _ ha)
    rcases AskK.at_ v' A2 with ⟨_, hn⟩ | ⟨z, j, e', hj, hz, dz⟩
    · exact absurd (List.mem_map.mpr ⟨_, List.mem_of_getElem? hm, rfl⟩) hn
    obtain ⟨rfl, rfl⟩ := ask_place hnd hm hj
    rw [hz] at g2
    refine ⟨_, rfl, _, rfl, a, z, rfl, g2, rfl, ?_⟩
    cases e with
    | none =>
      cases dz
      rw [decide_eq_true rfl]
      exact ⟨_, rfl, _, rfl, q r _ ys H2 s2 nr0 (hP _ (.last (List.mem_of_getElem? hm))) (by rw [List.length_append]; show F.length + 1 ≤ _; omega) e2 d2⟩
    | some p =>
      obtain ⟨v2, x2⟩ := p
      unfold askD at dz
      cases id dz with
      | @tup c zs _ hc az =>
      cases az with
      | cons y1 az =>
      cases az with
      | cons y2 az =>
      cases az
      cases y1
      cases y2
      rw [decide_eq_false (fun z => nomatch z)]
      rcases ask_entry hok hm with ⟨h, _⟩ | ⟨v3, x3, cs, j, h, hlt, ⟨e3, hj3⟩, _, _, _⟩
      · cases h
      cases h
      refine ⟨_, rfl, _, fun σ' H' h => h, ?_⟩
      refine ⟨_, rfl, _, rfl, a, _, rfl, g2, c, _, rfl, hc, rfl, _, _, rfl, gname ⟨_, [], rfl, gname ⟨rfl, ?_⟩⟩⟩
      refine ⟨_, rfl, .inl ⟨rfl, _, SqL.of e2⟩, _, rfl, _, rfl, (by show 2 ≤ sizeLine; decide), fun t2 nt2 => ?_⟩
      have st2 := same_upd (o := .tup [.int v2, .int x2]) nt2
      have nt : notTup (upd H2 t2 (.tup [.int v2, .int x2])) r := .inl ⟨_, st2 _ _ e2⟩
      refine ⟨_, _, _, rfl, rfl, st2 _ _ e2, small1000 (by omega), ?_⟩
      refine ⟨j, hlt, v2, x2, F ++ [(v', x')], _, e3, rfl, fun b o e => by rw [upd_ne (ne_of_none e nr0)]; exact st2 _ _ (s2 _ _ e), upd_same, ?_, hj3, by rw [List.length_append, List.length_singleton]; omega, fun P h => ?_⟩
      · rw [List.map_append]
        exact DpAll.app (dp_putAll nt _ _ (pd_lay _).2.2.2 (dp_sameAll st2 _ _ d2)) (.cons (dp_put nt _ _ (by simp [ivD, noL, noLA]) (.tup (SqT.of upd_same) (.cons (.int _) (.cons (.int _) .nil)))) .nil)
      · rw [List.append_assoc]
        exact hP _ (.more (List.mem_of_getElem? hm) h)

theorem ok__law_stream {f : Addr} {fd : FuncData} (F : Fun K "_law_stream" "_law_stream" s__law_stream f fd) (E : Bi K mg)  : FnOk P w K mg base CX0 1 f fd ["script"] (sp__law_stream K) := by
  refine F.ok sc__law_stream (fun vs H Q E h => ?_) (fun cdv A outer s H vs Q E' hr h => ?_)
  · obtain ⟨a, ns, rfl, _⟩ := h
    rfl
  · obtain ⟨a, ns, rfl, hS, hl, q⟩ := h
    refine ⟨_, (pss_cons (ps_set (i := 1) sc__law_stream.nd rfl (Or.inl rfl) pe_int)
      (pss_cons (ps_for PassesOwn.never rfl (pi_list (pv 0)) (pg_name (i := 2) sc__law_stream.nd rfl (Or.inl rfl)) (pss_one (ps_set (i := 1) sc__law_stream.nd rfl (Or.inl rfl) (pe_op op_mod (pe_callTy call_int1 (by rfl) E.b_int (by decide +kernel) (pa_cons (pe_op op_add (pe_op op_add (pe_op op_mul (pv 1) pe_int) (pe_op op_mod (pe_callTy call_int1 (by rfl) E.b_int (by decide +kernel) (pa_cons (pv 2) pa_nil)) pe_int)) pe_int) pa_nil)) pe_int))))
      (pss_one (ps_ret (pe_lst (pa_cons (pe_callTy call_list_of (by rfl) E.b_list (by decide +kernel) (pa_cons (pv 0) pa_nil)) (pa_cons pe_int (pa_cons pe_int (pa_cons (pv 1) pa_nil))))))))), ?_⟩
    refine ⟨_, rfl, a, rfl, ⟨_, hS⟩, for_list (K := K) (a := a) (xs := ns.map V.int) (fun i σ H1 => ∃ (m : Int) (v : Option V), σ = [some (.ref a), some (.int m), v] ∧ H1 = H ∧ 0 ≤ m ∧ m < 2147483647)
      ⟨17, none, rfl, rfl, by decide, by decide⟩ (fun i σ H1 _ ⟨_, _, _, e, _⟩ => by rw [e]; exact hS) ?_ ?_⟩
    · rintro i y σ H1 hi ⟨m, v, rfl, rfl, h0, h1⟩
      obtain ⟨z, rfl⟩ : ∃ z, y = V.int z := by
        rw [List.getElem?_map] at hi
        cases e : ns[i]? with
        | none =>
          rw [e] at hi
          cases hi
        | some z =>
          rw [e] at hi
          exact ⟨z, (Option.some.inj hi).symm⟩
      refine ⟨_, rfl, _, _, rfl, rfl, .inr ⟨by decide, by decide⟩, _, rfl, .inl ⟨_, rfl, _, _, rfl, rfl, (by decide : (0 : Int) < 65521), _, _, rfl, rfl, _, _, rfl, rfl, .inl ⟨_, rfl, _, _, rfl, rfl, (by decide : (0 : Int) < 2147483647), ?_⟩⟩⟩
      exact ⟨_, _, rfl, rfl, Int.emod_nonneg _ (by decide), Int.emod_lt_of_pos _ (by decide)⟩
    · rintro σ H1 ⟨m, v, rfl, rfl, h0, h1⟩
      refine ⟨_, rfl, a, _, rfl, .inl hS, fun l hl2 => ⟨_, rfl, (by show 4 ≤ sizeLine; decide), fun p hp => ?_⟩⟩
      have npl : l ≠ p := fun z => by
        rw [← z, upd_same] at hp
        cases hp
      refine q p l _ ((same_upd hl2).free hp) hl2 ((same_upd hl2).trans (same_upd hp)) ⟨0, 0, m, ns, upd_same, ?_, hl, Int.le_refl 0, Int.le_refl 0, h0, h1⟩
      rw [upd_ne npl, upd_same]

theorem ok__law_draw {f : Addr} {fd : FuncData} (F : Fun K "_law_draw" "_law_draw" s__law_draw f fd) (E : Bi K mg)  : FnOk P w K mg base CX0 1 f fd ["stream", "many"] (sp__law_draw K) := by
  refine F.ok sc__law_draw (fun vs H Q E h => ?_) (fun cdv A outer s H vs Q E' hr h => ?_)
  · obtain ⟨s, l, n, rfl, _⟩ := h
    rfl
  · obtain ⟨p, l, n, rfl, hS, hn, hn2, q⟩ := h
    obtain ⟨a, b, m, ns, h1, h2, hlen, ha, hb, hm, hm2⟩ := hS.ex
    have nlp : l ≠ p := fun z => by
      rw [z, h1] at h2
      have h3 := HO.lst.inj (Option.some.inj h2)
      cases ns with
      | nil => cases h3
      | cons x r => cases (List.cons.inj h3).1
    refine ⟨_, (pss_cons (ps_if (pw_and (pt_cmpR op_eq (pe_ix ix_list (pv 0) pe_int (fun _ _ => rfl)) pe_int (nomark _)) (pw_and1 (pt_cmpR op_lt (pe_ix ix_list (pv 0) pe_int (fun _ _ => rfl)) (pe_callB call_len_seq (by rfl) E.b_len PySem.boot_len (pa_cons (pe_ix ix_list (pv 0) pe_int (fun _ _ => rfl)) pa_nil)) (nomark _)))).pt (pss_cons (ps_asg (pe_callB call_abs (by rfl) E.b_abs (by decide +kernel) (pa_cons (pe_callTy call_int1 (by rfl) E.b_int (by decide +kernel) (pa_cons (pe_ix ix_list (pe_ix ix_list (pv 0) pe_int (fun _ _ => rfl)) (pe_ix ix_list (pv 0) pe_int (fun _ _ => rfl)) (fun _ _ => rfl)) pa_nil)) pa_nil)) (pg_sub (pv 0) pe_int set_list))
      (pss_one (ps_asg (pe_op op_add (pe_ix ix_list (pv 0) pe_int (fun _ _ => rfl)) pe_int) (pg_sub (pv 0) pe_int set_list)))) pss_nil)
      (pss_cons (ps_if (pt_cmpR op_eq (pe_ix ix_list (pv 0) pe_int (fun _ _ => rfl)) pe_int (nomark _)) (pss_cons (ps_asg (pe_op op_mod (pe_callTy call_int1 (by rfl) E.b_int (by decide +kernel) (pa_cons (pe_op op_add (pe_op op_mul (pe_ix ix_list (pv 0) pe_int (fun _ _ => rfl)) pe_int) pe_int) pa_nil)) pe_int) (pg_sub (pv 0) pe_int set_list))
      (pss_one (ps_ret (pe_op op_mod (pe_callTy call_int1 (by rfl) E.b_int (by decide +kernel) (pa_cons (pe_op op_fdivW (pe_ix ix_list (pv 0) pe_int (fun _ _ => rfl)) pe_int) pa_nil)) (pv 1))))) pss_nil)
      (pss_cons (ps_set (i := 2) sc__law_draw.nd rfl (Or.inl rfl) (pe_op op_mod (pe_callTy call_int1 (by rfl) E.b_int (by decide +kernel) (pa_cons (pe_ix ix_list (pv 0) pe_int (fun _ _ => rfl)) pa_nil)) (pv 1)))
      (pss_cons (ps_asg (pe_op op_fdivW (pe_ix ix_list (pv 0) pe_int (fun _ _ => rfl)) (pv 1)) (pg_sub (pv 0) pe_int set_list))
      (pss_one (ps_ret (pv 2))))))), ?_⟩
    refine ⟨_, rfl, _, _, _, _, rfl, rfl, SqL.of h1, atI_nat (j := 1) rfl, rfl, _, rfl, ite2 (fun e => ?_) (fun e => ?_)⟩
    · refine ⟨_, rfl, _, _, _, _, rfl, rfl, SqL.of h1, atI_nat (j := 2) rfl, _, rfl, _, _, _, _, rfl, rfl, SqL.of h1, atI_nat (j := 0) rfl, _, _, rfl, .inl (SqL.of h2), _, _, rfl, rfl, _, rfl, ite2 (fun e1 => ?_) (fun e1 => ?_)⟩
      · have e2 : b < (ns.map V.int).length := of_decide_eq_true e1
        rw [List.length_map] at e2
        have hz : (ns.map V.int)[b.toNat]? = some (V.int (ns[b.toNat]'(by omega))) := by
          rw [List.getElem?_map, List.getElem?_eq_getElem (by omega)]
          rfl
        refine ⟨_, rfl, _, _, _, _, rfl, rfl, SqL.of h1, atI_nat (j := 0) rfl, _, rfl, _, _, _, _, rfl, rfl, SqL.of h1, atI_nat (j := 2) rfl, _, _, _, _, rfl, rfl, SqL.of h2, at_of (j := b.toNat) (by omega) hz, .inl ⟨_, rfl, _, rfl, _, rfl, _, _, _, _, rfl, rfl, h1, rfl, ?_⟩⟩
        refine ⟨_, rfl, _, _, _, _, rfl, rfl, SqL.of upd_same, atI_nat (j := 2) rfl, _, _, rfl, rfl, _, rfl, _, _, _, _, rfl, rfl, upd_same, rfl, ?_⟩
        generalize hH : upd _ p _ = H1
        have hX : ∃ a' b' : Int, H1 p = some (.lst [.ref l, .int a', .int b', .int m]) ∧ 0 ≤ a' ∧ 0 ≤ b' := ⟨_, _, by rw [← hH]; exact upd_same, by split <;> omega, by omega⟩
        have hB : But p H H1 := by rw [← hH]; exact But.put.trans But.put
        have hL : H1 l = some (.lst (ns.map V.int)) := hB l _ nlp h2
        clear hH
        obtain ⟨a', b', hX, ha', hb'⟩ := hX
        refine ⟨_, rfl, _, _, _, _, rfl, rfl, SqL.of hX, atI_nat (j := 1) rfl, rfl, _, rfl, ite2 (fun e3 => ?_) (fun e3 => ?_)⟩
        · refine ⟨_, rfl, _, _, _, _, rfl, rfl, SqL.of hX, atI_nat (j := 3) rfl, _, _, rfl, rfl, .inr ⟨by decide, by decide⟩, _, _, rfl, rfl, .inl ⟨_, rfl, _, _, rfl, rfl, (by decide : (0 : Int) < 2147483647), _, rfl, _, _, _, _, rfl, rfl, hX, rfl, ?_⟩⟩
          refine ⟨_, rfl, _, _, _, _, rfl, rfl, SqL.of upd_same, atI_nat (j := 3) rfl, _, _, rfl, rfl, wide_div (b := 64) (by decide) (by decide) (by decide) (by decide), .inl ⟨_, rfl, _, rfl, _, _, rfl, rfl, hn, ?_⟩⟩
          exact q _ _ (Int.emod_nonneg _ (by omega)) (Int.emod_lt_of_pos _ hn) (hB.trans But.put) ⟨a', b', _, ns, upd_same, by rw [upd_ne nlp]; exact hL, hlen, ha', hb', Int.emod_nonneg _ (by decide), Int.emod_lt_of_pos _ (by decide)⟩
        · refine ⟨_, rfl, _, _, _, _, rfl, rfl, SqL.of hX, atI_nat (j := 1) rfl, .inl ⟨_, rfl, _, rfl, _, _, rfl, rfl, hn, ?_⟩⟩
          refine ⟨_, rfl, _, _, _, _, rfl, rfl, SqL.of hX, atI_nat (j := 1) rfl, _, rfl, _, _, rfl, rfl, wide_div hn hn2 (by decide) (by decide), _, rfl, _, _, _, _, rfl, rfl, hX, rfl, ?_⟩
          refine ⟨_, rfl, ?_⟩
          exact q _ _ (Int.emod_nonneg _ (by omega)) (Int.emod_lt_of_pos _ hn) (hB.trans But.put) ⟨_, b', m, ns, upd_same, by rw [upd_ne nlp]; exact hL, hlen, Int.ediv_nonneg ha' (by omega), hb', hm, hm2⟩
      · have hX : ∃ a' b' : Int, H p = some (.lst [.ref l, .int a', .int b', .int m]) ∧ 0 ≤ a' ∧ 0 ≤ b' := ⟨_, _, h1, ha, hb⟩
        have hB : But p H H := But.refl p H
        have hL := h2
        obtain ⟨a', b', hX, ha', hb'⟩ := hX
        refine ⟨_, rfl, _, _, _, _, rfl, rfl, SqL.of hX, atI_nat (j := 1) rfl, rfl, _, rfl, ite2 (fun e3 => ?_) (fun e3 => ?_)⟩
        · refine ⟨_, rfl, _, _, _, _, rfl, rfl, SqL.of hX, atI_nat (j := 3) rfl, _, _, rfl, rfl, .inr ⟨by decide, by decide⟩, _, _, rfl, rfl, .inl ⟨_, rfl, _, _, rfl, rfl, (by decide : (0 : Int) < 2147483647), _, rfl, _, _, _, _, rfl, rfl, hX, rfl, ?_⟩⟩
          refine ⟨_, rfl, _, _, _, _, rfl, rfl, SqL.of upd_same, atI_nat (j := 3) rfl, _, _, rfl, rfl, wide_div (b := 64) (by decide) (by decide) (by decide) (by decide), .inl ⟨_, rfl, _, rfl, _, _, rfl, rfl, hn, ?_⟩⟩
          exact q _ _ (Int.emod_nonneg _ (by omega)) (Int.emod_lt_of_pos _ hn) (hB.trans But.put) ⟨a', b', _, ns, upd_same, by rw [upd_ne nlp]; exact hL, hlen, ha', hb', Int.emod_nonneg _ (by decide), Int.emod_lt_of_pos _ (by decide)⟩
        · refine ⟨_, rfl, _, _, _, _, rfl, rfl, SqL.of hX, atI_nat (j := 1) rfl, .inl ⟨_, rfl, _, rfl, _, _, rfl, rfl, hn, ?_⟩⟩
          refine ⟨_, rfl, _, _, _, _, rfl, rfl, SqL.of hX, atI_nat (j := 1) rfl, _, rfl, _, _, rfl, rfl, wide_div hn hn2 (by decide) (by decide), _, rfl, _, _, _, _, rfl, rfl, hX, rfl, ?_⟩
          refine ⟨_, rfl, ?_⟩
          exact q _ _ (Int.emod_nonneg _ (by omega)) (Int.emod_lt_of_pos _ hn) (hB.trans But.put) ⟨_, b', m, ns, upd_same, by rw [upd_ne nlp]; exact hL, hlen, Int.ediv_nonneg ha' (by omega), hb', hm, hm2⟩
    · have hX : ∃ a' b' : Int, H p = some (.lst [.ref l, .int a', .int b', .int m]) ∧ 0 ≤ a' ∧ 0 ≤ b' := ⟨_, _, h1, ha, hb⟩
      have hB : But p H H := But.refl p H
      have hL := h2
      obtain ⟨a', b', hX, ha', hb'⟩ := hX
      refine ⟨_, rfl, _, _, _, _, rfl, rfl, SqL.of hX, atI_nat (j := 1) rfl, rfl, _, rfl, ite2 (fun e3 => ?_) (fun e3 => ?_)⟩
      · refine ⟨_, rfl, _, _, _, _, rfl, rfl, SqL.of hX, atI_nat (j := 3) rfl, _, _, rfl, rfl, .inr ⟨by decide, by decide⟩, _, _, rfl, rfl, .inl ⟨_, rfl, _, _, rfl, rfl, (by decide : (0 : Int) < 2147483647), _, rfl, _, _, _, _, rfl, rfl, hX, rfl, ?_⟩⟩
        refine ⟨_, rfl, _, _, _, _, rfl, rfl, SqL.of upd_same, atI_nat (j := 3) rfl, _, _, rfl, rfl, wide_div (b := 64) (by decide) (by decide) (by decide) (by decide), .inl ⟨_, rfl, _, rfl, _, _, rfl, rfl, hn, ?_⟩⟩
        exact q _ _ (Int.emod_nonneg _ (by omega)) (Int.emod_lt_of_pos _ hn) (hB.trans But.put) ⟨a', b', _, ns, upd_same, by rw [upd_ne nlp]; exact hL, hlen, ha', hb', Int.emod_nonneg _ (by decide), Int.emod_lt_of_pos _ (by decide)⟩
      · refine ⟨_, rfl, _, _, _, _, rfl, rfl, SqL.of hX, atI_nat (j := 1) rfl, .inl ⟨_, rfl, _, rfl, _, _, rfl, rfl, hn, ?_⟩⟩
        refine ⟨_, rfl, _, _, _, _, rfl, rfl, SqL.of hX, atI_nat (j := 1) rfl, _, rfl, _, _, rfl, rfl, wide_div hn hn2 (by decide) (by decide), _, rfl, _, _, _, _, rfl, rfl, hX, rfl, ?_⟩
        refine ⟨_, rfl, ?_⟩
        exact q _ _ (Int.emod_nonneg _ (by omega)) (Int.emod_lt_of_pos _ hn) (hB.trans But.put) ⟨_, b', m, ns, upd_same, by rw [upd_ne nlp]; exact hL, hlen, Int.ediv_nonneg ha' (by omega), hb', hm, hm2⟩

theorem ok__law_is_integer {f : Addr} {fd : FuncData} (F : Fun K "_law_is_integer" "_law_is_integer" s__law_is_integer f fd) (E : Bi K mg)  : FnOk P w K mg base CX0 1 f fd ["value"] (sp__law_is_integer K) := by
  refine F.ok sc__law_is_integer (fun vs H Q E h => ?_) (fun cdv A outer s H vs Q E' hr h => ?_)
  · obtain ⟨x, d, rfl, _⟩ := h
    rfl
  · obtain ⟨x, d, rfl, hd, q⟩ := h
    refine ⟨_, (pss_one (ps_ret (pe_and (pe_callB call_isi (by rfl) E.b_isinstance (by decide +kernel) (pa_cons (pv 0) (pa_cons (pe_ty "int" (by rfl) E.b_int (by decide +kernel)) pa_nil))) (pe_one (pe_not (pe_callB call_isi (by rfl) E.b_isinstance (by decide +kernel) (pa_cons (pv 0) (pa_cons (pe_ty "bool" (by rfl) E.b_bool (by decide +kernel)) pa_nil)))))))), ?_⟩
    refine ⟨x, rfl, _, _, _, _, _, rfl, .ty _, tyx_of hd, kit_ty (kitI _), _, rfl, ite2 (fun e => ?_) (fun e => ?_)⟩
    · refine ⟨x, rfl, _, _, _, _, _, rfl, .ty _, tyx_of hd, kit_ty (kitBo _), _, rfl, ?_⟩
      rw [e, Bool.true_and] at q
      exact q
    · rw [Bool.eq_false_iff.mpr e, Bool.false_and] at q
      exact q

theorem ok__law_domain {f : Addr} {fd : FuncData} (F : Fun K "_law_domain" "_law_domain" s__law_domain f fd) (E : Bi K mg)  : FnOk P w K mg base CX0 1 f fd ["given"] (sp__law_domain K) := by
  refine F.ok sc__law_domain (fun vs H Q E h => ?_) (fun cdv A outer s H vs Q E' hr h => ?_)
  · obtain ⟨a, ns, rfl, _⟩ := h
    rfl
  · obtain ⟨a, ns, rfl, ha, hl, q⟩ := h
    refine ⟨_, (pss_cons (ps_set (i := 1) sc__law_domain.nd rfl (Or.inl rfl) (pe_lst pa_nil))
      (pss_cons (ps_for PassesOwn.never rfl (pi_list (pe_callB cr_sortedI (by rfl) E.b_sorted (by decide +kernel) (pa_cons (pv 0) pa_nil))) (pg_name (i := 2) sc__law_domain.nd rfl (Or.inl rfl)) (pss_one (ps_if (pw_and (pt_cmpR op_gt (pe_callB call_len_seq (by rfl) E.b_len PySem.boot_len (pa_cons (pv 1) pa_nil)) pe_int (nomark _)) (pw_and1 (pt_cmpR op_le (pv 2) (pe_op op_add (pe_ix ix_tup (pe_ix ix_list (pv 1) (pe_op op_sub (pe_callB call_len_seq (by rfl) E.b_len PySem.boot_len (pa_cons (pv 1) pa_nil)) pe_int) (fun _ _ => rfl)) pe_int (fun _ _ => rfl)) pe_int) (nomark _)))).pt (pss_one (ps_asg (pe_tup (pa_cons (pe_ix ix_tup (pe_ix ix_list (pv 1) (pe_op op_sub (pe_callB call_len_seq (by rfl) E.b_len PySem.boot_len (pa_cons (pv 1) pa_nil)) pe_int) (fun _ _ => rfl)) pe_int (fun _ _ => rfl)) (pa_cons (pv 2) pa_nil))) (pg_sub (pv 1) (pe_op op_sub (pe_callB call_len_seq (by rfl) E.b_len PySem.boot_len (pa_cons (pv 1) pa_nil)) pe_int) set_list))) (pss_one (ps_expr (pe_bm PySem.F.plainAttrs_list PySem.F.slot_list_append PySem.F.type_list_append mt_append (pv 1) (pa_cons (pe_tup (pa_cons (pv 2) (pa_cons (pv 2) pa_nil))) pa_nil)))))))
      (pss_one (ps_ret (pe_callTy call_tuple_of (by rfl) E.b_tuple (by decide +kernel) (pa_cons (pv 1) pa_nil)))))), ?_⟩
    refine seq_asg ?_
    refine ⟨Nat.zero_le _, fun r nr => ?_⟩
    refine gname (seq_any ?_)
    have hr0 : (upd H r (.lst [])) r = some (.lst []) := upd_same
    have hsr : Same H (upd H r (.lst [])) := same_upd nr
    have hrs : ∀ b u, H b = some u → b ≠ r := fun b u e => ne_of_none e nr
    have has := same_sqL (same_upd (o := .lst []) nr) ha
    clear nr
    generalize upd H r (.lst []) = HY at hr0 hsr has
    let Hs := H
    refine ⟨_, rfl, a, ns, rfl, has, fun ns' p hperm hsort np => ⟨p, rfl, ⟨_, SqL.of upd_same⟩, ?_⟩⟩
    have sp := same_upd (o := .lst (ns'.map V.int)) np
    have hrp : r ≠ p := ne_of_none hr0 np
    refine for_list (K := K) (a := p) (xs := ns'.map V.int) (fun i σ H' => ∃ (vv : Option V) (I : List (Int × Int)) (ys : List V), σ = [some (.ref a), some (.ref r), vv] ∧ Same Hs H' ∧ H' p = some (.lst (ns'.map V.int)) ∧ H' r = some (.lst ys) ∧ DpAll K H' ys (I.map ivD) ∧ Pre I (ns'.take i) ∧ I.length ≤ i)
      ⟨_, [], [], rfl, fun b o e => sp _ _ (hsr b o e), upd_same, by rw [upd_ne hrp]; exact hr0, .nil, pre_nil, Nat.le_refl 0⟩ (fun i σ H' _ ⟨_, _, _, _, _, e, _⟩ => SqL.of e) ?_ ?_
    · rintro i x σ H1 hi ⟨vv, I, ys, rfl, s1, hp1, hr1, dI, hpre, hlen⟩
      rw [List.getElem?_map] at hi
      obtain ⟨v, hv, rfl⟩ : ∃ v, ns'[i]? = some v ∧ V.int v = x := by
        cases hv : ns'[i]? with
        | none => rw [hv] at hi; cases hi
        | some v => rw [hv] at hi; exact ⟨v, rfl, Option.some.inj hi⟩
      have hle := sorted_le hsort hv
      have htk : ns'.take (i + 1) = ns'.take i ++ [v] := by rw [List.take_add_one, hv]; rfl
      have hil := (List.getElem?_eq_some_iff.mp hv).1
      have hnl : ns'.length = ns.length := hperm.length_eq
      have hyl := DpAll.len dI
      rw [List.length_map] at hyl
      have put : ∀ {Ha : Hp} {o : HO}, Same Hs Ha → Same Hs (upd Ha r o) := fun {Ha o} s b u e => by rw [upd_ne (hrs b u e)]; exact s b u e
      have app : (∀ A p0, I = A ++ [p0] → p0.2 + 1 < v) → ∀ vv, ∀ q2, H1 q2 = Option.none → ∃ (vv' : Option V) (I' : List (Int × Int)) (ys' : List V), [some (.ref a), some (.ref r), vv] = [some (.ref a), some (.ref r), vv'] ∧ Same Hs (upd (upd H1 q2 (.tup [.int v, .int v])) r (.lst (ys ++ [.ref q2]))) ∧ (upd (upd H1 q2 (.tup [.int v, .int v])) r (.lst (ys ++ [.ref q2]))) p = some (.lst (ns'.map V.int)) ∧ (upd (upd H1 q2 (.tup [.int v, .int v])) r (.lst (ys ++ [.ref q2]))) r = some (.lst ys') ∧ DpAll K (upd (upd H1 q2 (.tup [.int v, .int v])) r (.lst (ys ++ [.ref q2]))) ys' (I'.map ivD) ∧ Pre I' (ns'.take (i + 1)) ∧ I'.length ≤ i + 1 := fun hn vv q2 nq2 => by
        have sq := same_upd (o := .tup [.int v, .int v]) nq2
        have nt : notTup (upd H1 q2 (.tup [.int v, .int v])) r := .inl ⟨_, sq _ _ hr1⟩
        refine ⟨_, I ++ [(v, v)], _, rfl, put (s1.trans sq), by rw [upd_ne hrp.symm]; exact sq _ _ hp1, upd_same, ?_, by rw [htk]; exact pre_new hpre hle hn, by rw [List.length_append]; exact Nat.add_le_add_right hlen 1⟩
        rw [List.map_append]
        exact DpAll.app (dp_putAll nt _ _ (pd_lay I).2.2.2 (dp_sameAll sq _ _ dI)) (.cons (dp_put nt _ _ (by simp [ivD, noL, noLA]) (.tup (SqT.of upd_same) (.cons (.int _) (.cons (.int _) .nil)))) .nil)
      refine gname ?_
      refine ⟨_, rfl, _, _, rfl, .inl (SqL.of hr1), _, _, rfl, rfl, _, rfl, ?_⟩
      rcases List.eq_nil_or_concat I with z | ⟨A, p0, z⟩
      · subst z
        have hy0 : ys = [] := List.eq_nil_of_length_eq_zero hyl
        subst hy0
        refine iteF (iteF ?_)
        refine ⟨_, rfl, .inl ⟨rfl, _, SqL.of hr1⟩, _, rfl, _, rfl, (by show 2 ≤ sizeLine; decide), fun q2 nq2 => ?_⟩
        refine ⟨_, _, _, rfl, rfl, same_upd nq2 _ _ hr1, small1000 (by show 0 ≤ 1000; decide), ?_⟩
        exact app (fun A p0 h => by have := congrArg List.length h; simp at this) _ q2 nq2
      · rw [List.concat_eq_append] at z
        subst z
        obtain ⟨ya, y, rfl, dA, dy⟩ := dp_snoc dI
        have hpos : decide ((0 : Int) < (((ya ++ [y]).length : Nat) : Int)) = true := decide_eq_true (by rw [List.length_append, List.length_singleton]; omega)
        rw [hpos]
        refine iteT ?_
        unfold ivD at dy
        cases id dy with
        | @tup c zs _ hz az =>
        obtain ⟨w0, hw0, dw0⟩ := DpAll.get (i := 0) az rfl
        obtain ⟨w1, hw1, dw1⟩ := DpAll.get (i := 1) az rfl
        cases dw0
        cases dw1
        refine ⟨_, rfl, _, rfl, _, rfl, _, _, rfl, .inl (SqL.of hr1), _, _, rfl, rfl, _, _, _, _, rfl, rfl, SqL.of hr1, at_len _ _, _, _, _, _, rfl, rfl, hz, atI_nat (j := 1) hw1, _, _, rfl, rfl, _, _, rfl, rfl, _, rfl, ite2 (fun e => ?_) (fun e => ?_)⟩
        · have hve : v ≤ p0.2 + 1 := of_decide_eq_true e
          refine ⟨_, rfl, _, rfl, _, _, rfl, .inl (SqL.of hr1), _, _, rfl, rfl, _, _, _, _, rfl, rfl, SqL.of hr1, at_len _ _, _, _, _, _, rfl, rfl, hz, atI_nat (j := 0) hw0, _, rfl, (by show 2 ≤ sizeLine; decide), fun q2 nq2 => ?_⟩
          have sq := same_upd (o := .tup [.int p0.1, .int v]) nq2
          have hr2 := sq _ _ hr1
          have nt : notTup (upd H1 q2 (.tup [.int p0.1, .int v])) r := .inl ⟨_, hr2⟩
          refine ⟨_, rfl, _, rfl, _, _, rfl, .inl (SqL.of hr2), _, _, rfl, rfl, _, _, _, _, rfl, rfl, hr2, ix_len _ _, ?_⟩
          rw [set_last]
          refine ⟨_, A ++ [(p0.1, v)], _, rfl, put (s1.trans sq), by rw [upd_ne hrp.symm]; exact sq _ _ hp1, upd_same, ?_, by rw [htk]; exact pre_more hpre hle hve, by rw [List.length_append] at hlen ⊢; exact Nat.le_succ_of_le hlen⟩
          rw [List.map_append]
          exact DpAll.app (dp_putAll nt _ _ (pd_lay A).2.2.2 (dp_sameAll sq _ _ dA)) (.cons (dp_put nt _ _ (by simp [ivD, noL, noLA]) (.tup (SqT.of upd_same) (.cons (.int _) (.cons (.int _) .nil)))) .nil)
        · have hve : ¬ v ≤ p0.2 + 1 := fun z => e (decide_eq_true z)
          refine ⟨_, rfl, .inl ⟨rfl, _, SqL.of hr1⟩, _, rfl, _, rfl, (by show 2 ≤ sizeLine; decide), fun q2 nq2 => ?_⟩
          refine ⟨_, _, _, rfl, rfl, same_upd nq2 _ _ hr1, small1000 (by omega), ?_⟩
          exact app (fun B p1 h => by rw [← (snoc_inj h).2]; omega) _ q2 nq2
    · rintro σ H1 ⟨vv, I, ys, rfl, s1, hp1, hr1, dI, hpre, hlen⟩
      rw [List.length_map, List.take_length] at hpre
      refine nxp ?_
      refine ⟨_, rfl, _, _, rfl, .inl ⟨SqL.of hr1, fun u nu => ?_⟩⟩
      have hD : IsDom I ns := ⟨hpre.can, fun w => (hpre.inn w).trans hperm.mem_iff⟩
      exact q _ I _ (s1.trans (same_upd nu)) hD (.tup (SqT.of upd_same) (dp_sameAll (same_upd nu) _ _ dI))

theorem ok__law_values {f : Addr} {fd : FuncData} (F : Fun K "_law_values" "_law_values" s__law_values f fd) (E : Bi K mg)  : FnOk P w K mg base CX0 1 f fd ["given"] (sp__law_values K) := by
  refine F.ok sc__law_values (fun vs H Q E h => ?_) (fun cdv A outer s H vs Q E' hr h => ?_)
  · obtain ⟨x, D, rfl, _⟩ := h
    rfl
  · obtain ⟨x, D, rfl, hx, hl, hc, hb, q⟩ := h
    refine ⟨_, (pss_cons (ps_set (i := 1) sc__law_values.nd rfl (Or.inl rfl) (pe_lst pa_nil))
      (pss_cons (ps_for PassesOwn.never rfl (pi_tup (pv 0)) (pg_name (i := 2) sc__law_values.nd rfl (Or.inl rfl)) (pss_one (ps_expr (pe_bm PySem.F.plainAttrs_list PySem.F.slot_list_extend PySem.F.type_list_extend mt_extend (pv 1) (pa_cons (pe_lc (own := [("value", 3)]) (g := gName 3) (tt := tYes) rfl sc__law_values.nd (pi_range2 (by rfl) E.b_range (pa_cons (pe_ix ix_tup (pv 2) pe_int (fun _ _ => rfl)) (pa_cons (pe_op op_add (pe_ix ix_tup (pv 2) pe_int (fun _ _ => rfl)) pe_int) pa_nil))) (blkOk_by (N := N__law_values) (sc := defScope s__law_values) (by decide +kernel)) (fun _ _ _ _ _ => pg_name (i := 3) sc__law_values.nd rfl (Or.inl rfl)) (fun _ _ _ _ _ => pts_nil) (fun _ _ _ _ _ => (pv 3))) pa_nil)))))
      (pss_one (ps_ret (pv 1))))), ?_⟩
    unfold domD at hx
    cases id hx with
    | @tup a xs _ hs ha =>
    have hxl := DpAll.len ha
    rw [List.length_map] at hxl
    refine seq_asg ?_
    refine ⟨Nat.zero_le _, fun R hR => ?_⟩
    refine gname (seq_any ?_)
    refine ⟨_, rfl, a, rfl, ⟨_, same_sqT (same_upd hR) hs⟩, for_tup (K := K) (a := a) (xs := xs) (fun i σ H' => ∃ vp, σ = [some (.ref a), some (.ref R), vp, none] ∧ Same H H' ∧ H' R = some (.lst ((valsM (D.take i)).map V.int)))
      ⟨none, rfl, same_upd hR, upd_same⟩ (fun i σ H' _ ⟨_, _, e, _⟩ => same_sqT e hs) ?_ ?_⟩
    · rintro i y σ H1 hy ⟨vp, rfl, s1, h1⟩
      obtain ⟨d, hd, dy0⟩ := DpAll.getV ha hy
      rw [List.getElem?_map] at hd
      obtain ⟨p, hp, rfl⟩ : ∃ p, D[i]? = some p ∧ ivD p = d := by
        cases hr : D[i]? with
        | none => rw [hr] at hd; cases hd
        | some p => rw [hr] at hd; exact ⟨p, rfl, Option.some.inj hd⟩
      have hpm := List.mem_of_getElem? hp
      obtain ⟨b1, b2⟩ := hb p hpm
      have hpp := can_mem hc p hpm
      obtain ⟨k1, k2⟩ := pre_bounds hl i hp
      have dy := dp_same s1 _ _ dy0
      unfold ivD at dy
      cases id dy with
      | @tup c zs _ hz az =>
      cases az with
      | cons e1 az =>
      cases az with
      | cons e2 az =>
      cases az
      cases e1
      cases e2
      refine gname ?_
      refine ⟨_, rfl, .inl ⟨rfl, _, SqL.of h1⟩, ?_⟩
      refine ⟨_, rfl, _, _, _, _, rfl, rfl, hz, atI_nat (j := 0) rfl, _, rfl, _, _, _, _, rfl, rfl, hz, atI_nat (j := 1) rfl, _, _, rfl, rfl, _, _, rfl, ⟨by omega, by omega, by omega, by omega⟩, fun R2 hR2 => ?_⟩
      have s2 := same_upd (o := .lst []) hR2
      have hRR : R ≠ R2 := ne_of_none h1 hR2
      refine lc_it (n := (p.2 + 1 - p.1).toNat) walk_range (fun j H' => Same H1 H' ∧ H' R2 = some (.lst (((vals p).take j).map V.int))) ⟨s2, upd_same⟩ (fun _ _ _ _ => trivial) ?_ ?_
      · rintro j z H3 H4 hj ⟨s3, h3⟩ ⟨rfl, rfl⟩
        refine ⟨rfl, _, rfl, _, h3, small1000 (by rw [List.length_map, List.length_take, vals_length]; omega), fun b o e => by rw [upd_ne (ne_of_none e hR2)]; exact s3 _ _ e, ?_⟩
        rw [upd_same, List.take_add_one, vals_take hj, List.map_append]
        rfl
      · rintro H3 ⟨s3, h3⟩
        rw [← vals_length, List.take_length] at h3
        refine ⟨_, _, _, _, rfl, rfl, s3 _ _ h1, h3, small_of (by rw [List.length_map, List.length_map]; omega), ?_⟩
        refine ⟨_, rfl, fun b o e => by rw [upd_ne (ne_of_none e hR)]; exact s3 _ _ (s1 _ _ e), ?_⟩
        rw [upd_same, k2, List.map_append]
    · rintro σ H1 ⟨vp, rfl, s1, h1⟩
      rw [hxl, List.take_length] at h1
      exact nxp ⟨_, rfl, q _ _ s1 hR h1⟩

theorem ok_exchange {f : Addr} {fd : FuncData} (F : Fun K "exchange" "exchange" s_exchange f fd) (E : Bi K mg) (D_handed_on : Has P w K mg base 1 "handed_on" ["askers", "variable", "value"] (sp_handed_on K)) : FnOk P w K mg base CX0 2 f fd ["start", "choices", "owners"] (sp_exchange K) := by
  obtain ⟨f_handed_on, fd_handed_on, G_handed_on, g_handed_on, kp_handed_on, b_handed_on⟩ := D_handed_on
  refine F.ok sc_exchange (fun vs H Q E h => ?_) (fun cdv A outer s H vs Q E' hr h => ?_)
  · obtain ⟨s, c, w, ch, kvs, o, rfl, _⟩ := h
    rfl
  · obtain ⟨s, c, w, ch, kvs, o, rfl, hc, hB, hw, hO, hOwn, hs, q1, q2⟩ := h
    refine ⟨_, (pss_cons (ps_set (i := 3) sc_exchange.nd rfl (Or.inl rfl) (pe_disp (pps_cons (pv 0) pe_non pps_nil) (by rfl) (by rfl) (fun z => by cases z) (by decide)))
      (pss_cons (ps_set (i := 4) sc_exchange.nd rfl (Or.inl rfl) (pe_lst (pa_cons (pv 0) pa_nil)))
      (pss_cons (ps_while PassesOwn.never (pt_cmpR op_gt (pe_callB call_len_seq (by rfl) E.b_len PySem.boot_len (pa_cons (pv 4) pa_nil)) pe_int (nomark _)) (pss_cons (ps_set (i := 5) sc_exchange.nd rfl (Or.inl rfl) (pe_bm0 PySem.F.plainAttrs_list PySem.F.slot_list_pop PySem.F.type_list_pop mt_pop (pv 4)))
      (pss_one (ps_for PassesOwn.never rfl (pi_list (pe_ix ix_list (pv 1) (pv 5) (fun _ _ => rfl))) (pg_name (i := 6) sc_exchange.nd rfl (Or.inl rfl)) (pss_cons (ps_if (pt_cmp (pc_dnotin (hu_of hr) (pv 6) (pv 2))) (pss_one (ps_ret (pe_tup (pa_cons (pe_call G_handed_on (hr.mono (by decide)) (by rfl) g_handed_on kp_handed_on b_handed_on .nil pass0 (pa_cons (pv 3) (pa_cons (pv 5) (pa_cons (pv 6) pa_nil)))) (pa_cons pe_non pa_nil))))) pss_nil)
      (pss_cons (ps_set (i := 7) sc_exchange.nd rfl (Or.inl rfl) (pe_dget (hu_of hr) (pv 2) (pv 6) (fun _ _ => rfl)))
      (pss_one (ps_if (pt_cmp (pc_dnotin (hu_of hr) (pv 7) (pv 3))) (pss_cons (ps_dput (hu_of hr) (pv 3) (pv 7) (pe_tup (pa_cons (pv 5) (pa_cons (pv 6) pa_nil))) (by rfl))
      (pss_one (ps_expr (pe_bm PySem.F.plainAttrs_list PySem.F.slot_list_append PySem.F.type_list_append mt_append (pv 4) (pa_cons (pv 7) pa_nil))))) pss_nil))))))))
      (pss_one (ps_ret (pe_tup (pa_cons pe_non (pa_cons (pe_callB cr_sortedI (by rfl) E.b_sorted (by decide +kernel) (pa_cons (pe_callTy (call_listD rfl) (by rfl) E.b_list (by decide +kernel) (pa_cons (pv 3) pa_nil)) pa_nil)) pa_nil)))))))), ?_⟩
    obtain ⟨as, c1, c2, c3⟩ := hc
    have hB1 := hB.1
    refine seq_asg ?_
    refine fun a na => ⟨_, rfl, upd_same, [(Sum.inl (s : Int), V.non)], rfl, (by show 1 ≤ 15; decide), ?_⟩
    refine gname (seq_asg ?_)
    refine ⟨_, rfl, (by show 1 ≤ sizeLine; decide), fun r nr => ?_⟩
    refine gname (seq_any ?_)
    have ra : a ≠ r := fun z => by rw [← z, upd_same] at nr; cases nr
    have nr0 : H r = Option.none := by rw [upd_ne ra.symm, upd_ne ra.symm] at nr; exact nr
    have X0 : Ex K H (upd (upd (upd H a (.dK [])) a (.dK (mergeK [] [(Sum.inl (s : Int), V.non)]))) r (.lst [V.int (s : Int)])) a r ch o s [((s : Int), none)] [(s : Int)] [(Sum.inl (s : Int), V.non)] := by
      refine ⟨fun b u e => ?_, ?_, upd_same, ⟨rfl, .non, True.intro⟩, .one, fun k hk => hk, Nat.le_refl 1⟩
      · rw [upd_ne (ne_of_none e nr0), upd_ne (ne_of_none e na), upd_ne (ne_of_none e na)]
        exact e
      · rw [upd_ne ra, upd_same]
        rfl
    generalize upd (upd (upd H a (.dK [])) a (.dK (mergeK [] [(Sum.inl (s : Int), V.non)]))) r (.lst [V.int (s : Int)]) = H1 at X0
    refine ⟨fun m σ H' => ∃ (A : Ask) (Wt : List Int) (kv : List (Key × V)) (v5 v6 v7 : Option V), σ = [some (.int (s : Int)), some (.ref c), some (.ref w), some (.ref a), some (.ref r), v5, v6, v7] ∧ Ex K H H' a r ch o s A Wt kv ∧ (∀ k ∈ keysA A, k ∈ Wt ∨ Cl ch o A k) ∧ m = 2 * (ch.length - A.length) + Wt.length,
      ⟨_, _, _, _, none, none, none, rfl, X0, fun k hk => .inl hk, rfl⟩, ?_⟩
    rintro m σ H2 ⟨A, Wt, kv, v5, v6, v7, rfl, X2, hcl, rfl⟩
    have hla := ask_len hOwn X2.ok
    refine ⟨_, rfl, _, _, rfl, .inl (SqL.of X2.er), _, _, rfl, rfl, _, rfl, ?_⟩
    rcases List.eq_nil_or_concat Wt with z | ⟨B, v, z⟩
    · subst z
      refine ⟨_, rfl, _, _, rfl, .inl X2.ea, fun p np => ?_⟩
      have sp := same_upd (o := .lst (kv.map fun kv => kV kv.1)) np
      have ep : (upd H2 p (.lst (kv.map fun kv => kV kv.1))) p = some (.lst ((keysA A).map V.int)) := by rw [upd_same, AskK.keys X2.ask]
      refine ⟨p, keysA A, rfl, SqL.of ep, fun ks p2 hperm hsort np2 => ⟨(by show 2 ≤ sizeLine; decide), fun b nb => ?_⟩⟩
      have sp2 := same_upd (o := .lst (ks.map V.int)) np2
      have sb := same_upd (o := .tup [.non, .ref p2]) nb
      exact q2 b p2 ks _ (X2.same.trans (sp.trans (sp2.trans sb))) (SqT.of upd_same) (sb _ _ upd_same) (few_of X2.ok hOwn hs (fun k hk => (hcl k hk).elim (fun z => nomatch z) id) hperm hsort)
    · rw [List.concat_eq_append] at z
      subst z
      have hpos : decide ((0 : Int) < (((((B ++ [v]).map V.int).length : Nat)) : Int)) = true := decide_eq_true (by rw [List.length_map, List.length_append, List.length_singleton]; omega)
      rw [hpos]
      refine ⟨_, fun σ' H' h => h, ?_⟩
      refine seq_asg ?_
      have hy : ((B ++ [v]).map V.int)[((B ++ [v]).map V.int).length - 1]? = some (V.int v) := by simp
      have hdl : ((B ++ [v]).map V.int).dropLast = B.map V.int := by simp
      refine ⟨_, rfl, .inl ⟨rfl, _, SqL.of X2.er⟩, _, _, _, rfl, rfl, X2.er, hy, ?_⟩
      rw [hdl]
      refine gname ?_
      have nr2 : notTup H2 r := .inl ⟨_, X2.er⟩
      have hbl : (B ++ [v]).length = B.length + 1 := by rw [List.length_append, List.length_singleton]
      have X3 : Ex K H (upd H2 r (.lst (B.map V.int))) a r ch o s A B kv := ⟨fun b u e => by rw [upd_ne (ne_of_none e nr0)]; exact X2.same _ _ e, by rw [upd_ne ra]; exact X2.ea, upd_same, AskK.put nr2 X2.ask, X2.ok, fun k hk => X2.sub k (List.mem_append_left _ hk), by have := X2.wl; rw [hbl] at this; omega⟩
      have hvA : v ∈ keysA A := X2.sub v (List.mem_append_right _ (List.mem_singleton.mpr rfl))
      have hvr := ask_range hOwn X2.ok v hvA
      have hvl : v.toNat < ch.length := by omega
      obtain ⟨cs, hcs⟩ : ∃ cs, ch[v.toNat]? = some cs := ⟨_, List.getElem?_eq_getElem hvl⟩
      obtain ⟨la, hla2⟩ : ∃ la, as[v.toNat]? = some la := ⟨_, List.getElem?_eq_getElem (by omega)⟩
      have hl0 := c3 _ _ _ hla2 hcs
      have hlc := hB.2 cs (List.mem_of_getElem? hcs)
      have hcl3 : ∀ k ∈ keysA A, k ∈ B ∨ k = v ∨ Cl ch o A k := fun k hk => by
        rcases hcl k hk with z | z
        · rcases List.mem_append.mp z with z | z
          · exact .inl z
          · exact .inr (.inl (List.mem_singleton.mp z))
        · exact .inr (.inr z)
      generalize upd H2 r (.lst (B.map V.int)) = H3 at X3
      refine ⟨_, rfl, _, rfl, _, _, _, _, rfl, rfl, SqL.of (X3.same _ _ c1), at_of (j := v.toNat) (by omega) (by rw [List.getElem?_map, hla2]; rfl), la, rfl, ⟨_, SqL.of (X3.same _ _ hl0)⟩, ?_⟩
      refine for_list (K := K) (a := la) (xs := cs.map V.int) (fun i σ H' => ∃ (A' : Ask) (Wt : List Int) (kv : List (Key × V)) (v6 v7 : Option V), σ = [some (.int (s : Int)), some (.ref c), some (.ref w), some (.ref a), some (.ref r), some (.int v), v6, v7] ∧ Ex K H H' a r ch o s A' Wt kv ∧ (∀ k ∈ keysA A', k ∈ Wt ∨ k = v ∨ Cl ch o A' k) ∧ (∀ x ∈ cs.take i, ∃ w, o x = some w ∧ w ∈ keysA A') ∧ v ∈ keysA A' ∧ 2 * (ch.length - A'.length) + Wt.length < 2 * (ch.length - A.length) + (B ++ [v]).length)
        ⟨A, B, kv, v6, v7, rfl, X3, hcl3, (fun x hx => nomatch hx), hvA, by omega⟩ (fun i σ H' _ ⟨_, _, _, _, _, _, e, _⟩ => SqL.of (e.same _ _ hl0)) ?_ ?_
      · rintro i x σ H4 hi ⟨A', Wt, kv, v6, v7, rfl, X4, hcl4, hseen, hvA', hm⟩
        rw [List.getElem?_map] at hi
        obtain ⟨y, hy, rfl⟩ : ∃ y, cs[i]? = some y ∧ V.int y = x := by
          cases hv : cs[i]? with
          | none => rw [hv] at hi; cases hi
          | some v => rw [hv] at hi; exact ⟨v, rfl, Option.some.inj hi⟩
        have hyc := List.mem_of_getElem? hy
        have htk : cs.take (i + 1) = cs.take i ++ [y] := by rw [List.take_add_one, hy]; rfl
        have hla4 := ask_len hOwn X4.ok
        have hrg := ask_range hOwn X4.ok
        have g1 : DGet H4 w (.int y) (valV kvs (Sum.inl y)) := DGet.k (k := Sum.inl y) (X4.same _ _ hw)
        rw [hO.val y] at g1
        refine gname (seq_any ?_)
        refine ⟨_, rfl, _, rfl, w, _, rfl, g1, _, rfl, ?_⟩
        cases ho : o y with
        | none =>
          refine iteT ?_
          refine ⟨_, rfl, _, rfl, _, rfl, a, v, y, kv, A', ch, o, (s : Int), rfl, X4.ea, X4.ask, X4.ok, hvA', by omega, fun r2 P ys H5 s5 n5 path lp e5 d5 => ⟨(by show 2 ≤ sizeLine; decide), fun b nb => ?_⟩⟩
          have sb := same_upd (o := .tup [.ref r2, .non]) nb
          obtain ⟨p, hp, hpv⟩ := List.mem_map.mp hvA'
          obtain ⟨j, hj⟩ := List.getElem?_of_mem hp
          have hj : A'[j]? = some (v, p.2) := by rw [hj, ← hpv]
          refine q1 b r2 P ys _ (X4.same.trans (s5.trans sb)) (SqT.of upd_same) ?_ (sb _ _ e5) (dp_sameAll sb _ _ d5) (by omega) ?_
          · cases e : H r2 with
            | none => rfl
            | some z => rw [X4.same _ _ e] at n5; cases n5
          · exact hand_on X4.ok path hj ⟨cs, hcs, hyc⟩ hrg hOwn.mem (fun u u0 u1 => by
              obtain ⟨z, hz⟩ := hOwn.all u u0 u1
              exact ⟨z, (fun e => by rw [e, ho] at hz; cases hz), hz⟩) (fun z z' u _ _ => hOwn.inj z z' u) (fun z hz => hz.elim (fun e => absurd rfl e) fun e => .inl (by rw [e]; exact ho))
        | some u =>
          refine iteF ?_
          rw [ho] at g1
          refine nxp ?_
          refine seq_asg ?_
          refine ⟨_, rfl, _, rfl, w, _, rfl, g1, ?_⟩
          refine gname ?_
          have g2 : DGet H4 a (.int u) (valV kv (Sum.inl u)) := DGet.k (k := Sum.inl u) X4.ea
          refine ⟨_, rfl, _, rfl, a, _, rfl, g2, _, rfl, ?_⟩
          rcases AskK.at_ u X4.ask with ⟨hz, hn⟩ | ⟨z, j, e', hj, hz, _⟩
          · rw [hz]
            refine iteT ?_
            refine ⟨_, rfl, _, rfl, (by show 2 ≤ sizeLine; decide), fun t2 nt2 => ?_⟩
            have st2 := same_upd (o := .tup [.int v, .int y]) nt2
            have hkl := AskK.len X4.ask
            have e4 := st2 _ _ X4.ea
            refine ⟨_, rfl, _, rfl, a, _, rfl, DPut.k (k := Sum.inl u) e4 (small1000 (by omega)), ?_⟩
            have na4 : notTup (upd H4 t2 (.tup [.int v, .int y])) a := .inr (.inl ⟨_, e4⟩)
            have dt : Dp K (upd (upd H4 t2 (.tup [.int v, .int y])) a (.dK (putK kv (Sum.inl u) (.ref t2)))) (.ref t2) (askD (some (v, y))) := dp_put na4 _ _ (ask_noL _) (.tup (SqT.of upd_same) (.cons (.int _) (.cons (.int _) .nil)))
            have ask5 := AskK.snoc (n := u) (e := some (v, y)) dt (AskK.put (o := .dK (putK kv (Sum.inl u) (.ref t2))) na4 (AskK.same st2 X4.ask))
            rw [← putK_new _ hz] at ask5
            have er5 : (upd (upd H4 t2 (.tup [.int v, .int y])) a (.dK (putK kv (Sum.inl u) (.ref t2)))) r = some (.lst (Wt.map V.int)) := by rw [upd_ne ra.symm]; exact st2 _ _ X4.er
            have ea5 : (upd (upd H4 t2 (.tup [.int v, .int y])) a (.dK (putK kv (Sum.inl u) (.ref t2)))) a = some (.dK (putK kv (Sum.inl u) (.ref t2))) := upd_same
            have s5 : Same H (upd (upd H4 t2 (.tup [.int v, .int y])) a (.dK (putK kv (Sum.inl u) (.ref t2)))) := fun b o e => by rw [upd_ne (ne_of_none e na)]; exact st2 _ _ (X4.same _ _ e)
            generalize upd (upd H4 t2 (.tup [.int v, .int y])) a (.dK (putK kv (Sum.inl u) (.ref t2))) = H5 at ask5 er5 ea5 s5
            have hur := hOwn.mem y u ho
            have ok5 : AskOk ch o (s : Int) (A' ++ [(u, some (v, y))]) := .more X4.ok hvA' hn hcs hyc ho
            have hla5 := ask_len hOwn ok5
            rw [List.length_append, List.length_singleton] at hla5
            have hwl := X4.wl
            refine ⟨_, rfl, .inl ⟨rfl, _, SqL.of er5⟩, _, rfl, _, _, _, rfl, rfl, er5, small1000 (by rw [List.length_map]; omega), ?_⟩
            have nr5 : notTup H5 r := .inl ⟨_, er5⟩
            refine ⟨A' ++ [(u, some (v, y))], Wt ++ [u], _, _, _, rfl, ⟨fun b o e => by rw [upd_ne (ne_of_none e nr0)]; exact s5 _ _ e, by rw [upd_ne ra]; exact ea5, by rw [upd_same, List.map_append]; rfl, AskK.put nr5 ask5, ok5, fun k hk => ?_, by rw [List.length_append, List.length_append]; exact Nat.add_le_add_right hwl 1⟩, fun k hk => ?_, fun x hx => ?_, ?_, ?_⟩
            · rw [keys_more]
              rcases List.mem_append.mp hk with z | z
              · exact List.mem_append_left _ (X4.sub k z)
              · exact List.mem_append_right _ z
            · rw [keys_more] at hk
              rcases List.mem_append.mp hk with z | z
              · rcases hcl4 k z with z | z | z
                · exact .inl (List.mem_append_left _ z)
                · exact .inr (.inl z)
                · exact .inr (.inr (z.more _))
              · exact .inl (List.mem_append_right _ z)
            · rw [keys_more]
              rw [htk] at hx
              rcases List.mem_append.mp hx with z | z
              · obtain ⟨w2, h1, h2⟩ := hseen x z
                exact ⟨w2, h1, List.mem_append_left _ h2⟩
              · rw [List.mem_singleton.mp z]
                exact ⟨u, ho, List.mem_append_right _ (List.mem_singleton.mpr rfl)⟩
            · rw [keys_more]
              exact List.mem_append_left _ hvA'
            · rw [List.length_append, List.length_append, List.length_singleton, List.length_singleton]
              omega
          · rw [hz]
            refine iteF ?_
            refine ⟨A', Wt, kv, _, _, rfl, X4, hcl4, fun x hx => ?_, hvA', hm⟩
            rw [htk] at hx
            rcases List.mem_append.mp hx with y1 | y1
            · exact hseen x y1
            · rw [List.mem_singleton.mp y1]
              exact ⟨u, ho, List.mem_map.mpr ⟨_, List.mem_of_getElem? hj, rfl⟩⟩
      · rintro σ H4 ⟨A', Wt, kv, v6, v7, rfl, X4, hcl4, hseen, hvA', hm⟩
        rw [List.length_map, List.take_length] at hseen
        refine nxp ⟨_, hm, A', Wt, kv, _, v6, v7, rfl, X4, fun k hk => ?_, rfl⟩
        rcases hcl4 k hk with z | z | z
        · exact .inl z
        · rw [z]
          exact .inr fun cs' hc' x hx => by
            rw [hcs] at hc'
            cases hc'
            exact hseen x hx
        · exact .inr z

theorem ok__law_domains {f : Addr} {fd : FuncData} (F : Fun K "_law_domains" "_law_domains" s__law_domains f fd) (E : Bi K mg) (D__law_draw : Has P w K mg base 1 "_law_draw" ["stream", "many"] (sp__law_draw K)) (D__law_domain : Has P w K mg base 1 "_law_domain" ["given"] (sp__law_domain K)) : FnOk P w K mg base CX0 2 f fd ["stream"] (sp__law_domains K) := by
  obtain ⟨f__law_draw, fd__law_draw, G__law_draw, g__law_draw, kp__law_draw, b__law_draw⟩ := D__law_draw
  obtain ⟨f__law_domain, fd__law_domain, G__law_domain, g__law_domain, kp__law_domain, b__law_domain⟩ := D__law_domain
  refine F.ok sc__law_domains (fun vs H Q E h => ?_) (fun cdv A outer s H vs Q E' hr h => ?_)
  · obtain ⟨s, l, rfl, _⟩ := h
    rfl
  · obtain ⟨s, l, rfl, hS, q⟩ := h
    have n9 : (2 : Nat) ^ 8 ≤ 2 ^ 9000 := Nat.pow_le_pow_right (by decide) (by decide)
    refine ⟨_, (pss_cons (ps_set (i := 1) sc__law_domains.nd rfl (Or.inr rfl) (pe_ix ix_list (pe_lst (pa_cons pe_int (pa_cons pe_int (pa_cons pe_int (pa_cons pe_int pa_nil))))) (pe_call G__law_draw (hr.mono (by decide)) (by rfl) g__law_draw kp__law_draw b__law_draw .nil pass0 (pa_cons (pv 0) (pa_cons pe_int pa_nil))) (fun _ _ => rfl)))
      (pss_cons (ps_set (i := 2) sc__law_domains.nd rfl (Or.inl rfl) (pe_lst pa_nil))
      (pss_cons (ps_for PassesOwn.never rfl (pi_range1 (by rfl) E.b_range (pa_cons (pe_call G__law_draw (hr.mono (by decide)) (by rfl) g__law_draw kp__law_draw b__law_draw .nil pass0 (pa_cons (pv 0) (pa_cons pe_int pa_nil))) pa_nil)) (pg_name (i := 3) sc__law_domains.nd rfl (Or.inl rfl)) (pss_cons (ps_set (i := 4) sc__law_domains.nd rfl (Or.inl rfl) (pe_call G__law_draw (hr.mono (by decide)) (by rfl) g__law_draw kp__law_draw b__law_draw .nil pass0 (pa_cons (pv 0) (pa_cons pe_int pa_nil))))
      (pss_cons (ps_if (pw_and (pt_cmpR op_lt (pv 1) pe_int (nomark _)) (pw_and1 (pt_cmpR op_gt (pe_call G__law_draw (hr.mono (by decide)) (by rfl) g__law_draw kp__law_draw b__law_draw .nil pass0 (pa_cons (pv 0) (pa_cons pe_int pa_nil))) pe_int (nomark _)))).pt (pss_one (ps_set (i := 4) sc__law_domains.nd rfl (Or.inl rfl) (pe_op op_add pe_int (pe_call G__law_draw (hr.mono (by decide)) (by rfl) g__law_draw kp__law_draw b__law_draw .nil pass0 (pa_cons (pv 0) (pa_cons pe_int pa_nil)))))) pss_nil)
      (pss_one (ps_expr (pe_bm PySem.F.plainAttrs_list PySem.F.slot_list_append PySem.F.type_list_append mt_append (pv 2) (pa_cons (pe_call G__law_domain (hr.mono (by decide)) (by rfl) g__law_domain kp__law_domain b__law_domain .nil pass0 (pa_cons (pe_lc (own := [("j", 5)]) (g := gName 5) (tt := tYes) rfl sc__law_domains.nd (pi_range1 (by rfl) E.b_range (pa_cons (pv 4) pa_nil)) (blkOk_by (N := N__law_domains) (sc := defScope s__law_domains) (by decide +kernel)) (fun _ _ _ _ _ => pg_name (i := 5) sc__law_domains.nd rfl (Or.inl rfl)) (fun _ _ _ _ _ => pts_nil) (fun _ _ _ _ _ => (pe_op op_sub (pe_call G__law_draw (hr.mono (by decide)) (by rfl) g__law_draw kp__law_draw b__law_draw .nil pass0 (pa_cons (pv 0) (pa_cons (pv 1) pa_nil))) pe_int))) pa_nil)) pa_nil)))))))
      (pss_one (ps_ret (pv 2)))))), ?_⟩
    refine seq_asg ?_
    refine lit_lst (K := K) (ds := wides4.map PyData.int) ?_ (by decide) H _ fun v0 H0 t0 i0 => ?_
    · unfold wides4
      simp only [List.map_cons, List.map_nil]
      walk_at "lits"
    cases i0 with
    | @lst p0 xs0 _ g0 e0 a0 =>
    obtain ⟨os0, hos0⟩ := hS.at_s
    have np0 : p0 ≠ s := fun z => by
      rw [z, hos0] at g0
      cases g0
    refine ⟨_, rfl, s, l, 4, rfl, hS.keep t0, by decide, Nat.lt_of_lt_of_le (by decide) n9, fun z H1 z0 z1 b1 S1 => ?_⟩
    obtain ⟨m, hm, hat⟩ := int_pick a0 z0 z1
    have hm2 : 0 < m ∧ m ≤ 50 := (show ∀ m ∈ wides4, 0 < m ∧ m ≤ 50 by decide) m hm
    refine ⟨_, _, _, _, rfl, rfl, SqL.of (b1 _ _ np0 e0), hat, ?_⟩
    refine gname (seq_asg ?_)
    refine ⟨Nat.zero_le _, fun r nr => ?_⟩
    obtain ⟨os1, hos1⟩ := S1.at_s
    obtain ⟨ol1, hol1⟩ := S1.at_l
    have sr : s ≠ r := ne_of_none hos1 nr
    have lr : l ≠ r := ne_of_none hol1 nr
    have S2 : Stm (upd H1 r (.lst [])) s l := S1.put sr lr
    have e2 : (upd H1 r (.lst [])) r = some (.lst []) := upd_same
    generalize upd H1 r (.lst []) = H2 at S2 e2
    refine gname (seq_any ?_)
    refine ⟨_, rfl, s, l, 9, rfl, S2, by decide, Nat.lt_of_lt_of_le (by decide) n9, fun n H3 n0 n1 b3 S3 => ?_⟩
    refine ⟨_, rfl, by omega, by omega, ?_⟩
    refine for_range (lo := 0) (n := n.toNat) (fun i σ H' => ∃ (v3 v4 : Option V) (gs : List V) (Ds : List (List (Int × Int))), σ = [some (.ref s), some (.int m), some (.ref r), v3, v4, none] ∧ H' r = some (.lst gs) ∧ DpAll K H' gs (Ds.map domD) ∧ (∀ D ∈ Ds, DomB D) ∧ Ds.length = i ∧ Stm H' s l)
      ⟨none, none, [], [], rfl, b3 _ _ sr.symm e2, .nil, (fun D h => nomatch h), rfl, S3⟩ ?_ ?_
    · rintro i σ H4 hi ⟨v3, v4, gs, Ds, rfl, e4, d4, hD, hl, S4⟩
      refine gname (seq_asg ?_)
      refine ⟨_, rfl, s, l, 7, rfl, S4, by decide, Nat.lt_of_lt_of_le (by decide) n9, fun z H5 z0 z1 b5 S5 => ?_⟩
      refine gname (seq_via (fun σ H' => ∃ z : Int, (0 ≤ z ∧ z ≤ 6) ∧ σ = [some (.ref s), some (.int m), some (.ref r), some (.int (0 + (i : Int))), some (.int z), none] ∧ But s H4 H' ∧ Stm H' s l) ?_ ?_)
      · rintro σ H6 ⟨z, hz, rfl, b6, S6⟩
        have e6 := b6 _ _ sr.symm e4
        have d6 := dps_but S4 b6 (doms_noL Ds) d4
        refine ⟨_, rfl, .inl ⟨rfl, _, SqL.of e6⟩, _, rfl, z, rfl, by omega, by omega, fun D hD2 => ?_⟩
        obtain ⟨os6, hos6⟩ := S6.at_s
        obtain ⟨ol6, hol6⟩ := S6.at_l
        have sD : s ≠ D := ne_of_none hos6 hD2
        have lD : l ≠ D := ne_of_none hol6 hD2
        have rD : r ≠ D := ne_of_none e6 hD2
        refine lc_range (fun i H' => ∃ ns : List Int, H' D = some (.lst (ns.map V.int)) ∧ ns.length = i ∧ Stm H' s l ∧ (∀ b o, b ≠ s → b ≠ D → H6 b = some o → H' b = some o) ∧ ∀ n ∈ ns, -50 ≤ n ∧ n ≤ 50)
          ⟨[], upd_same, rfl, S6.put sD lD, (fun b o _ h2 e => by rw [upd_ne h2]; exact e), fun n h => nomatch h⟩ ?_ ?_
        · rintro j H7 hj ⟨ns, h1, h2, h3, h4, h5⟩
          refine ⟨rfl, _, rfl, _, rfl, s, l, _, rfl, h3, by omega, Nat.lt_of_lt_of_le (show _ < 2 ^ 8 from by omega) n9, fun v H8 v0 v1 b8 S8 => ⟨_, _, rfl, rfl, ?_⟩⟩
          refine ⟨_, b8 _ _ sD.symm h1, small1000 (by rw [List.length_map]; omega), ns ++ [v - 2], ?_, by rw [List.length_append, h2]; rfl, S8.put sD lD, fun b o hb1 hb2 e => ?_, fun n hn => ?_⟩
          · rw [upd_same, List.map_append]; rfl
          · rw [upd_ne hb2]
            exact b8 b o hb1 (h4 b o hb1 hb2 e)
          · rcases List.mem_append.mp hn with y | y
            · exact h5 n y
            · rw [List.mem_singleton.mp y]
              omega
        · rintro H7 ⟨ns, h1, h2, h3, h4, h5⟩
          have b67 : But s H6 H7 := fun b o hb e => h4 b o hb (fun z => by rw [z, hD2] at e; cases e) e
          refine ⟨D, ns, rfl, SqL.of h1, by omega, fun v Dm H8 s8 isd dv => ?_⟩
          have e8 := s8 _ _ (b67 _ _ sr.symm e6)
          have d8 := dp_sameAll s8 _ _ (dps_but S6 b67 (doms_noL Ds) d6)
          have hgl := DpAll.len d8
          rw [List.length_map] at hgl
          refine ⟨_, _, _, rfl, rfl, e8, small1000 (by omega), ?_⟩
          have nr8 : notTup H8 r := .inl ⟨_, e8⟩
          refine ⟨_, _, gs ++ [v], Ds ++ [Dm], rfl, upd_same, ?_, fun D' hD' => ?_, by rw [List.length_append, hl]; rfl, (h3.keep s8).put sr lr⟩
          · rw [List.map_append]
            exact DpAll.app (dp_putAll nr8 _ _ (doms_noL Ds) d8) (.cons (dp_put nr8 _ _ (dom_noL Dm) dv) .nil)
          · rcases List.mem_append.mp hD' with y | y
            · exact hD D' y
            · rw [List.mem_singleton.mp y]
              exact domB_of isd h5
      · intro hu
        refine ⟨_, rfl, _, _, rfl, rfl, _, rfl, ite2 (fun e => ?_) (fun e => ?_)⟩
        · refine ⟨_, rfl, s, l, 4, rfl, S5, by decide, Nat.lt_of_lt_of_le (by decide) n9, fun y H6 y0 y1 b6 S6 => ?_⟩
          refine ⟨_, _, rfl, rfl, _, rfl, ite2 (fun e => ?_) (fun e => ?_)⟩
          · refine ⟨_, rfl, s, l, 3, rfl, S6, by decide, Nat.lt_of_lt_of_le (by decide) n9, fun x H7 x0 x1 b7 S7 => ⟨_, _, rfl, rfl, ?_⟩⟩
            exact gname (hu _ _ ⟨_, ⟨by omega, by omega⟩, rfl, (b5.trans b6).trans b7, S7⟩)
          · exact hu _ _ ⟨z, ⟨by omega, by omega⟩, rfl, b5.trans b6, S6⟩
        · exact hu _ _ ⟨z, ⟨by omega, by omega⟩, rfl, b5, S5⟩
    · rintro σ H4 ⟨v3, v4, gs, Ds, rfl, e4, d4, hD, hl, S4⟩
      exact nxp ⟨_, rfl, q r gs Ds _ e4 d4 hD (by omega)⟩

theorem ok_match_choices {f : Addr} {fd : FuncData} (F : Fun K "match_choices" "match_choices" s_match_choices f fd) (E : Bi K mg) (D_exchange : Has P w K mg base 2 "exchange" ["start", "choices", "owners"] (sp_exchange K)) : FnOk P w K mg base CX0 3 f fd ["choices"] (sp_match_choices K) := by
  obtain ⟨f_exchange, fd_exchange, G_exchange, g_exchange, kp_exchange, b_exchange⟩ := D_exchange
  refine F.ok sc_match_choices (fun vs H Q E h => ?_) (fun cdv A outer s H vs Q E' hr h => ?_)
  · obtain ⟨c, ch, rfl, _⟩ := h
    rfl
  · obtain ⟨c, ch, rfl, hc, hB, qf, qw⟩ := h
    refine ⟨_, (pss_cons (ps_set (i := 1) sc_match_choices.nd rfl (Or.inl rfl) pe_dnewK)
      (pss_cons (ps_for PassesOwn.never rfl (pi_range1 (by rfl) E.b_range (pa_cons (pe_callB call_len_seq (by rfl) E.b_len PySem.boot_len (pa_cons (pv 0) pa_nil)) pa_nil)) (pg_name (i := 2) sc_match_choices.nd rfl (Or.inl rfl)) (pss_cons (ps_asg (pe_call G_exchange (hr.mono (by decide)) (by rfl) g_exchange kp_exchange b_exchange .nil pass0 (pa_cons (pv 2) (pa_cons (pv 0) (pa_cons (pv 1) pa_nil)))) (pg_tup rfl (pgs_cons (pg_name (i := 3) sc_match_choices.nd rfl (Or.inl rfl)) (pgs_cons (pg_name (i := 4) sc_match_choices.nd rfl (Or.inl rfl)) pgs_nil))))
      (pss_cons (ps_if (pt_cmpR op_isN (pv 3) pe_non (nomark _)) (pss_one (ps_ret (pe_tup (pa_cons pe_non (pa_cons (pv 4) pa_nil))))) pss_nil)
      (pss_one (ps_for PassesOwn.never rfl (pi_list (pv 3)) (pg_tup rfl (pgs_cons (pg_name (i := 5) sc_match_choices.nd rfl (Or.inl rfl)) (pgs_cons (pg_name (i := 6) sc_match_choices.nd rfl (Or.inl rfl)) pgs_nil))) (pss_one (ps_dput (hu_of hr) (pv 1) (pv 6) (pv 5) (by rfl))))))))
      (pss_cons (ps_set (i := 7) sc_match_choices.nd rfl (Or.inr rfl) (pe_lock (pe_dc (own := [("value", 6), ("variable", 5)]) (g := gTup K 2 (gCons (gName 6) (gCons (gName 5) gNil))) (tt := tYes) rfl sc_match_choices.nd (pi_items (pv 1)) (blkOk_by (N := N_match_choices) (sc := defScope s_match_choices) (by decide +kernel)) (fun _ _ _ _ _ => pg_tup rfl (pgs_cons (pg_name (i := 6) sc_match_choices.nd rfl (Or.inl rfl)) (pgs_cons (pg_name (i := 5) sc_match_choices.nd rfl (Or.inl rfl)) pgs_nil))) (fun _ _ _ _ _ => pts_nil) (fun _ _ _ _ _ => (pv 5)) (fun _ _ _ _ _ => (pv 6)))))
      (pss_one (ps_ret (pe_tup (pa_cons (pe_lc (own := [("variable", 5)]) (g := gName 5) (tt := tYes) rfl sc_match_choices.nd (pi_range1 (by rfl) E.b_range (pa_cons (pe_callB call_len_seq (by rfl) E.b_len PySem.boot_len (pa_cons (pv 0) pa_nil)) pa_nil)) (blkOk_by (N := N_match_choices) (sc := defScope s_match_choices) (by decide +kernel)) (fun _ _ _ _ _ => pg_name (i := 5) sc_match_choices.nd rfl (Or.inl rfl)) (fun _ _ _ _ _ => pts_nil) (fun _ _ _ _ _ => (pe_dget (hu_of hr) (pv 7) (pv 5) (fun _ _ => rfl)))) (pa_cons pe_non pa_nil)))))))), ?_⟩
    obtain ⟨as, c1, c2, c3⟩ := id hc
    have hB1 := hB.1
    have hal : (as.map V.ref).length = ch.length := by rw [List.length_map, c2]
    refine seq_asg ?_
    refine fun w nw => ?_
    refine gname (seq_any ?_)
    have s0 := same_upd (o := .dK []) nw
    have ew0 : (upd H w (.dK [])) w = some (.dK []) := upd_same
    generalize upd H w (.dK []) = H1 at s0 ew0
    refine ⟨_, rfl, _, _, rfl, .inl (SqL.of (s0 _ _ c1)), _, rfl, by omega, by omega, for_range (lo := 0) (n := (as.map V.ref).length) (fun i σ H' => ∃ (v2 v3 v4 v5 v6 : Option V) (kvs : List (Key × V)) (o : Int → Option Int), σ = [some (.ref c), some (.ref w), v2, v3, v4, v5, v6, none] ∧ Same H H' ∧ H' w = some (.dK kvs) ∧ OwnK kvs o ∧ Own ch o i ∧ kvs.length ≤ 8 * i)
      ⟨none, none, none, none, none, [], fun _ => none, rfl, s0, ew0, own_nil, ⟨(fun y w h => nomatch h), (fun w h1 h2 => by omega), (fun y y' w h => nomatch h)⟩, Nat.zero_le _⟩ ?_ ?_⟩
    · rintro i σ H2 hi ⟨v2, v3, v4, v5, v6, kvs, o, rfl, s2, e2, hO, hOwn, hkl⟩
      refine gname (seq_asg ?_)
      refine ⟨_, rfl, _, rfl, _, rfl, i, c, w, ch, kvs, o, ?_, Chs.same s2 hc, hB, e2, hO, hOwn, by omega, ?_, ?_⟩
      · simp
      · intro b r P ys H3 s3 hb nr e3 d3 lp own
        refine ⟨b, _, rfl, hb, rfl, _, _, rfl, gname ⟨_, [], rfl, gname ⟨rfl, ?_⟩⟩⟩
        refine seq_any ?_
        refine ⟨_, rfl, rfl, _, rfl, iteF (nxp ?_)⟩
        have ew3 := s3 _ _ e2
        have rw3 : r ≠ w := fun z => by rw [z, ew3] at e3; cases e3
        have hyl := DpAll.len d3
        rw [List.length_map] at hyl
        have nw3 : notTup H3 w := .inr (.inl ⟨_, ew3⟩)
        refine ⟨_, rfl, r, rfl, ⟨_, SqL.of e3⟩, for_list (K := K) (a := r) (xs := ys) (fun j σ H' => ∃ (v5 v6 : Option V) (kv : List (Key × V)), σ = [some (.ref c), some (.ref w), some (.int (0 + (i : Int))), some (.ref r), some .non, v5, v6, none] ∧ But w H3 H' ∧ H' w = some (.dK kv) ∧ OwnK kv (putAll o (P.take j)) ∧ kv.length ≤ kvs.length + j)
          ⟨v5, v6, kvs, rfl, But.refl _ _, ew3, hO, Nat.le_refl _⟩ (fun j σ H' _ ⟨_, _, _, _, e, _⟩ => SqL.of (e _ _ rw3 e3)) ?_ ?_⟩
        · rintro j x σ H4 hj ⟨v5, v6, kv, rfl, b4, e4, O4, l4⟩
          obtain ⟨d, hd, dx⟩ := DpAll.getV d3 hj
          rw [List.getElem?_map] at hd
          obtain ⟨p, hp, rfl⟩ : ∃ p, P[j]? = some p ∧ ivD p = d := by
            cases hr : P[j]? with
            | none => rw [hr] at hd; cases hd
            | some p => rw [hr] at hd; exact ⟨p, rfl, Option.some.inj hd⟩
          have hjl := (List.getElem?_eq_some_iff.mp hp).1
          unfold ivD at dx
          cases id dx with
          | @tup c2 zs _ hz az =>
          cases az with
          | cons y1 az =>
          cases az with
          | cons y2 az =>
          cases az
          cases y1
          cases y2
          refine ⟨c2, _, rfl, sqT_but nw3 b4 hz, rfl, _, _, rfl, gname ⟨_, [], rfl, gname ⟨rfl, ?_⟩⟩⟩
          refine ⟨_, rfl, _, rfl, _, rfl, w, _, rfl, DPut.k (k := Sum.inl p.2) e4 (small1000 (by omega)), ?_⟩
          refine ⟨_, _, _, rfl, b4.trans But.put, upd_same, ?_, Nat.le_trans (length_putK _ _ _) (by omega)⟩
          rw [List.take_add_one, hp]
          show OwnK _ (putAll o (P.take j ++ [p]))
          rw [putAll_snoc]
          exact own_put O4 p.2 p.1
        · rintro σ H4 ⟨v5, v6, kv, rfl, b4, e4, O4, l4⟩
          rw [hyl, List.take_length] at O4
          refine nxp ⟨_, _, _, _, _, kv, _, rfl, fun b u e => b4 _ _ (ne_of_none e nw) (s3 _ _ (s2 _ _ e)), e4, O4, own, by omega⟩
      · intro b r ks H3 s3 hb e3 few
        refine ⟨b, _, rfl, hb, rfl, _, _, rfl, gname ⟨_, [], rfl, gname ⟨rfl, ?_⟩⟩⟩
        refine seq_any ?_
        refine ⟨_, rfl, rfl, _, rfl, iteT ?_⟩
        refine ⟨_, rfl, (by show 2 ≤ sizeLine; decide), fun p np => ?_⟩
        have sp := same_upd (o := .tup [.non, .ref r]) np
        exact qw p r ks _ (s2.trans (s3.trans sp)) (SqT.of upd_same) (sp _ _ e3) few
    · rintro σ H2 ⟨v2, v3, v4, v5, v6, kvs, o, rfl, s2, e2, hO, hOwn, hkl⟩
      rw [hal] at hOwn hkl
      refine nxp (seq_asg ?_)
      refine ⟨w, .dK kvs, e2, trivial, fun od => ?_⟩
      refine ⟨_, rfl, w, od, kvs, rfl, upd_same, fun r nr => ?_⟩
      have rw2 : r ≠ w := fun z => by rw [z, upd_same] at nr; cases nr
      have nr2 : H2 r = Option.none := by rw [upd_ne rw2] at nr; exact nr
      have nr0 : H r = Option.none := by
        cases e : H r with
        | none => rfl
        | some z => rw [s2 _ _ e] at nr2; cases nr2
      refine dc_it walk_items (fun i H' => ∃ kv : List (Key × V), Same (upd H2 w (.frz od (.dK kvs))) H' ∧ H' r = some (.dK kv) ∧ (∀ (j : Nat) (x u : Int), j < i → kvs[j]? = some (Sum.inl x, V.int u) → valV kv (Sum.inl u) = some (.int x)) ∧ kv.length ≤ i)
        ⟨[], same_upd nr, upd_same, (fun j x u h => nomatch h), Nat.le_refl 0⟩ (fun i H' _ ⟨_, e, _⟩ => e _ _ upd_same) ?_ ?_
      · rintro i x H3 H4 hi ⟨kv, s3, e3, hall, hkv⟩ ⟨A1, x1, x2, rfl, nA, rfl, y1, y2⟩
        have hk : kvs[i]? = some kvs[i] := List.getElem?_eq_getElem hi
        generalize kvs[i] = kv0 at hk
        simp only [hk, Option.map_some, Option.some.injEq] at y1 y2
        subst y1 y2
        obtain ⟨x, u, rfl, ho⟩ := hO.kvs kv0 (List.mem_of_getElem? hk)
        have sA := same_upd (o := .tup [kV (Sum.inl x), V.int u]) nA
        have e4 := sA _ _ e3
        refine ⟨A1, [kV (Sum.inl x), V.int u], rfl, SqT.of upd_same, rfl, _, _, rfl, gname ⟨_, [], rfl, gname ⟨rfl, ?_⟩⟩⟩
        refine ⟨rfl, _, rfl, _, rfl, kv, Sum.inl u, rfl, e4, small1000 (by omega), ?_⟩
        refine ⟨_, fun b o e => by rw [upd_ne (ne_of_none e nr)]; exact sA _ _ (s3 _ _ e), upd_same, fun j x' u' hj hx' => ?_, Nat.le_trans (length_putK _ _ _) (by omega)⟩
        rw [valV_put]
        rcases (show j < i ∨ j = i by omega) with z | z
        · by_cases e : u' = u
          · subst e
            rw [if_pos rfl]
            have h1 := hO.kvs _ (List.mem_of_getElem? hx')
            obtain ⟨x3, u3, h2, h3⟩ := h1
            cases h2
            rw [hOwn.inj x x' u' ho h3]
            rfl
          · rw [if_neg (fun z => e (Sum.inl.inj z))]
            exact hall j x' u' z hx'
        · subst z
          rw [hk] at hx'
          cases hx'
          rw [if_pos rfl]
          rfl
      · rintro H3 ⟨kv, s3, e3, hall, hkv⟩
        refine ⟨s3 _ _ upd_same, gname ?_⟩
        have s4 : Same H (upd H3 w (.dK kvs)) := fun b u e => by
          have hb := ne_of_none e nw
          rw [upd_ne hb]
          exact s3 _ _ (by rw [upd_ne hb]; exact s2 _ _ e)
        have e4 : (upd H3 w (.dK kvs)) r = some (.dK kv) := by rw [upd_ne rw2]; exact e3
        have hget : ∀ j : Nat, j < ch.length → ∃ y, o y = some (j : Int) ∧ valV kv (Sum.inl (j : Int)) = some (.int y) := fun j hj => by
          obtain ⟨y, hy⟩ := hOwn.all (j : Int) (by omega) (by omega)
          have h1 : valV kvs (Sum.inl y) = some (V.int (j : Int)) := by rw [hO.val y, hy]; rfl
          obtain ⟨n, hn⟩ := List.getElem?_of_mem (valV_mem h1)
          exact ⟨y, hy, hall n y (j : Int) (List.getElem?_eq_some_iff.mp hn).1 hn⟩
        generalize upd H3 w (.dK kvs) = H5 at s4 e4
        refine ⟨_, rfl, _, _, rfl, .inl (SqL.of (s4 _ _ c1)), _, rfl, by omega, by omega, fun R hR => ?_⟩
        refine walk_gen (n := (((as.map V.ref).length : Nat) : Int).toNat) walk_range (fun j H' => ∃ ns : List Int, Same H5 H' ∧ H' R = some (.lst (ns.map V.int)) ∧ ns.length = j ∧ ∀ (k : Nat) (n : Int), ns[k]? = some n → o n = some (k : Int)) ⟨[], same_upd hR, upd_same, rfl, fun k n h => nomatch h⟩ (fun _ _ _ _ => trivial) ?_ ?_
        · rintro j z H6 H7 hj ⟨ns, s6, e6, l6, h6⟩ ⟨rfl, rfl⟩
          obtain ⟨y, hy, hv⟩ := hget j (by omega)
          have g1 : DGet H7 r (.int (0 + (j : Int))) (valV kv (Sum.inl (0 + (j : Int)))) := DGet.k (k := Sum.inl (0 + (j : Int))) (s6 _ _ e4)
          rw [show valV kv (Sum.inl (0 + (j : Int))) = some (V.int y) by rw [Int.zero_add]; exact hv] at g1
          refine gname ⟨rfl, _, rfl, _, rfl, r, _, rfl, g1, _, e6, small1000 (by rw [List.length_map]; omega), ns ++ [y], fun b u e => by rw [upd_ne (ne_of_none e hR)]; exact s6 _ _ e, by rw [upd_same, List.map_append]; rfl, by rw [List.length_append, l6]; rfl, fun k n hn => ?_⟩
          by_cases hlt : k < ns.length
          · rw [List.getElem?_append_left hlt] at hn
            exact h6 k n hn
          · rw [List.getElem?_append_right (by omega)] at hn
            have h0 : k - ns.length = 0 := by
              have := (List.getElem?_eq_some_iff.mp hn).1
              rw [List.length_singleton] at this
              omega
            rw [h0, List.getElem?_cons_zero] at hn
            cases hn
            rw [hy]
            congr 1
            omega
        · rintro H6 ⟨ns, s6, e6, l6, h6⟩
          refine ⟨(by show 2 ≤ sizeLine; decide), fun b nb => ?_⟩
          have sb := same_upd (o := .tup [.ref R, .non]) nb
          exact qf b R ns _ (s4.trans (s6.trans sb)) (SqT.of upd_same) (sb _ _ e6) (fits_of hOwn (by omega) h6)

theorem ok_distinct_values {f : Addr} {fd : FuncData} (F : Fun K "distinct_values" "distinct_values" s_distinct_values f fd) (E : Bi K mg) (D_match_choices : Has P w K mg base 3 "match_choices" ["choices"] (sp_match_choices K)) (D_values : Has P w K mg base 1 "values" ["given"] (sp_values K)) : FnOk P w K mg base CX0 4 f fd ["given"] (sp_distinct_values K) := by
  obtain ⟨f_match_choices, fd_match_choices, G_match_choices, g_match_choices, kp_match_choices, b_match_choices⟩ := D_match_choices
  obtain ⟨f_values, fd_values, G_values, g_values, kp_values, b_values⟩ := D_values
  refine F.ok sc_distinct_values (fun vs H Q E h => ?_) (fun cdv A outer s H vs Q E' hr h => ?_)
  · obtain ⟨g, gs, Ds, rfl, _⟩ := h
    rfl
  · obtain ⟨g, gs, Ds, rfl, hg, dg, hD, hl, q1, q2⟩ := h
    refine ⟨_, (pss_one (ps_ret (pe_call G_match_choices (hr.mono (by decide)) (by rfl) g_match_choices kp_match_choices b_match_choices .nil pass0 (pa_cons (pe_lc (own := [("one", 1)]) (g := gName 1) (tt := tYes) rfl sc_distinct_values.nd (pi_list (pv 0)) (blkOk_by (N := N_distinct_values) (sc := defScope s_distinct_values) (by decide +kernel)) (fun _ _ _ _ _ => pg_name (i := 1) sc_distinct_values.nd rfl (Or.inl rfl)) (fun _ _ _ _ _ => pts_nil) (fun _ _ _ _ _ => (pe_call G_values (hr.mono (by decide)) (by rfl) g_values kp_values b_values .nil pass0 (pa_cons (pv 1) pa_nil)))) pa_nil)))), ?_⟩
    have hgl := DpAll.len dg
    rw [List.length_map] at hgl
    refine ⟨_, rfl, g, rfl, ⟨_, SqL.of hg⟩, fun R hR => ?_⟩
    refine walk_gen (n := gs.length) walk_list (fun i H' => ∃ as : List Addr, Same H H' ∧ H' R = some (.lst (as.map V.ref)) ∧ as.length = i ∧ ∀ (j : Nat) (a : Addr) (D : List (Int × Int)), as[j]? = some a → Ds[j]? = some D → H' a = some (.lst ((valsM D).map V.int)) ∧ a ≠ R)
      ⟨[], same_upd hR, upd_same, rfl, fun j a D h => nomatch h⟩ (fun i H' _ ⟨_, e, _⟩ => SqL.of (e _ _ hg)) ?_ ?_
    · rintro i y H1 H2 hi ⟨as, s1, e1, l1, h1⟩ ⟨rfl, hy⟩
      obtain ⟨d, hd, dy0⟩ := DpAll.getV dg hy
      rw [List.getElem?_map] at hd
      obtain ⟨D, hDi, rfl⟩ : ∃ D, Ds[i]? = some D ∧ domD D = d := by
        cases hr : Ds[i]? with
        | none => rw [hr] at hd; cases hd
        | some p => rw [hr] at hd; exact ⟨p, rfl, Option.some.inj hd⟩
      obtain ⟨b1, b2, b3⟩ := hD D (List.mem_of_getElem? hDi)
      refine gname ⟨rfl, _, rfl, _, D, rfl, dp_same s1 _ _ dy0, b3, b1, b2, fun r H3 s3 nr e3 => ?_⟩
      have e4 := s3 _ _ e1
      have rR : r ≠ R := fun z => by rw [z, e1] at nr; cases nr
      refine ⟨_, e4, small1000 (by rw [List.length_map]; omega), as ++ [r], fun b u e => by rw [upd_ne (ne_of_none e hR)]; exact s3 _ _ (s1 _ _ e), by rw [upd_same, List.map_append]; rfl, by rw [List.length_append, l1]; rfl, fun j a D' ha hD' => ?_⟩
      by_cases hlt : j < as.length
      · rw [List.getElem?_append_left hlt] at ha
        obtain ⟨h2, h3⟩ := h1 j a D' ha hD'
        exact ⟨by rw [upd_ne h3]; exact s3 _ _ h2, h3⟩
      · rw [List.getElem?_append_right (by omega)] at ha
        have h0 : j - as.length = 0 := by
          have := (List.getElem?_eq_some_iff.mp ha).1
          rw [List.length_singleton] at this
          omega
        rw [h0, List.getElem?_cons_zero] at ha
        cases ha
        have hji : j = i := by omega
        subst hji
        rw [hDi] at hD'
        cases hD'
        exact ⟨by rw [upd_ne rR]; exact e3, rR⟩
    · rintro H1 ⟨as, s1, e1, l1, h1⟩
      have mono : ∀ {P : Hp → Prop}, (∀ H', Same H H' → P H') → ∀ H', Same H1 H' → P H' := fun f H' s => f H' (s1.trans s)
      refine ⟨R, Ds.map valsM, rfl, ⟨as, e1, by rw [List.length_map]; omega, fun i a cs ha hc => ?_⟩, ⟨by rw [List.length_map]; exact hl, fun cs hc => ?_⟩, fun b r ns H' s' => q1 b r ns H' (s1.trans s'), fun b r ks H' s' => q2 b r ks H' (s1.trans s')⟩
      · rw [List.getElem?_map] at hc
        cases hr : Ds[i]? with
        | none => rw [hr] at hc; cases hc
        | some D =>
          rw [hr] at hc
          cases hc
          exact (h1 i a D ha hr).1
      · obtain ⟨D, h2, rfl⟩ := List.mem_map.mp hc
        exact (hD D h2).2.2

theorem ok_law {f : Addr} {fd : FuncData} (F : Fun K "law" "law" s_law f fd) (E : Bi K mg) (D__law_stream : Has P w K mg base 1 "_law_stream" ["script"] (sp__law_stream K)) (D__law_domains : Has P w K mg base 2 "_law_domains" ["stream"] (sp__law_domains K)) (D_distinct_values : Has P w K mg base 4 "distinct_values" ["given"] (sp_distinct_values K)) (D__law_values : Has P w K mg base 1 "_law_values" ["given"] (sp__law_values K)) (D__law_is_integer : Has P w K mg base 1 "_law_is_integer" ["value"] (sp__law_is_integer K)) : FnOk P w K mg base CX0 5 f fd ["script"] (sp_law K) := by
  obtain ⟨f__law_stream, fd__law_stream, G__law_stream, g__law_stream, kp__law_stream, b__law_stream⟩ := D__law_stream
  obtain ⟨f__law_domains, fd__law_domains, G__law_domains, g__law_domains, kp__law_domains, b__law_domains⟩ := D__law_domains
  obtain ⟨f_distinct_values, fd_distinct_values, G_distinct_values, g_distinct_values, kp_distinct_values, b_distinct_values⟩ := D_distinct_values
  obtain ⟨f__law_values, fd__law_values, G__law_values, g__law_values, kp__law_values, b__law_values⟩ := D__law_values
  obtain ⟨f__law_is_integer, fd__law_is_integer, G__law_is_integer, g__law_is_integer, kp__law_is_integer, b__law_is_integer⟩ := D__law_is_integer
  refine F.ok sc_law (fun vs H Q E h => ?_) (fun cdv A outer s H vs Q E' hr h => ?_)
  · obtain ⟨a, ns, rfl, _⟩ := h
    rfl
  · obtain ⟨a, ns, rfl, hS, hl, q⟩ := h
    refine ⟨_, (pss_cons (ps_set (i := 1) sc_law.nd rfl (Or.inl rfl) (pe_call G__law_stream (hr.mono (by decide)) (by rfl) g__law_stream kp__law_stream b__law_stream .nil pass0 (pa_cons (pv 0) pa_nil)))
      (pss_cons (ps_set (i := 2) sc_law.nd rfl (Or.inl rfl) (pe_call G__law_domains (hr.mono (by decide)) (by rfl) g__law_domains kp__law_domains b__law_domains .nil pass0 (pa_cons (pv 1) pa_nil)))
      (pss_cons (ps_set (i := 3) sc_law.nd rfl (Or.inl rfl) (pe_callTy call_list_of (by rfl) E.b_list (by decide +kernel) (pa_cons (pv 2) pa_nil)))
      (pss_cons (ps_set (i := 4) sc_law.nd rfl (Or.inl rfl) (pe_call G_distinct_values (hr.mono (by decide)) (by rfl) g_distinct_values kp_distinct_values b_distinct_values .nil pass0 (pa_cons (pv 3) pa_nil)))
      (pss_cons (ps_if (pw_or (pt_cmpR (op_neD hr.units) (pv 3) (pv 2) (nomark _)) (pw_or (pt_not (pt_val (pe_callB call_isi (by rfl) E.b_isinstance (by decide +kernel) (pa_cons (pv 4) (pa_cons (pe_ty "tuple" (by rfl) E.b_tuple (by decide +kernel)) pa_nil))))) (pw_or1 (pt_cmpR op_ne (pe_callB call_len_seq (by rfl) E.b_len PySem.boot_len (pa_cons (pv 4) pa_nil)) pe_int (nomark _))))).pt (pss_one (ps_ret pe_bl)) pss_nil)
      (pss_cons (ps_if (pt_cmpR op_notN (pe_ix ix_tup (pv 4) pe_int (fun _ _ => rfl)) pe_non (nomark _)) (pss_cons (ps_set (i := 5) sc_law.nd rfl (Or.inl rfl) (pe_ix ix_tup (pv 4) pe_int (fun _ _ => rfl)))
      (pss_cons (ps_if (pw_or (pt_cmpR op_notN (pe_ix ix_tup (pv 4) pe_int (fun _ _ => rfl)) pe_non (nomark _)) (pw_or (pt_not (pt_val (pe_callB call_isi (by rfl) E.b_isinstance (by decide +kernel) (pa_cons (pv 5) (pa_cons (pe_ty "list" (by rfl) E.b_list (by decide +kernel)) pa_nil))))) (pw_or1 (pt_cmpR op_ne (pe_callB call_len_seq (by rfl) E.b_len PySem.boot_len (pa_cons (pv 5) pa_nil)) (pe_callB call_len_seq (by rfl) E.b_len PySem.boot_len (pa_cons (pv 2) pa_nil)) (nomark _))))).pt (pss_one (ps_ret pe_bl)) pss_nil)
      (pss_cons (ps_for PassesOwn.never rfl (pi_range1 (by rfl) E.b_range (pa_cons (pe_callB call_len_seq (by rfl) E.b_len PySem.boot_len (pa_cons (pv 5) pa_nil)) pa_nil)) (pg_name (i := 6) sc_law.nd rfl (Or.inl rfl)) (pss_one (ps_if (pw_or (pt_not (pt_val (pe_call G__law_is_integer (hr.mono (by decide)) (by rfl) g__law_is_integer kp__law_is_integer b__law_is_integer .nil pass0 (pa_cons (pe_ix ix_list (pv 5) (pv 6) (fun _ _ => rfl)) pa_nil)))) (pw_or (pt_cmpR op_notIn_seq (pe_ix ix_list (pv 5) (pv 6) (fun _ _ => rfl)) (pe_call G__law_values (hr.mono (by decide)) (by rfl) g__law_values kp__law_values b__law_values .nil pass0 (pa_cons (pe_ix ix_list (pv 2) (pv 6) (fun _ _ => rfl)) pa_nil)) (by rfl)) (pw_or1 (pt_cmpR op_in_seq (pe_ix ix_list (pv 5) (pv 6) (fun _ _ => rfl)) (pe_slice sl_list (pv 5) po_none (po_some (pv 6))) (by rfl))))).pt (pss_one (ps_ret pe_bl)) pss_nil)))
      (pss_one (ps_ret pe_bl))))) pss_nil)
      (pss_cons (ps_set (i := 7) sc_law.nd rfl (Or.inl rfl) (pe_ix ix_tup (pv 4) pe_int (fun _ _ => rfl)))
      (pss_cons (ps_if (pw_or (pt_not (pt_val (pe_callB call_isi (by rfl) E.b_isinstance (by decide +kernel) (pa_cons (pv 7) (pa_cons (pe_ty "list" (by rfl) E.b_list (by decide +kernel)) pa_nil))))) (pw_or1 (pt_cmpR op_eq (pe_callB call_len_seq (by rfl) E.b_len PySem.boot_len (pa_cons (pv 7) pa_nil)) pe_int (nomark _)))).pt (pss_one (ps_ret pe_bl)) pss_nil)
      (pss_cons (ps_set (i := 8) sc_law.nd rfl (Or.inr rfl) (pe_lst pa_nil))
      (pss_cons (ps_for PassesOwn.never rfl (pi_range1 (by rfl) E.b_range (pa_cons (pe_callB call_len_seq (by rfl) E.b_len PySem.boot_len (pa_cons (pv 7) pa_nil)) pa_nil)) (pg_name (i := 6) sc_law.nd rfl (Or.inl rfl)) (pss_cons (ps_if (pw_or (pt_not (pt_val (pe_call G__law_is_integer (hr.mono (by decide)) (by rfl) g__law_is_integer kp__law_is_integer b__law_is_integer .nil pass0 (pa_cons (pe_ix ix_list (pv 7) (pv 6) (fun _ _ => rfl)) pa_nil)))) (pw_or (pt_not (pt_chain op_le op_lt pe_int (pe_ix ix_list (pv 7) (pv 6) (fun _ _ => rfl)) (pe_callB call_len_seq (by rfl) E.b_len PySem.boot_len (pa_cons (pv 2) pa_nil)))) (pw_or1 (pw_and (pt_cmpR op_gt (pv 6) pe_int (nomark _)) (pw_and1 (pt_cmpR op_ge (pe_ix ix_list (pv 7) (pe_op op_sub (pv 6) pe_int) (fun _ _ => rfl)) (pe_ix ix_list (pv 7) (pv 6) (fun _ _ => rfl)) (nomark _)))).pt))).pt (pss_one (ps_ret pe_bl)) pss_nil)
      (pss_one (ps_expr (pe_bm PySem.F.plainAttrs_list PySem.F.slot_list_extend PySem.F.type_list_extend mt_extend (pv 8) (pa_cons (pe_lc (own := [("value", 9)]) (g := gName 9) rfl sc_law.nd (pi_list (pe_call G__law_values (hr.mono (by decide)) (by rfl) g__law_values kp__law_values b__law_values .nil pass0 (pa_cons (pe_ix ix_list (pv 2) (pe_ix ix_list (pv 7) (pv 6) (fun _ _ => rfl)) (fun _ _ => rfl)) pa_nil))) (blkOk_by (N := N_law) (sc := defScope s_law) (by decide +kernel)) (fun _ _ _ _ _ => pg_name (i := 9) sc_law.nd rfl (Or.inl rfl)) (fun _ _ _ _ _ => pts_one (pt_cmpR (show OpR _ (compareOp .NotIn) (rIn K true) from op_notIn_seq) (pv 9) (pv 8) (by rfl))) (fun _ _ _ _ _ => (pv 9))) pa_nil))))))
      (pss_one (ps_ret (pe_cmpR op_lt (pe_callB call_len_seq (by rfl) E.b_len PySem.boot_len (pa_cons (pv 8) pa_nil)) (pe_callB call_len_seq (by rfl) E.b_len PySem.boot_len (pa_cons (pv 7) pa_nil)) (nomark _)))))))))))))), ?_⟩
    refine seq_asg ?_
    refine ⟨_, rfl, a, ns, rfl, hS, hl, fun s l H1 hs hl1 s1 S1 => ?_⟩
    refine gname (seq_asg ?_)
    refine ⟨_, rfl, s, l, rfl, S1, fun r gs Ds H2 er dr hD hlD => ?_⟩
    refine gname (seq_asg ?_)
    refine ⟨_, rfl, _, _, rfl, .inl (SqL.of er), fun g ng => ?_⟩
    have sg := same_upd (o := .lst gs) ng
    have er3 := sg _ _ er
    have eg3 : (upd H2 g (.lst gs)) g = some (.lst gs) := upd_same
    have d3 := dp_sameAll sg _ _ dr
    clear er dr ng sg S1 s1 hl1 hs
    generalize upd H2 g (.lst gs) = H3 at er3 eg3 d3
    have hgl := DpAll.len d3
    rw [List.length_map] at hgl
    refine gname (seq_asg ?_)
    refine ⟨_, rfl, g, gs, Ds, rfl, eg3, d3, hD, hlD, ?_, ?_⟩
    · intro b p ns H4 s4 hb ep fits
      have er4 := s4 _ _ er3
      have eg4 := s4 _ _ eg3
      have d4 := dp_sameAll s4 _ _ d3
      obtain ⟨f1, f2, f3⟩ := fits
      rw [List.length_map] at f1
      have db : Dp K H4 (.ref b) (.tuple [.list (ns.map PyData.int), .none]) := .tup hb (.cons (.lst (SqL.of ep) (dp_ints ns)) (.cons .non .nil))
      have dp : Dp K H4 (.ref p) (.list (ns.map PyData.int)) := .lst (SqL.of ep) (dp_ints ns)
      refine gname (seq_ifN ?_)
      refine ⟨_, rfl, _, rfl, .list (Ds.map domD), .list (Ds.map domD), .lst (SqL.of eg4) d4, .lst (SqL.of er4) d4, doms_shaped _, doms_shaped _, _, rfl, ?_⟩
      rw [doms_eqv]
      refine iteF ?_
      refine ⟨_, rfl, _, _, _, _, _, rfl, .ty _, tyx_of db, kit_ty (kitT _), _, rfl, iteF ?_⟩
      refine ⟨_, rfl, _, _, rfl, .inr hb, rfl, _, rfl, iteF ?_⟩
      refine seq_any ?_
      refine ⟨_, rfl, _, _, _, _, rfl, rfl, hb, rfl, rfl, _, rfl, iteT ?_⟩
      refine seq_asg ?_
      refine ⟨_, rfl, _, _, _, _, rfl, rfl, hb, rfl, gname (seq_ifN ?_)⟩
      refine ⟨_, rfl, _, _, _, _, rfl, rfl, hb, rfl, rfl, _, rfl, iteF ?_⟩
      refine ⟨_, rfl, _, _, _, _, _, rfl, .ty _, tyx_of dp, kit_ty (kitL _), _, rfl, iteF ?_⟩
      refine ⟨_, rfl, _, _, rfl, .inl (SqL.of ep), _, rfl, _, _, rfl, .inl (SqL.of er4), rfl, _, rfl, ?_⟩
      rw [decide_eq_true (show V.int (((ns.map V.int).length : Nat) : Int) = V.int ((gs.length : Nat) : Int) by rw [List.length_map, f1, hgl])]
      refine iteF (seq_any ?_)
      refine ⟨_, rfl, _, _, rfl, .inl (SqL.of ep), _, rfl, by rw [List.length_map]; omega, by rw [List.length_map]; omega, ?_⟩
      refine for_range (lo := 0) (n := (((ns.map V.int).length : Nat) : Int).toNat) (fun i σ H' => ∃ v6 : Option V, σ = [some (.ref a), some (.ref s), some (.ref r), some (.ref g), some (.ref b), some (.ref p), v6, none, none, none] ∧ Same H4 H')
        ⟨none, rfl, Same.refl _⟩ ?_ ?_
      · rintro i σ H6 hi ⟨v6, rfl, s6⟩
        have hil : i < ns.length := by
          rw [List.length_map] at hi
          omega
        obtain ⟨n, hn⟩ : ∃ n, ns[i]? = some n := ⟨_, List.getElem?_eq_getElem hil⟩
        have hat : atI (ns.map V.int) (0 + (i : Int)) = some (.int n) := at_of (j := i) (by omega) (by rw [List.getElem?_map, hn]; rfl)
        obtain ⟨D, hDi⟩ : ∃ D, Ds[i]? = some D := ⟨_, List.getElem?_eq_getElem (by omega)⟩
        obtain ⟨x, hx, dx⟩ := DpAll.get (i := i) d4 (by rw [List.getElem?_map, hDi]; rfl)
        have hatg : atI gs (0 + (i : Int)) = some x := at_of (j := i) (by omega) hx
        obtain ⟨b1, b2, b3⟩ := hD D (List.mem_of_getElem? hDi)
        have ep6 := s6 _ _ ep
        have er6 := s6 _ _ er4
        refine gname ?_
        refine ⟨_, rfl, _, rfl, _, _, _, _, rfl, rfl, SqL.of ep6, hat, _, .int n, rfl, .int n, _, rfl, iteF ?_⟩
        refine ⟨_, rfl, _, rfl, _, _, _, _, rfl, rfl, SqL.of ep6, hat, _, rfl, _, rfl, _, _, _, _, rfl, rfl, SqL.of er6, hatg, x, D, rfl, dp_same s6 _ _ dx, b3, b1, b2, fun r2 H7 s7 n7 e7 => ?_⟩
        refine ⟨_, _, rfl, .inl (SqL.of e7), rfl, flat_ints _, _, rfl, ?_⟩
        rw [inV_int, decide_eq_true (f3 i n (valsM D) hn (by rw [List.getElem?_map, hDi]; rfl))]
        refine iteF ?_
        have s47 := s6.trans s7
        refine ⟨_, rfl, _, rfl, _, _, _, _, rfl, rfl, SqL.of (s47 _ _ ep), hat, _, rfl, nopart_of ?_⟩
        refine ⟨_, rfl, _, rfl, _, _, rfl, SqL.of (s47 _ _ ep), fun c nc => ?_⟩
        have hcut : cutV (ns.map V.int) Option.none (some (0 + (i : Int))) = (ns.take i).map V.int := by rw [Int.zero_add, cut_take _ _ (by rw [List.length_map]; omega), List.map_take]
        have ecut : (upd H7 c (.lst (cutV (ns.map V.int) Option.none (some (0 + (i : Int)))))) c = some (.lst ((ns.take i).map V.int)) := by rw [upd_same, hcut]
        refine ⟨c, _, rfl, .inl (SqL.of ecut), rfl, flat_ints _, _, rfl, ?_⟩
        rw [inV_int, decide_eq_false (nodup_take f2 hn)]
        exact iteF ⟨_, rfl, s47.trans (same_upd nc)⟩
      · rintro σ H6 ⟨v6, rfl, s6⟩
        exact nxp (q _)
    · intro b p ks H4 s4 hb ep few
      have er4 := s4 _ _ er3
      have eg4 := s4 _ _ eg3
      have d4 := dp_sameAll s4 _ _ d3
      obtain ⟨f1, f2, f3, f4⟩ := few
      rw [List.length_map] at f3
      have db : Dp K H4 (.ref b) (.tuple [.none, .list (ks.map PyData.int)]) := .tup hb (.cons .non (.cons (.lst (SqL.of ep) (dp_ints ks)) .nil))
      have dp : Dp K H4 (.ref p) (.list (ks.map PyData.int)) := .lst (SqL.of ep) (dp_ints ks)
      refine gname (seq_ifN ?_)
      refine ⟨_, rfl, _, rfl, .list (Ds.map domD), .list (Ds.map domD), .lst (SqL.of eg4) d4, .lst (SqL.of er4) d4, doms_shaped _, doms_shaped _, _, rfl, ?_⟩
      rw [doms_eqv]
      refine iteF ?_
      refine ⟨_, rfl, _, _, _, _, _, rfl, .ty _, tyx_of db, kit_ty (kitT _), _, rfl, iteF ?_⟩
      refine ⟨_, rfl, _, _, rfl, .inr hb, rfl, _, rfl, iteF ?_⟩
      refine seq_any ?_
      refine ⟨_, rfl, _, _, _, _, rfl, rfl, hb, rfl, rfl, _, rfl, iteF (nxp ?_)⟩
      refine seq_asg ?_
      refine ⟨_, rfl, _, _, _, _, rfl, rfl, hb, rfl, gname (seq_ifN ?_)⟩
      refine ⟨_, rfl, _, _, _, _, _, rfl, .ty _, tyx_of dp, kit_ty (kitL _), _, rfl, iteF ?_⟩
      have hk0 : 0 < ks.length := List.length_pos_iff.mpr f2
      refine ⟨_, rfl, _, _, rfl, .inl (SqL.of ep), rfl, _, rfl, ?_⟩
      rw [decide_eq_false (fun z => by have z := V.int.inj z; rw [List.length_map] at z; omega)]
      refine iteF (seq_asg ?_)
      refine ⟨Nat.zero_le _, fun u nu => gname (seq_any ?_)⟩
      have su := same_upd (o := .lst []) nu
      have eu : (upd H4 u (.lst [])) u = some (.lst ((([] : List Int)).map V.int)) := upd_same
      generalize upd H4 u (.lst []) = H5 at su eu
      have hkl : ks.length ≤ 8 := by
        have := lt_len (lo := 0) (hi := 7) f1 fun k hk => by have := f3 k hk; omega
        omega
      refine ⟨_, rfl, _, _, rfl, .inl (SqL.of (su _ _ ep)), _, rfl, by rw [List.length_map]; omega, by rw [List.length_map]; omega, ?_⟩
      refine for_range (lo := 0) (n := (((ks.map V.int).length : Nat) : Int).toNat) (fun i σ H' => ∃ (v6 : Option V) (F : List Int), σ = [some (.ref a), some (.ref s), some (.ref r), some (.ref g), some (.ref b), none, v6, some (.ref p), some (.ref u), none] ∧ Same H4 H' ∧ H' u = some (.lst (F.map V.int)) ∧ F.Nodup ∧ (∀ x ∈ F, ∃ k ∈ ks, ∃ cs, (Ds.map valsM)[k.toNat]? = some cs ∧ x ∈ cs) ∧ F.length ≤ 101 * i)
        ⟨none, [], rfl, su, eu, List.nodup_nil, (fun x hx => nomatch hx), Nat.zero_le _⟩ ?_ ?_
      · rintro i σ H6 hi ⟨v6, F, rfl, s6, e6, nF, hF, lF⟩
        have hil : i < ks.length := by
          rw [List.length_map] at hi
          omega
        obtain ⟨k, hk⟩ : ∃ k, ks[i]? = some k := ⟨_, List.getElem?_eq_getElem hil⟩
        have hkm := List.mem_of_getElem? hk
        have hkr := f3 k hkm
        have ep6 := s6 _ _ ep
        have er6 := s6 _ _ er4
        have hat : atI (ks.map V.int) (0 + (i : Int)) = some (.int k) := at_of (j := i) (by omega) (by rw [List.getElem?_map, hk]; rfl)
        refine gname (seq_via (fun σ' H' => σ' = [some (.ref a), some (.ref s), some (.ref r), some (.ref g), some (.ref b), none, some (.int (0 + (i : Int))), some (.ref p), some (.ref u), none] ∧ H' = H6) ?_ ?_)
        · rintro _ _ ⟨rfl, rfl⟩
          obtain ⟨D, hDi⟩ : ∃ D, Ds[k.toNat]? = some D := ⟨_, List.getElem?_eq_getElem (by omega)⟩
          obtain ⟨x, hx, dx⟩ := DpAll.get (i := k.toNat) d4 (by rw [List.getElem?_map, hDi]; rfl)
          have hatg : atI gs k = some x := at_of (j := k.toNat) (by omega) hx
          obtain ⟨b1, b2, b3⟩ := hD D (List.mem_of_getElem? hDi)
          refine ⟨_, rfl, .inl ⟨rfl, _, SqL.of e6⟩, _, rfl, _, rfl, _, rfl, _, _, _, _, rfl, rfl, SqL.of ep6, hat, _, _, _, _, rfl, rfl, SqL.of er6, hatg, x, D, rfl, dp_same s6 _ _ dx, b3, b1, b2, fun r2 H7 s7 n7 e7 => ⟨r2, rfl, ⟨_, SqL.of e7⟩, fun R hR => ?_⟩⟩
          have e67 := s7 _ _ e6
          refine walk_gen (n := ((valsM D).map V.int).length) walk_list (fun j H' => Same H7 H' ∧ H' R = some (.lst ((((valsM D).take j).filter (fun v => decide (v ∉ F))).map V.int))) ⟨same_upd hR, upd_same⟩ (fun j H' _ h => SqL.of (h.1 _ _ e7)) ?_ ?_
          · rintro j y H8 H9 hj ⟨s8, e8⟩ ⟨rfl, hy⟩
            rw [List.getElem?_map] at hy
            obtain ⟨v, hv, rfl⟩ : ∃ v, (valsM D)[j]? = some v ∧ V.int v = y := by
              cases hv : (valsM D)[j]? with
              | none => rw [hv] at hy; cases hy
              | some v => rw [hv] at hy; exact ⟨v, rfl, Option.some.inj hy⟩
            have htk : (valsM D).take (j + 1) = (valsM D).take j ++ [v] := by rw [List.take_add_one, hv]; rfl
            have hfl := List.length_filter_le (fun v => decide (v ∉ F)) ((valsM D).take j)
            rw [List.length_take] at hfl
            refine gname ⟨rfl, _, rfl, _, rfl, u, _, rfl, .inl (SqL.of (s8 _ _ e67)), rfl, flat_ints F, _, rfl, ?_⟩
            rw [inV_int]
            by_cases hvF : v ∈ F
            · rw [decide_eq_true hvF]
              refine iteF ⟨s8, ?_⟩
              rw [htk, List.filter_append, List.filter_cons_of_neg (by simp [hvF]), List.filter_nil, List.append_nil]
              exact e8
            · rw [decide_eq_false hvF]
              refine iteT ⟨_, rfl, _, e8, small1000 (by rw [List.length_map]; omega), fun b o e => by rw [upd_ne (ne_of_none e hR)]; exact s8 _ _ e, ?_⟩
              rw [upd_same, htk, List.filter_append, List.filter_cons_of_pos (by simp [hvF]), List.filter_nil, List.map_append]
              rfl
          · rintro H8 ⟨s8, e8⟩
            rw [List.length_map, List.take_length] at e8
            have hfl := List.length_filter_le (fun v => decide (v ∉ F)) (valsM D)
            refine ⟨_, _, _, _, rfl, rfl, s8 _ _ e67, e8, small_of (by rw [List.length_map, List.length_map]; omega), ?_⟩
            refine ⟨_, F ++ (valsM D).filter (fun v => decide (v ∉ F)), rfl, fun b o e => by rw [upd_ne (ne_of_none e nu)]; exact s8 _ _ (s7 _ _ (s6 _ _ e)), by rw [upd_same, List.map_append], ?_, fun x hx => ?_, by rw [List.length_append]; omega⟩
            · refine List.nodup_append.mpr ⟨nF, List.Sublist.nodup (List.filter_sublist ..) ((valsM_lt b1).imp fun h => by omega), fun x hx y hy e => ?_⟩
              have := (List.mem_filter.mp hy).2
              rw [← e] at this
              exact of_decide_eq_true this hx
            · rcases List.mem_append.mp hx with z | z
              · exact hF x z
              · exact ⟨k, hkm, valsM D, by rw [List.getElem?_map, hDi]; rfl, (List.mem_filter.mp z).1⟩
        intro hu
        refine ⟨_, rfl, _, rfl, _, _, _, _, rfl, rfl, SqL.of ep6, hat, _, .int k, rfl, .int k, _, rfl, iteF ?_⟩
        refine ⟨_, rfl, _, rfl, _, _, _, _, rfl, rfl, SqL.of ep6, hat, _, _, rfl, rfl, _, rfl, ?_⟩
        rw [decide_eq_true hkr.1]
        refine iteT ?_
        refine ⟨_, rfl, _, _, rfl, .inl (SqL.of er6), _, _, rfl, rfl, _, rfl, ?_⟩
        rw [decide_eq_true (show k < ((gs.length : Nat) : Int) by omega)]
        refine iteF ?_
        refine ⟨_, rfl, _, _, rfl, rfl, _, rfl, ite2 (fun e => ?_) (fun e => hu _ _ ⟨rfl, rfl⟩)⟩
        have hi0 : (0 : Int) < 0 + (i : Int) := of_decide_eq_true e
        obtain ⟨k', hk'⟩ : ∃ k, ks[i - 1]? = some k := ⟨_, List.getElem?_eq_getElem (by omega)⟩
        have hat' : atI (ks.map V.int) (0 + (i : Int) - 1) = some (.int k') := at_of (j := i - 1) (by omega) (by rw [List.getElem?_map, hk']; rfl)
        have hlt : k' < k := by
          obtain ⟨a1, g1⟩ := List.getElem?_eq_some_iff.mp hk'
          obtain ⟨a2, g2⟩ := List.getElem?_eq_some_iff.mp hk
          rw [← g1, ← g2]
          exact List.pairwise_iff_getElem.mp f1 (i - 1) i a1 a2 (by omega)
        refine ⟨_, rfl, _, rfl, _, _, rfl, rfl, _, _, _, _, rfl, rfl, SqL.of ep6, hat', _, rfl, _, rfl, _, _, _, _, rfl, rfl, SqL.of ep6, hat, _, _, rfl, rfl, _, rfl, ?_⟩
        rw [decide_eq_false (show ¬ k ≤ k' by omega)]
        exact iteF (hu _ _ ⟨rfl, rfl⟩)
      · rintro σ H6 ⟨v6, F, rfl, s6, e6, nF, hF, lF⟩
        refine nxp ?_
        have hlt := f4 F nF hF
        refine ⟨_, rfl, _, _, rfl, .inl (SqL.of e6), _, rfl, _, _, rfl, .inl (SqL.of (s6 _ _ ep)), _, _, rfl, rfl, ?_⟩
        show Q (V.bl (decide (((F.map V.int).length : Int) < ((ks.map V.int).length : Int)))) H6
        rw [decide_eq_true (show ((F.map V.int).length : Int) < ((ks.map V.int).length : Int) by rw [List.length_map, List.length_map]; omega)]
        exact q _

end
/-! ### the end -/
theorem all_mk {l : PySem.W.OpenLaw} {w : World} {K : PySem.W.Frag} {h : Heap} {mg : Str → Option Value} {fa f1 f2 f3 f4 f5 f6 f7 f8 f9 f10 f11 f12 : Addr} (X : K.In h) (G : h.Ns mainGlobals mg) (hfa : mg "law" = some (.ref fa))
    {od1 an1 od2 an2 od3 an3 od4 an4 od5 an5 od6 an6 od7 an7 od8 an8 od9 an9 od10 an10 od11 an11 od12 an12 : Option Addr} {sl1 sl2 sl3 sl4 sl5 sl6 sl7 sl8 sl9 sl10 sl11 sl12 : Array (Option Value)} {oc1 kV1 dc1 pm1 cd1 ct1 oc2 kV2 dc2 pm2 cd2 ct2 oc3 kV3 dc3 pm3 cd3 ct3 oc4 kV4 dc4 pm4 cd4 ct4 oc5 kV5 dc5 pm5 cd5 ct5 oc6 kV6 dc6 pm6 cd6 ct6 oc7 kV7 dc7 pm7 cd7 ct7 oc8 kV8 dc8 pm8 cd8 ct8 oc9 kV9 dc9 pm9 cd9 ct9 oc10 kV10 dc10 pm10 cd10 ct10 oc11 kV11 dc11 pm11 cd11 ct11 oc12 kV12 dc12 pm12 cd12 ct12 : Value}

    (a1 : PySem.W.nsIn K mainGlobals "values" = some (some (.ref f1))) (l1 : K.lookup f1 = some ⟨oc1, od1, .func (PySem.W.fnOf "values" "values" (defArgs s_values) (defBody s_values) (defScope s_values) .none kV1 dc1 pm1 an1 cd1 ct1), sl1⟩) (c1 : PySem.W.codeIn K cd1 "values" = true) (k1 : PySem.W.keepIn K (.ref f1) = true)
    (a2 : PySem.W.nsIn K mainGlobals "handed_on" = some (some (.ref f2))) (l2 : K.lookup f2 = some ⟨oc2, od2, .func (PySem.W.fnOf "handed_on" "handed_on" (defArgs s_handed_on) (defBody s_handed_on) (defScope s_handed_on) .none kV2 dc2 pm2 an2 cd2 ct2), sl2⟩) (c2 : PySem.W.codeIn K cd2 "handed_on" = true) (k2 : PySem.W.keepIn K (.ref f2) = true)
    (a3 : PySem.W.nsIn K mainGlobals "exchange" = some (some (.ref f3))) (l3 : K.lookup f3 = some ⟨oc3, od3, .func (PySem.W.fnOf "exchange" "exchange" (defArgs s_exchange) (defBody s_exchange) (defScope s_exchange) .none kV3 dc3 pm3 an3 cd3 ct3), sl3⟩) (c3 : PySem.W.codeIn K cd3 "exchange" = true) (k3 : PySem.W.keepIn K (.ref f3) = true)
    (a4 : PySem.W.nsIn K mainGlobals "match_choices" = some (some (.ref f4))) (l4 : K.lookup f4 = some ⟨oc4, od4, .func (PySem.W.fnOf "match_choices" "match_choices" (defArgs s_match_choices) (defBody s_match_choices) (defScope s_match_choices) .none kV4 dc4 pm4 an4 cd4 ct4), sl4⟩) (c4 : PySem.W.codeIn K cd4 "match_choices" = true) (k4 : PySem.W.keepIn K (.ref f4) = true)
    (a5 : PySem.W.nsIn K mainGlobals "distinct_values" = some (some (.ref f5))) (l5 : K.lookup f5 = some ⟨oc5, od5, .func (PySem.W.fnOf "distinct_values" "distinct_values" (defArgs s_distinct_values) (defBody s_distinct_values) (defScope s_distinct_values) .none kV5 dc5 pm5 an5 cd5 ct5), sl5⟩) (c5 : PySem.W.codeIn K cd5 "distinct_values" = true) (k5 : PySem.W.keepIn K (.ref f5) = true)
    (a6 : PySem.W.nsIn K mainGlobals "_law_stream" = some (some (.ref f6))) (l6 : K.lookup f6 = some ⟨oc6, od6, .func (PySem.W.fnOf "_law_stream" "_law_stream" (defArgs s__law_stream) (defBody s__law_stream) (defScope s__law_stream) .none kV6 dc6 pm6 an6 cd6 ct6), sl6⟩) (c6 : PySem.W.codeIn K cd6 "_law_stream" = true) (k6 : PySem.W.keepIn K (.ref f6) = true)
    (a7 : PySem.W.nsIn K mainGlobals "_law_draw" = some (some (.ref f7))) (l7 : K.lookup f7 = some ⟨oc7, od7, .func (PySem.W.fnOf "_law_draw" "_law_draw" (defArgs s__law_draw) (defBody s__law_draw) (defScope s__law_draw) .none kV7 dc7 pm7 an7 cd7 ct7), sl7⟩) (c7 : PySem.W.codeIn K cd7 "_law_draw" = true) (k7 : PySem.W.keepIn K (.ref f7) = true)
    (a8 : PySem.W.nsIn K mainGlobals "_law_is_integer" = some (some (.ref f8))) (l8 : K.lookup f8 = some ⟨oc8, od8, .func (PySem.W.fnOf "_law_is_integer" "_law_is_integer" (defArgs s__law_is_integer) (defBody s__law_is_integer) (defScope s__law_is_integer) .none kV8 dc8 pm8 an8 cd8 ct8), sl8⟩) (c8 : PySem.W.codeIn K cd8 "_law_is_integer" = true) (k8 : PySem.W.keepIn K (.ref f8) = true)
    (a9 : PySem.W.nsIn K mainGlobals "_law_domain" = some (some (.ref f9))) (l9 : K.lookup f9 = some ⟨oc9, od9, .func (PySem.W.fnOf "_law_domain" "_law_domain" (defArgs s__law_domain) (defBody s__law_domain) (defScope s__law_domain) .none kV9 dc9 pm9 an9 cd9 ct9), sl9⟩) (c9 : PySem.W.codeIn K cd9 "_law_domain" = true) (k9 : PySem.W.keepIn K (.ref f9) = true)
    (a10 : PySem.W.nsIn K mainGlobals "_law_values" = some (some (.ref f10))) (l10 : K.lookup f10 = some ⟨oc10, od10, .func (PySem.W.fnOf "_law_values" "_law_values" (defArgs s__law_values) (defBody s__law_values) (defScope s__law_values) .none kV10 dc10 pm10 an10 cd10 ct10), sl10⟩) (c10 : PySem.W.codeIn K cd10 "_law_values" = true) (k10 : PySem.W.keepIn K (.ref f10) = true)
    (a11 : PySem.W.nsIn K mainGlobals "_law_domains" = some (some (.ref f11))) (l11 : K.lookup f11 = some ⟨oc11, od11, .func (PySem.W.fnOf "_law_domains" "_law_domains" (defArgs s__law_domains) (defBody s__law_domains) (defScope s__law_domains) .none kV11 dc11 pm11 an11 cd11 ct11), sl11⟩) (c11 : PySem.W.codeIn K cd11 "_law_domains" = true) (k11 : PySem.W.keepIn K (.ref f11) = true)
    (a12 : PySem.W.nsIn K mainGlobals "law" = some (some (.ref f12))) (l12 : K.lookup f12 = some ⟨oc12, od12, .func (PySem.W.fnOf "law" "law" (defArgs s_law) (defBody s_law) (defScope s_law) .none kV12 dc12 pm12 an12 cd12 ct12), sl12⟩) (c12 : PySem.W.codeIn K cd12 "law" = true) (k12 : PySem.W.keepIn K (.ref f12) = true)
    (z0 : PySem.W.nsIn K mainGlobals "abs" = some none)
    (z1 : PySem.W.nsIn K mainGlobals "bool" = some none)
    (z2 : PySem.W.nsIn K mainGlobals "int" = some none)
    (z3 : PySem.W.nsIn K mainGlobals "isinstance" = some none)
    (z4 : PySem.W.nsIn K mainGlobals "len" = some none)
    (z5 : PySem.W.nsIn K mainGlobals "list" = some none)
    (z6 : PySem.W.nsIn K mainGlobals "range" = some none)
    (z7 : PySem.W.nsIn K mainGlobals "sorted" = some none)
    (z8 : PySem.W.nsIn K mainGlobals "tuple" = some none)
    : ∃ fd : FuncData, (∀ (s : Shared) (v : Value), BindsTo s fd ⟨[v], []⟩ [("script", v)]) ∧ ∀ base : Heap, K.In base → base.Ns mainGlobals mg → FnOk l.prog w K mg base CX0 5 fa fd ["script"] (sp_law K) := by
  have e := hfa.symm.trans (PySem.W.mg_of X G a12)
  cases e
  have F1 := fun_mk (st := s_values) l1 c1 k1
  have b1 := F1.binds (ps := ["given"]) fun _ _ _ _ _ _ us hl => match us, hl with | [_], _ => rfl
  have F2 := fun_mk (st := s_handed_on) l2 c2 k2
  have b2 := F2.binds (ps := ["askers", "variable", "value"]) fun _ _ _ _ _ _ us hl => match us, hl with | [_, _, _], _ => rfl
  have F3 := fun_mk (st := s_exchange) l3 c3 k3
  have b3 := F3.binds (ps := ["start", "choices", "owners"]) fun _ _ _ _ _ _ us hl => match us, hl with | [_, _, _], _ => rfl
  have F4 := fun_mk (st := s_match_choices) l4 c4 k4
  have b4 := F4.binds (ps := ["choices"]) fun _ _ _ _ _ _ us hl => match us, hl with | [_], _ => rfl
  have F5 := fun_mk (st := s_distinct_values) l5 c5 k5
  have b5 := F5.binds (ps := ["given"]) fun _ _ _ _ _ _ us hl => match us, hl with | [_], _ => rfl
  have F6 := fun_mk (st := s__law_stream) l6 c6 k6
  have b6 := F6.binds (ps := ["script"]) fun _ _ _ _ _ _ us hl => match us, hl with | [_], _ => rfl
  have F7 := fun_mk (st := s__law_draw) l7 c7 k7
  have b7 := F7.binds (ps := ["stream", "many"]) fun _ _ _ _ _ _ us hl => match us, hl with | [_, _], _ => rfl
  have F8 := fun_mk (st := s__law_is_integer) l8 c8 k8
  have b8 := F8.binds (ps := ["value"]) fun _ _ _ _ _ _ us hl => match us, hl with | [_], _ => rfl
  have F9 := fun_mk (st := s__law_domain) l9 c9 k9
  have b9 := F9.binds (ps := ["given"]) fun _ _ _ _ _ _ us hl => match us, hl with | [_], _ => rfl
  have F10 := fun_mk (st := s__law_values) l10 c10 k10
  have b10 := F10.binds (ps := ["given"]) fun _ _ _ _ _ _ us hl => match us, hl with | [_], _ => rfl
  have F11 := fun_mk (st := s__law_domains) l11 c11 k11
  have b11 := F11.binds (ps := ["stream"]) fun _ _ _ _ _ _ us hl => match us, hl with | [_], _ => rfl
  have F12 := fun_mk (st := s_law) l12 c12 k12
  have E : Bi K mg := ⟨PySem.W.mg_none_of X G z0, PySem.W.mg_none_of X G z1, PySem.W.mg_none_of X G z2, PySem.W.mg_none_of X G z3, PySem.W.mg_none_of X G z4, PySem.W.mg_none_of X G z5, PySem.W.mg_none_of X G z6, PySem.W.mg_none_of X G z7, PySem.W.mg_none_of X G z8⟩
  refine ⟨PySem.W.fnOf "law" "law" (defArgs s_law) (defBody s_law) (defScope s_law) .none kV12 dc12 pm12 an12 cd12 ct12, fun s v => .of_eq rfl, fun base _ _ => ?_⟩
  have D1 : Has l.prog w K mg base 1 "values" ["given"] (sp_values K) := ⟨_, _, ok_values F1 E , PySem.W.mg_of X G a1, k1, b1⟩
  have D2 : Has l.prog w K mg base 1 "handed_on" ["askers", "variable", "value"] (sp_handed_on K) := ⟨_, _, ok_handed_on F2 E , PySem.W.mg_of X G a2, k2, b2⟩
  have D6 : Has l.prog w K mg base 1 "_law_stream" ["script"] (sp__law_stream K) := ⟨_, _, ok__law_stream F6 E , PySem.W.mg_of X G a6, k6, b6⟩
  have D7 : Has l.prog w K mg base 1 "_law_draw" ["stream", "many"] (sp__law_draw K) := ⟨_, _, ok__law_draw F7 E , PySem.W.mg_of X G a7, k7, b7⟩
  have D8 : Has l.prog w K mg base 1 "_law_is_integer" ["value"] (sp__law_is_integer K) := ⟨_, _, ok__law_is_integer F8 E , PySem.W.mg_of X G a8, k8, b8⟩
  have D9 : Has l.prog w K mg base 1 "_law_domain" ["given"] (sp__law_domain K) := ⟨_, _, ok__law_domain F9 E , PySem.W.mg_of X G a9, k9, b9⟩
  have D10 : Has l.prog w K mg base 1 "_law_values" ["given"] (sp__law_values K) := ⟨_, _, ok__law_values F10 E , PySem.W.mg_of X G a10, k10, b10⟩
  have D3 : Has l.prog w K mg base 2 "exchange" ["start", "choices", "owners"] (sp_exchange K) := ⟨_, _, ok_exchange F3 E D2, PySem.W.mg_of X G a3, k3, b3⟩
  have D11 : Has l.prog w K mg base 2 "_law_domains" ["stream"] (sp__law_domains K) := ⟨_, _, ok__law_domains F11 E D7 D9, PySem.W.mg_of X G a11, k11, b11⟩
  have D4 : Has l.prog w K mg base 3 "match_choices" ["choices"] (sp_match_choices K) := ⟨_, _, ok_match_choices F4 E D3, PySem.W.mg_of X G a4, k4, b4⟩
  have D5 : Has l.prog w K mg base 4 "distinct_values" ["given"] (sp_distinct_values K) := ⟨_, _, ok_distinct_values F5 E D4 D1, PySem.W.mg_of X G a5, k5, b5⟩
  exact ok_law F12 E D6 D11 D5 D10 D8
end My
open PySem PySem.W PyProof.Rows
set_option maxRecDepth 100000 in
set_option maxHeartbeats 0 in
theorem PySem.Challenge.cw_hornbook_k55_different_values_holds : PySem.Challenge.rw_hornbook_k55_different_values.Holds := by
  w_on; o_law; k_head; (case hw => w_witness2)
  k_fill
  refine L2.walk_of (l := PySem.Challenge.rw_hornbook_k55_different_values) (n := 63) (k := 5) (x := "script") (CX := fun _ => L2.CX0) (sp := fun w => My.sp_law _) rfl (by decide) rfl ⟨rfl, by decide, by decide⟩ (fun w h Y => PySem.W.kIn_of Y) ?F (fun _ _ a ns hl _ hS => ⟨a, ns, rfl, hS, hl, fun _ => rfl⟩) (fun _ _ _ _ _ h => h)
  case F =>
    intro w mg fa h KX G hmg
    refine' My.all_mk KX G hmg ?a1 ?l1 ?c1 ?k1 ?a2 ?l2 ?c2 ?k2 ?a3 ?l3 ?c3 ?k3 ?a4 ?l4 ?c4 ?k4 ?a5 ?l5 ?c5 ?k5 ?a6 ?l6 ?c6 ?k6 ?a7 ?l7 ?c7 ?k7 ?a8 ?l8 ?c8 ?k8 ?a9 ?l9 ?c9 ?k9 ?a10 ?l10 ?c10 ?k10 ?a11 ?l11 ?c11 ?k11 ?a12 ?l12 ?c12 ?k12 ?z0 ?z1 ?z2 ?z3 ?z4 ?z5 ?z6 ?z7 ?z8
    (case a1 => k_is)
    (case l1 => k_is)
    (case c1 => k_is)
    (case k1 => k_is)
    (case a2 => k_is)
    (case l2 => k_is)
    (case c2 => k_is)
    (case k2 => k_is)
    (case a3 => k_is)
    (case l3 => k_is)
    (case c3 => k_is)
    (case k3 => k_is)
    (case a4 => k_is)
    (case l4 => k_is)
    (case c4 => k_is)
    (case k4 => k_is)
    (case a5 => k_is)
    (case l5 => k_is)
    (case c5 => k_is)
    (case k5 => k_is)
    (case a6 => k_is)
    (case l6 => k_is)
    (case c6 => k_is)
    (case k6 => k_is)
    (case a7 => k_is)
    (case l7 => k_is)
    (case c7 => k_is)
    (case k7 => k_is)
    (case a8 => k_is)
    (case l8 => k_is)
    (case c8 => k_is)
    (case k8 => k_is)
    (case a9 => k_is)
    (case l9 => k_is)
    (case c9 => k_is)
    (case k9 => k_is)
    (case a10 => k_is)
    (case l10 => k_is)
    (case c10 => k_is)
    (case k10 => k_is)
    (case a11 => k_is)
    (case l11 => k_is)
    (case c11 => k_is)
    (case k11 => k_is)
    (case a12 => k_is)
    (case l12 => k_is)
    (case c12 => k_is)
    (case k12 => k_is)
    (case z0 => k_is)
    (case z1 => k_is)
    (case z2 => k_is)
    (case z3 => k_is)
    (case z4 => k_is)
    (case z5 => k_is)
    (case z6 => k_is)
    (case z7 => k_is)
    (case z8 => k_is)
