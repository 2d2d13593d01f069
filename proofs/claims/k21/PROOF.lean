import PyProof.Rows.All
import Wide.All
import OpenK.AllK
import Wide.FinOn
import HandS.ForMost
import HandS.IsInst
import HandS.Wide
import HandS.Codes
import HandS.Style
import HandS.TupLe
import HandS.TupAny
import HandS.EndBits
import HandS.Walk
import HandS.Zip
import KE.LtData
import HandS.ForExc
import HandS.ExcIs
import HandS.RaiseMore
import HandS.FStr
import HandS.Star
import HandS.SetKeys
import HandS.WordsDict
import HandS.DictComp
import HandS.More
import HandS.Deep
import HandS.TupMul
import PySem.Challenge.RW_hornbook_k21_evaluate
set_option Elab.async false
set_option linter.all false
set_option maxRecDepth 100000
set_option maxHeartbeats 4000000
set_option exponentiation.threshold 10000
namespace My
open PySem PySem.Spec PyProof.Rows L2
/-- a def of the text that keeps a promise, as its callers want it -/
def Has (P : Program) (w : World) (K : PySem.W.Frag) (mg : Str → Option Value) (base : Heap) (k : Nat) (x : Str) (ps : List Str) (sp : Sp) : Prop :=
  ∃ (f : Addr) (fd : FuncData), FnOk P w K mg base CX0 k f fd ps sp ∧ mg x = some (.ref f) ∧ PySem.W.keepIn K (.ref f) = true ∧ Binds K fd ps []
theorem same_upd {H : Hp} {p : Addr} {o : HO} (h : H p = none) : Same H (upd H p o) := fun b x e => by
  rw [upd_ne (ne_of_none e h)]
  exact e
/-- all but the object at s is as it was -/
def But (s : Addr) (H H' : Hp) : Prop := ∀ b o, b ≠ s → H b = some o → H' b = some o
theorem But.refl (s : Addr) (H : Hp) : But s H H := fun _ _ _ e => e
theorem But.trans {s : Addr} {H H1 H2 : Hp} (a : But s H H1) (b : But s H1 H2) : But s H H2 := fun c o hc e => b c o hc (a c o hc e)
theorem But.of {s : Addr} {H H' : Hp} (a : Same H H') : But s H H' := fun b o _ e => a b o e
theorem But.put {s : Addr} {H : Hp} {o : HO} : But s H (upd H s o) := fun b u hb e => by rw [upd_ne hb]; exact e
/-! ### what a value is -/
mutual
inductive Im (K : PySem.W.Frag) (G : Addr → Prop) (H : Hp) : V → PyData → Prop
  | non : Im K G H .non .none
  | bl (b : Bool) : Im K G H (.bl b) (.bool b)
  | int (i : Int) : Im K G H (.int i) (.int i)
  | str (x : Str) : Im K G H (.str x) (.str x)
  | lst {a : Addr} {xs : List V} {ds : List PyData} : G a → H a = some (.lst xs) → ImAll K G H xs ds → Im K G H (.ref a) (.list ds)
  | tup {a : Addr} {xs : List V} {ds : List PyData} : G a → H a = some (.tup xs) → ImAll K G H xs ds → Im K G H (.ref a) (.tuple ds)
inductive ImAll (K : PySem.W.Frag) (G : Addr → Prop) (H : Hp) : List V → List PyData → Prop
  | nil : ImAll K G H [] []
  | cons {v : V} {vs : List V} {d : PyData} {ds : List PyData} : Im K G H v d → ImAll K G H vs ds → ImAll K G H (v :: vs) (d :: ds)
end
section
variable {K : PySem.W.Frag} {G G' : Addr → Prop} {H H' : Hp}
mutual
theorem Im.mono (hH : ∀ b o, G b → H b = some o → H' b = some o) (hG : ∀ b, G b → G' b) : ∀ (d : PyData) (v : V), Im K G H v d → Im K G' H' v d
  | .none, _, h => by cases h; exact .non
  | .bool b, _, h => by cases h; exact .bl b
  | .int i, _, h => by cases h; exact .int i
  | .str x, _, h => by cases h; exact .str x
  | .list ds, _, h => by
    cases h with
    | lst g e ha => exact .lst (hG _ g) (hH _ _ g e) (Im.monoAll hH hG ds _ ha)
  | .tuple ds, _, h => by
    cases h with
    | tup g e ha => exact .tup (hG _ g) (hH _ _ g e) (Im.monoAll hH hG ds _ ha)
  | .dict _, _, h => by cases h
theorem Im.monoAll (hH : ∀ b o, G b → H b = some o → H' b = some o) (hG : ∀ b, G b → G' b) : ∀ (ds : List PyData) (vs : List V), ImAll K G H vs ds → ImAll K G' H' vs ds
  | [], _, h => by cases h; exact .nil
  | d :: ds, _, h => by
    cases h with
    | cons h1 h2 => exact .cons (Im.mono hH hG d _ h1) (Im.monoAll hH hG ds _ h2)
end
mutual
theorem Im.dp : ∀ (d : PyData) (v : V), Im K G H v d → Dp K H v d
  | .none, _, h => by cases h; exact .non
  | .bool b, _, h => by cases h; exact .bl b
  | .int i, _, h => by cases h; exact .int i
  | .str x, _, h => by cases h; exact .str x
  | .list ds, _, h => by
    cases h with
    | lst g e ha => exact .lst (SqL.of e) (Im.dpAll ds _ ha)
  | .tuple ds, _, h => by
    cases h with
    | tup g e ha => exact .tup (SqT.of e) (Im.dpAll ds _ ha)
  | .dict _, _, h => by cases h
theorem Im.dpAll : ∀ (ds : List PyData) (vs : List V), ImAll K G H vs ds → DpAll K H vs ds
  | [], _, h => by cases h; exact .nil
  | d :: ds, _, h => by
    cases h with
    | cons h1 h2 => exact .cons (Im.dp d _ h1) (Im.dpAll ds _ h2)
end
theorem ImAll.len : ∀ {vs : List V} {ds : List PyData}, ImAll K G H vs ds → vs.length = ds.length
  | _, _, .nil => rfl
  | _, _, .cons _ t => congrArg (· + 1) (ImAll.len t)
theorem ImAll.get : ∀ {vs : List V} {ds : List PyData} {i : Nat} {d : PyData}, ImAll K G H vs ds → ds[i]? = some d → ∃ v, vs[i]? = some v ∧ Im K G H v d
  | _, _, _, _, .nil, e => by simp at e
  | _, _, 0, _, .cons r _, e => by simp at e; subst e; exact ⟨_, rfl, r⟩
  | _, _, i + 1, _, .cons _ t, e => by
    obtain ⟨u, h1, h2⟩ := ImAll.get (i := i) t (by simpa using e)
    exact ⟨u, by simpa using h1, h2⟩
theorem ImAll.getV : ∀ {vs : List V} {ds : List PyData} {i : Nat} {v : V}, ImAll K G H vs ds → vs[i]? = some v → ∃ d, ds[i]? = some d ∧ Im K G H v d
  | _, _, _, _, .nil, e => by simp at e
  | _, _, 0, _, .cons r _, e => by simp at e; subst e; exact ⟨_, rfl, r⟩
  | _, _, i + 1, _, .cons _ t, e => by
    obtain ⟨u, h1, h2⟩ := ImAll.getV (i := i) t (by simpa using e)
    exact ⟨u, by simpa using h1, h2⟩
theorem ImAll.snoc : ∀ {vs : List V} {ds : List PyData} {v : V} {d : PyData}, ImAll K G H vs ds → Im K G H v d → ImAll K G H (vs ++ [v]) (ds ++ [d])
  | _, _, _, _, .nil, r => .cons r .nil
  | _, _, _, _, .cons q t, r => .cons q (ImAll.snoc t r)
theorem ImAll.app : ∀ {vs : List V} {ds : List PyData} {us : List V} {es : List PyData}, ImAll K G H vs ds → ImAll K G H us es → ImAll K G H (vs ++ us) (ds ++ es)
  | _, _, _, _, .nil, r => r
  | _, _, _, _, .cons q t, r => .cons q (ImAll.app t r)
end
section
variable {K : PySem.W.Frag} {H : Hp}
theorem DpAll.len : ∀ {vs : List V} {ds : List PyData}, DpAll K H vs ds → vs.length = ds.length
  | _, _, .nil => rfl
  | _, _, .cons _ t => congrArg (· + 1) (DpAll.len t)
theorem DpAll.get : ∀ {vs : List V} {ds : List PyData} {i : Nat} {d : PyData}, DpAll K H vs ds → ds[i]? = some d → ∃ v, vs[i]? = some v ∧ Dp K H v d
  | _, _, _, _, .nil, e => by simp at e
  | _, _, 0, _, .cons r _, e => by simp at e; subst e; exact ⟨_, rfl, r⟩
  | _, _, i + 1, _, .cons _ t, e => by
    obtain ⟨u, h1, h2⟩ := DpAll.get (i := i) t (by simpa using e)
    exact ⟨u, by simpa using h1, h2⟩
/-- the name of a value's class -/
def tyN : PyData → String
  | .none => "NoneType" | .bool _ => "bool" | .int _ => "int" | .str _ => "str" | .list _ => "list" | .tuple _ => "tuple" | .dict _ => "dict"
theorem tyx_of : ∀ {x : V} {d : PyData}, Dp K H x d → TyX K H x (.type (tyN d))
  | _, _, .non => .base .non
  | _, _, .bl b => .base (.bl b)
  | _, _, .int i => .base (.int i)
  | _, _, .str x => .base (.str x)
  | _, _, .lst h _ => by
    rcases h with (h | ⟨o, h⟩) | ⟨o, its, n, hk, hc, _⟩
    · exact .base (.lst h)
    · exact .base (.frz h)
    · exact .kList hk hc
  | _, _, .tup h _ => by
    rcases h with (h | ⟨o, h⟩) | ⟨o, its, n, hk, hc, _⟩
    · exact .base (.tup h)
    · exact .fTuple h
    · exact .kTuple hk hc
def isI : PyData → Bool
  | .int _ => true | .bool _ => true | _ => false
def isB : PyData → Bool
  | .bool _ => true | _ => false
def isS : PyData → Bool
  | .str _ => true | _ => false
def isT : PyData → Bool
  | .tuple _ => true | _ => false
def isL : PyData → Bool
  | .list _ => true | _ => false
theorem kitI (d : PyData) : kitB (tyN d) "int" = some (isI d) := by cases d <;> (show kitB _ "int" = _; simp only [tyN, isI]; decide +kernel)
theorem kitBo (d : PyData) : kitB (tyN d) "bool" = some (isB d) := by cases d <;> (show kitB _ "bool" = _; simp only [tyN, isB]; decide +kernel)
theorem kitS (d : PyData) : kitB (tyN d) "str" = some (isS d) := by cases d <;> (show kitB _ "str" = _; simp only [tyN, isS]; decide +kernel)
theorem kitT (d : PyData) : kitB (tyN d) "tuple" = some (isT d) := by cases d <;> (show kitB _ "tuple" = _; simp only [tyN, isT]; decide +kernel)
theorem kitL (d : PyData) : kitB (tyN d) "list" = some (isL d) := by cases d <;> (show kitB _ "list" = _; simp only [tyN, isL]; decide +kernel)
theorem isi_int {x : V} {d : PyData} {Q : VK} (h : Dp K H x d) (q : Q (.bl (isI d)) H) : rIsi K [x, .ty "int"] H Q := ⟨x, .ty "int", _, _, _, rfl, .ty _, tyx_of h, kit_ty (kitI d), q⟩
theorem isi_bool {x : V} {d : PyData} {Q : VK} (h : Dp K H x d) (q : Q (.bl (isB d)) H) : rIsi K [x, .ty "bool"] H Q := ⟨x, .ty "bool", _, _, _, rfl, .ty _, tyx_of h, kit_ty (kitBo d), q⟩
theorem isi_str {x : V} {d : PyData} {Q : VK} (h : Dp K H x d) (q : Q (.bl (isS d)) H) : rIsi K [x, .ty "str"] H Q := ⟨x, .ty "str", _, _, _, rfl, .ty _, tyx_of h, kit_ty (kitS d), q⟩
theorem isi_tup {x : V} {d : PyData} {Q : VK} (h : Dp K H x d) (q : Q (.bl (isT d)) H) : rIsi K [x, .ty "tuple"] H Q := ⟨x, .ty "tuple", _, _, _, rfl, .ty _, tyx_of h, kit_ty (kitT d), q⟩
theorem isi_list {x : V} {d : PyData} {Q : VK} (h : Dp K H x d) (q : Q (.bl (isL d)) H) : rIsi K [x, .ty "list"] H Q := ⟨x, .ty "list", _, _, _, rfl, .ty _, tyx_of h, kit_ty (kitL d), q⟩
end
/-! ### the stream of draws -/
structure Stm (H : Hp) (s l : Addr) : Prop where
  ex : ∃ (a b m : Int) (ns : List Int), H s = some (.lst [.ref l, .int a, .int b, .int m]) ∧ H l = some (.lst (ns.map V.int)) ∧ ns.length ≤ 63 ∧ 0 ≤ a ∧ 0 ≤ b ∧ 0 ≤ m ∧ m < 2147483647
theorem Stm.keep {H H' : Hp} {s l : Addr} (h : Stm H s l) (e : Same H H') : Stm H' s l := by
  obtain ⟨a, b, m, ns, h1, h2, r⟩ := h.ex
  exact ⟨a, b, m, ns, e _ _ h1, e _ _ h2, r⟩
/-- another object is changed -/
theorem Stm.put {H : Hp} {s l r : Addr} {o : HO} (h : Stm H s l) (h1 : s ≠ r) (h2 : l ≠ r) : Stm (upd H r o) s l := by
  obtain ⟨a, b, m, ns, e1, e2, q⟩ := h.ex
  exact ⟨a, b, m, ns, by rw [upd_ne h1]; exact e1, by rw [upd_ne h2]; exact e2, q⟩
theorem Stm.at_s {H : Hp} {s l : Addr} (h : Stm H s l) : ∃ o, H s = some o := by
  obtain ⟨a, b, m, ns, e1, e2, q⟩ := h.ex
  exact ⟨_, e1⟩
theorem Stm.at_l {H : Hp} {s l : Addr} (h : Stm H s l) : ∃ o, H l = some o := by
  obtain ⟨a, b, m, ns, e1, e2, q⟩ := h.ex
  exact ⟨_, e2⟩
/-- a constant of the module -/
def GV (mg : Str → Option Value) (x : Str) (v : V) : Prop := ∃ u, mg x = some u ∧ RelV v u
theorem pe_gC {X : Cx} {x : Str} {v : V} {pos : Pos} (hg : Gl X x) (h : GV X.mg x v) (hd : (x == ("__debug__" : Str)) = false := by decide) : PE X (.Name x pos) (tC v) := by
  obtain ⟨u, e, r⟩ := h
  exact pe_glob hg e r hd

/-! ### 'a' * 40 -/
section
variable {X : Cx}
theorem op_mulS : OpR X (binaryOp .Mult) (fun x y H Q => ∃ z i, x = .str z ∧ y = .int i ∧ MulOk z i ∧ Q (.str (Txt.mul z i)) H) := by
  intro pins s σ H x y v u Q I rx ry h
  obtain ⟨z, i, rfl, rfl, hk, q⟩ := h
  obtain ⟨t, rfl⟩ := rx
  obtain ⟨t', rfl⟩ := ry
  exact SB.mul hk fun t2 k => ⟨.str _, H, I.tok k, ⟨_, rfl⟩, q⟩
end
/-! ### data written out: each part of it is new -/
section
variable {K : PySem.W.Frag}
/-- an expression that makes data and changes nothing else -/
def Lit (K : PySem.W.Frag) (σ : L2.St) (t : TE) (d : PyData) : Prop := ∀ (H : Hp) (Q : VK), (∀ v H', Same H H' → Im K (fun b => H b = Option.none) H' v d → Q v H') → t σ H Q
def LitA (K : PySem.W.Frag) (σ : L2.St) (t : TA) (ds : List PyData) : Prop := ∀ (H : Hp) (Q : List V → Hp → Prop), (∀ vs H', Same H H' → ImAll K (fun b => H b = Option.none) H' vs ds → Q vs H') → t σ H Q
variable {σ : L2.St}
theorem lit_int {i : Int} : Lit K σ (tC (.int i)) (.int i) := fun H Q h => h _ H (Same.refl H) (.int i)
theorem lit_str {x : Str} : Lit K σ (tC (.str x)) (.str x) := fun H Q h => h _ H (Same.refl H) (.str x)
theorem lit_bl {b : Bool} : Lit K σ (tC (.bl b)) (.bool b) := fun H Q h => h _ H (Same.refl H) (.bl b)
theorem lit_non : Lit K σ (tC .non) .none := fun H Q h => h _ H (Same.refl H) .non
theorem litA_nil : LitA K σ tNil [] := fun H Q h => h _ H (Same.refl H) .nil
theorem litA_cons {t : TE} {ta : TA} {d : PyData} {ds : List PyData} (h1 : Lit K σ t d) (h2 : LitA K σ ta ds) : LitA K σ (tCons t ta) (d :: ds) := fun H Q h =>
  h1 H _ fun v H1 s1 i1 => h2 H1 _ fun vs H2 s2 i2 => h _ H2 (s1.trans s2) (.cons (Im.mono (fun b o _ e => s2 b o e) (fun _ e => e) _ _ i1) (Im.monoAll (fun _ _ _ e => e) (fun b e => s1.free e) _ _ i2))
theorem lit_tup {ta : TA} {ds : List PyData} (h1 : LitA K σ ta ds) (hz : ds.length ≤ sizeLine) : Lit K σ (tTup ta) (.tuple ds) := fun H Q h =>
  h1 H _ fun vs H1 s1 i1 => ⟨by rw [i1.len]; exact hz, fun p np => h _ _ (s1.trans (same_upd np)) (.tup (s1.free np) upd_same (Im.monoAll (fun b o _ e => same_upd np b o e) (fun _ e => e) _ _ i1))⟩
theorem lit_lst {ta : TA} {ds : List PyData} (h1 : LitA K σ ta ds) (hz : ds.length ≤ sizeLine) : Lit K σ (tLst ta) (.list ds) := fun H Q h =>
  h1 H _ fun vs H1 s1 i1 => ⟨by rw [i1.len]; exact hz, fun p np => h _ _ (s1.trans (same_upd np)) (.lst (s1.free np) upd_same (Im.monoAll (fun b o _ e => same_upd np b o e) (fun _ e => e) _ _ i1))⟩
/-- what is an int -/
theorem lit_neg {t : TE} {i : Int} (h1 : Lit K σ t (.int i)) : Lit K σ (tUn (rU fun i => .int (-i)) t) (.int (-i)) := fun H Q h =>
  h1 H _ fun v H1 s1 i1 => by
    cases i1
    exact ⟨_, rfl, h _ H1 s1 (.int _)⟩
theorem lit_sub {t u : TE} {i j : Int} (h1 : Lit K σ t (.int i)) (h2 : Lit K σ u (.int j)) : Lit K σ (tOp (rI0 fun i j => .int (i - j)) t u) (.int (i - j)) := fun H Q h =>
  h1 H _ fun v H1 s1 i1 => h2 H1 _ fun v2 H2 s2 i2 => by
    cases i1
    cases i2
    exact ⟨_, _, rfl, rfl, h _ H2 (s1.trans s2) (.int _)⟩
theorem lit_pow {t u : TE} {i j : Int} (h1 : Lit K σ t (.int i)) (h2 : Lit K σ u (.int j)) (hc : CPow i j) : Lit K σ (tOp (rI CPow fun i j => .int (i ^ j.toNat)) t u) (.int (i ^ j.toNat)) := fun H Q h =>
  h1 H _ fun v H1 s1 i1 => h2 H1 _ fun v2 H2 s2 i2 => by
    cases i1
    cases i2
    exact ⟨_, _, rfl, rfl, hc, h _ H2 (s1.trans s2) (.int _)⟩
theorem lit_mulS {t u : TE} {z : Str} {j : Int} (h1 : Lit K σ t (.str z)) (h2 : Lit K σ u (.int j)) (hc : MulOk z j) : Lit K σ (tOp (fun x y H Q => ∃ z i, x = .str z ∧ y = .int i ∧ MulOk z i ∧ Q (.str (Txt.mul z i)) H) t u) (.str (Txt.mul z j)) := fun H Q h =>
  h1 H _ fun v H1 s1 i1 => h2 H1 _ fun v2 H2 s2 i2 => by
    cases i1
    cases i2
    exact ⟨_, _, rfl, rfl, hc, h _ H2 (s1.trans s2) (.str _)⟩
end
section
variable {X : Cx} {pos : Pos}
/-- a built-in class as a value -/
theorem pe_ty {x : Str} (n : String) (hg : Gl X x) (hm : X.mg x = Option.none) (hv : bootBuiltins x = some (.type n)) (hn : x ≠ "__name__" := by decide) (hd : (x == ("__debug__" : Str)) = false := by decide) : PE X (.Name x pos) (tC (.ty n)) :=
  pe_bltn hg hm hv rfl hn hd
end
section
variable {K : PySem.W.Frag} {H H' : Hp}
theorem same_sqT {a : Addr} {xs : List V} (e : Same H H') (h : SqT K H a xs) : SqT K H' a xs := by
  rcases h with (h | ⟨o, h⟩) | h
  · exact .inl (.inl (e _ _ h))
  · exact .inl (.inr ⟨o, e _ _ h⟩)
  · exact .inr h
mutual
theorem dp_same (e : Same H H') : ∀ (d : PyData) (v : V), Dp K H v d → Dp K H' v d
  | .none, _, h => by cases h; exact .non
  | .bool b, _, h => by cases h; exact .bl b
  | .int i, _, h => by cases h; exact .int i
  | .str x, _, h => by cases h; exact .str x
  | .list ds, _, h => by
    cases h with
    | lst g ha => exact .lst (e.seq g) (dp_sameAll e ds _ ha)
  | .tuple ds, _, h => by
    cases h with
    | tup g ha => exact .tup (same_sqT e g) (dp_sameAll e ds _ ha)
  | .dict _, _, h => by cases h
theorem dp_sameAll (e : Same H H') : ∀ (ds : List PyData) (vs : List V), DpAll K H vs ds → DpAll K H' vs ds
  | [], _, h => by cases h; exact .nil
  | d :: ds, _, h => by
    cases h with
    | cons h1 h2 => exact .cons (dp_same e d _ h1) (dp_sameAll e ds _ h2)
end
end
theorem small_of {n : Nat} (h : n ≤ 1000) : n ≤ sizeLine := Nat.le_of_lt (small1000 h)
theorem seq_asg {te : TE} {g : TG} {u : TS} {D : Ends} {σ : L2.St} {H : Hp} (h : te σ H fun x H1 => g x σ H1 (u D)) : tSeq (tAsg te g) u D σ H := h
theorem gname {i : Nat} {v : V} {σ : L2.St} {H : Hp} {Q : L2.St → Hp → Prop} (h : Q (σ.set i (some v)) H) : gName i v σ H Q := h
theorem nxp {N : L2.St → Hp → Prop} {R : VK} {B C : L2.St → Hp → Prop} {σ : L2.St} {H : Hp} (h : N σ H) : ({ nx := N, rt := R, bk := B, ct := C } : Ends).nx σ H := h
theorem seq_if {c : TT} {t t2 : TS} {u : TS} {D : Ends} {σ : L2.St} {H : Hp} (h : c σ H fun b H1 => if b = true then t { D with nx := u D } σ H1 else t2 { D with nx := u D } σ H1) : tSeq (tIfS c t t2) u D σ H := h
theorem seq_ifN {c : TT} {t : TS} {u : TS} {D : Ends} {σ : L2.St} {H : Hp} (h : c σ H fun b H1 => if b = true then t { D with nx := u D } σ H1 else u D σ H1) : tSeq (tIfS c t tNext) u D σ H := h
theorem seq_any {t : TS} {u : TS} {D : Ends} {σ : L2.St} {H : Hp} (h : t { D with nx := u D } σ H) : tSeq t u D σ H := h
theorem asg1 {te : TE} {g : TG} {D : Ends} {σ : L2.St} {H : Hp} (h : te σ H fun x H1 => g x σ H1 D.nx) : tAsg te g D σ H := h
section
variable {K : PySem.W.Frag} {G G' : Addr → Prop} {H H' : Hp}
mutual
theorem Im.mono2 (hH : ∀ b o, G b → H b = some o → H' b = some o) (hG : ∀ b o, H b = some o → G b → G' b) : ∀ (d : PyData) (v : V), Im K G H v d → Im K G' H' v d
  | .none, _, h => by cases h; exact .non
  | .bool b, _, h => by cases h; exact .bl b
  | .int i, _, h => by cases h; exact .int i
  | .str x, _, h => by cases h; exact .str x
  | .list ds, _, h => by
    cases h with
    | lst g e ha => exact .lst (hG _ _ e g) (hH _ _ g e) (Im.mono2All hH hG ds _ ha)
  | .tuple ds, _, h => by
    cases h with
    | tup g e ha => exact .tup (hG _ _ e g) (hH _ _ g e) (Im.mono2All hH hG ds _ ha)
  | .dict _, _, h => by cases h
theorem Im.mono2All (hH : ∀ b o, G b → H b = some o → H' b = some o) (hG : ∀ b o, H b = some o → G b → G' b) : ∀ (ds : List PyData) (vs : List V), ImAll K G H vs ds → ImAll K G' H' vs ds
  | [], _, h => by cases h; exact .nil
  | d :: ds, _, h => by
    cases h with
    | cons h1 h2 => exact .cons (Im.mono2 hH hG d _ h1) (Im.mono2All hH hG ds _ h2)
end
end
theorem join_set {c : Prop} [Decidable c] {v : V} {i : Nat} {u : TS} {D : Ends} {σ : L2.St} {H : Hp} (P : L2.St → Prop) (h : ∀ σ2, P σ2 → u D σ2 H) (h1 : c → P (σ.set i (some v))) (h2 : ¬ c → P σ) :
    if c then tAsg (tC v) (gName i) { D with nx := u D } σ H else u D σ H := by
  by_cases hc : c
  · rw [if_pos hc]
    exact h _ (h1 hc)
  · rw [if_neg hc]
    exact h _ (h2 hc)
/-- a constant tuple of the module, by its data -/
def GC (K : PySem.W.Frag) (mg : Str → Option Value) (x : Str) (d : PyData) : Prop := ∃ (u : Value) (v : V), mg x = some u ∧ RelV v u ∧ Dp K (fun _ => Option.none) v d
theorem none_same (H : Hp) : Same (fun _ => Option.none) H := fun _ _ e => nomatch e
theorem kt_of {K : PySem.W.Frag} {a : Addr} {its : Array Value} {n : Nat} {dd : Option Addr} {sl : Array (Option Value)} {xs : List V} {ds : List PyData} (h : K.lookup a = some ⟨.type "tuple", dd, .seq its n, sl⟩) (hz : its.size ≤ 1000) (hv : Vals xs its.toList) (ha : DpAll K (fun _ => Option.none) xs ds) :
    Dp K (fun _ => Option.none) (.ref a) (.tuple ds) := .tup (.inr ⟨_, its, n, h, rfl, rfl, Nat.le_trans hz (by decide), hv⟩) ha
/-! ### list.extend(tuple) -/
section
open Builtin
theorem extT (l b : Addr) (xs ys : Array Value) (n k : Nat) (dd : Option Addr) (sl : Array (Option Value)) (hlong : ¬(!xs.isEmpty && Builtin.List.listTooLong (xs.size + ys.size)) = true) (h1 : xs.size ≤ sizeLine) (h2 : xs.size + ys.size ≤ sizeLine + 1) :
    Meets (Builtin.«list.extend» ⟨[.ref l, .ref b], []⟩) (fun _ R s => s.heap.get? l = some { cls := .type "list", dict := none, data := .seq xs n, slots := #[] } ∧ s.heap.get? b = some { cls := .type "tuple", dict := dd, data := .seq ys k, slots := sl } ∧ R (.ok (.ret Value.none)) { s with heap := s.heap.update l (Obj.mapSeq fun x => x ++ ys), toks := s.toks }) := by
  refine .of_wp fun prog w A R s h => ?_
  obtain ⟨hp, g, d, tk, os⟩ := s
  obtain ⟨ea, eb, q⟩ := h
  have i1 := AutoSeq1.idx_int
  have i2 := AutoSeq1.sub_tuple_tuple
  have i3 := AutoSeq1.sub_list_list
  have i4 := AutoSeq1.sub_tuple_list
  have i5 := AutoSeq1.sub_list_tuple
  have hz : (xs ++ ys).size ≤ sizeLine + 1 := by rw [Array.size_append]; exact h2
  wp_walk using (wpAny_updateSeq ea rfl (hz := h1) (_hz' := hz)), AutoSeq1.wpAny_loadPart' ea, AutoSeq1.wpAny_loadPart' eb
  exact ⟨_, rfl, q⟩
end
section
variable {X : Cx}
def rExtT (K : PySem.W.Frag) : V → List V → Hp → VK → Prop := fun x vs H Q => ∃ l b xs zs, x = .ref l ∧ vs = [.ref b] ∧ H l = some (.lst xs) ∧ SqT K H b zs ∧ xs.length + zs.length ≤ sizeLine ∧ Q .non (upd H l (.lst (xs ++ zs)))
theorem mt_extT : MtR X "list.extend" (rExtT X.K) := by
  intro pins s σ H x vs v us Q I rx rv h
  obtain ⟨l, b, xs, zs, rfl, rfl, hH, hB, hz, q⟩ := h
  cases rx
  obtain ⟨u, rfl, ru⟩ := rv.one
  cases ru
  obtain ⟨z, its, n, r, hl, e⟩ := I.lstM hH
  obtain ⟨its2, r2, ⟨⟨oc, od, dt, sl⟩, e2, ec, k2, ed⟩, _⟩ := I.tuple hB
  simp only at ec ed
  subst ec ed
  have z1 := r.length
  have z2 := r2.length
  have hsz : its.toArray.size + its2.toArray.size ≤ sizeLine := by rw [List.size_toArray, List.size_toArray]; omega
  have nl : ¬ (!its.toArray.isEmpty && Builtin.List.listTooLong (its.toArray.size + its2.toArray.size)) = true := by
    rw [notLongL hsz, Bool.and_false]
    exact Bool.false_ne_true
  refine call_meets F.slot_list_extend ⟨_, e, rfl⟩ F.entry_list_extend (F.args_list_extend_2 _ _) (extT l b its.toArray its2.toArray n k2 od sl nl (by rw [List.size_toArray]; omega) (by omega)) ⟨e, e2, ?_⟩
  refine ⟨.non, _, I.lset (its' := its ++ its2) hH e (by simp) (r.append r2) ?_, rfl, q⟩
  rw [List.length_append]
  omega
/-! ### x in (a, b, ..), data of any depth -/
def rInT (K : PySem.W.Frag) : R2 := fun x y H Q => ∃ d ds, Dp K H x d ∧ Dp K H y (.tuple ds) ∧ SeqAt.shaped d = true ∧ SeqAt.shaped (.tuple ds) = true ∧ Q (.bl (ds.any fun z => PyData.eqv z d)) H
def rNotInT (K : PySem.W.Frag) : R2 := fun x y H Q => ∃ d ds, Dp K H x d ∧ Dp K H y (.tuple ds) ∧ SeqAt.shaped d = true ∧ SeqAt.shaped (.tuple ds) = true ∧ Q (.bl (!ds.any fun z => PyData.eqv z d)) H
theorem op_inT (hu : X.A.units + 65 < cLine) : OpR X (compareOp .In) (rInT X.K) := by
  intro pins s σ H x y v u Q I rx ry h
  obtain ⟨d, ds, hd, he, sd, se, q⟩ := h
  obtain ⟨as, r1⟩ := Dp.reads I d x v hd rx
  obtain ⟨bs, r2⟩ := Dp.reads I (.tuple ds) y u he ry
  exact SeqAt.in_tuple_reads r2 r1 (SeqAt.canLay_of_shaped se) (SeqAt.canLay_of_shaped sd) (room_in_shaped sd hu) ⟨.bl _, H, I, rfl, q⟩
theorem op_notInT (hu : X.A.units + 65 < cLine) : OpR X (compareOp .NotIn) (rNotInT X.K) := by
  intro pins s σ H x y v u Q I rx ry h
  obtain ⟨d, ds, hd, he, sd, se, q⟩ := h
  obtain ⟨as, r1⟩ := Dp.reads I d x v hd rx
  obtain ⟨bs, r2⟩ := Dp.reads I (.tuple ds) y u he ry
  exact SeqAt.notIn_tuple_reads r2 r1 (SeqAt.canLay_of_shaped se) (SeqAt.canLay_of_shaped sd) (room_in_shaped sd hu) ⟨.bl _, H, I, rfl, q⟩
theorem units65 {k : Nat} {A : Around} (r : Room k A) : A.units + 65 < cLine := by
  have := r.un
  omega
end
section
variable {K : PySem.W.Frag} {H : Hp}
theorem DpAll.dropt : ∀ {xs : List V} {ds : List PyData} (n : Nat), DpAll K H xs ds → DpAll K H (xs.drop n) (ds.drop n)
  | _, _, 0, r => r
  | _, _, _ + 1, .nil => .nil
  | _, _, n + 1, .cons _ t => DpAll.dropt n t
theorem DpAll.taket : ∀ {xs : List V} {ds : List PyData} (n : Nat), DpAll K H xs ds → DpAll K H (xs.take n) (ds.take n)
  | _, _, 0, _ => .nil
  | _, _, _ + 1, .nil => .nil
  | _, _, n + 1, .cons r t => .cons r (DpAll.taket n t)
theorem DpAll.app : ∀ {xs ys : List V} {ds es : List PyData}, DpAll K H xs ds → DpAll K H ys es → DpAll K H (xs ++ ys) (ds ++ es)
  | _, _, _, _, .nil, r => r
  | _, _, _, _, .cons q t, r => .cons q (DpAll.app t r)
theorem DpAll.getV : ∀ {vs : List V} {ds : List PyData} {i : Nat} {v : V}, DpAll K H vs ds → vs[i]? = some v → ∃ d, ds[i]? = some d ∧ Dp K H v d
  | _, _, _, _, .nil, e => by simp at e
  | _, _, 0, _, .cons r _, e => by simp at e; subst e; exact ⟨_, rfl, r⟩
  | _, _, i + 1, _, .cons _ t, e => by
    obtain ⟨u, h1, h2⟩ := DpAll.getV (i := i) t (by simpa using e)
    exact ⟨u, by simpa using h1, h2⟩
end
/-- a part of a tuple, also the whole -/
theorem cut_nat (xs : List V) (i j : Nat) (h1 : i ≤ xs.length) (h2 : j ≤ xs.length) : cutV xs (some (i : Int)) (some (j : Int)) = (xs.drop i).take (j - i) := by
  unfold cutV
  rw [HT.sIx_nat, HT.sIx_nat, Nat.min_eq_left h1, Nat.min_eq_left h2]
theorem slA_nat {K : PySem.W.Frag} {H : Hp} {a : Addr} {xs : List V} {i j : Nat} {Q : VK} (hs : SqT K H a xs) (h1 : i ≤ xs.length) (h2 : j ≤ xs.length) (h : ∀ b H', Same H H' → SqT K H' b ((xs.drop i).take (j - i)) → (∀ c, H c = Option.none → c ≠ b → H' c = Option.none) → Q (.ref b) H') :
    rSlA K (.ref a) (some (i : Int)) (some (j : Int)) H Q := by
  refine ⟨a, xs, rfl, hs, fun z => ?_, fun z p np => ?_⟩
  · rw [HT.sIx_nat, HT.sIx_nat, Nat.min_eq_left h1, Nat.min_eq_left h2] at z
    refine h a H (Same.refl H) ?_ fun _ e _ => e
    rw [z.1, z.2, List.drop_zero, Nat.sub_zero, List.take_length]
    exact hs
  · rw [cut_nat xs i j h1 h2]
    exact h p _ (same_upd np) (SqT.of upd_same) fun c e hc => by rw [upd_ne hc]; exact e
theorem cat_dp {K : PySem.W.Frag} {H : Hp} {x y : V} {ds es : List PyData} {Q : VK} (hx : Dp K H x (.tuple ds)) (hy : Dp K H y (.tuple es)) (hne : ds ≠ []) (hz : ds.length + es.length ≤ 1000) (h : ∀ v H', Same H H' → Dp K H' v (.tuple (ds ++ es)) → Q v H') : rCatT K x y H Q := by
  cases hx with
  | @tup a xs _ sx ax =>
  cases hy with
  | @tup b ys _ sy ay =>
  have lx := DpAll.len ax
  have ly := DpAll.len ay
  refine ⟨a, b, xs, ys, rfl, rfl, sx, sy, fun z => ?_, small_of (by omega), fun z => ?_, fun z p np => ?_⟩
  · rw [z] at lx
    exact hne (List.eq_nil_of_length_eq_zero lx.symm)
  · subst z
    cases ay
    rw [List.append_nil] at h
    exact h _ H (Same.refl H) (.tup sx ax)
  · exact h _ _ (same_upd np) (.tup (SqT.of upd_same) (dp_sameAll (same_upd np) _ _ (DpAll.app ax ay)))
theorem cut_from1 (v : V) (xs : List V) : cutV (v :: xs) (some 1) Option.none = xs := by
  unfold cutV
  rw [show (some (1 : Int)) = some ((1 : Nat) : Int) from rfl, HT.sIx_nat, HT.sIx_none, List.length_cons, Nat.min_eq_left (by omega), List.drop_succ_cons, List.drop_zero, Nat.add_sub_cancel]
  exact List.take_length
section
variable {σ : L2.St} {H : Hp}
theorem args1 {t : TE} {ta : TA} {Q : List V → Hp → Prop} (h : t σ H fun x H1 => ta σ H1 fun xs H2 => Q (x :: xs) H2) : tCons t ta σ H Q := h
theorem tup_of {ta : TA} {Q : VK} (h : ta σ H fun xs H1 => xs.length ≤ sizeLine ∧ ∀ p, H1 p = Option.none → Q (.ref p) (upd H1 p (.tup xs))) : tTup ta σ H Q := h
theorem const_of {v : V} {Q : VK} (h : Q v H) : tC v σ H Q := h
theorem op_of {r : R2} {ta tb : TE} {Q : VK} (h : ta σ H fun x H1 => tb σ H1 fun y H2 => r x y H2 Q) : tOp r ta tb σ H Q := h
theorem nil_of {Q : List V → Hp → Prop} (h : Q [] H) : tNil σ H Q := h
end
section
variable {σ : L2.St} {H : Hp}
theorem call_of {sp : Sp} {dvs : List V} {E : XK} {t : TA} {Q : VK} (h : t σ H fun vs H1 => sp (vs ++ dvs) H1 Q E) : tCall sp dvs E t σ H Q := h
theorem args_and {r : R2} {sp : Sp} {dvs : List V} {E : XK} {t : TA} {tb tc : TE} {D : Ends} (h : t σ H fun vs H1 => sp (vs ++ dvs) H1 (fun x H1 => tb σ H1 fun y H2 => r x y H2 fun x H1 => ∃ c, x = .bl c ∧ if c = true then tc σ H1 D.rt else D.rt (.bl false) H1) E) : tRet (tAndV (tOp r (tCall sp dvs E t) tb) tc) D σ H := h
end
theorem relStr (x : Str) (t : Tok) : RelV (.str x) (.str x t) := ⟨_, rfl⟩
theorem relInt (i : Int) (t : Tok) : RelV (.int i) (.int i t) := ⟨_, rfl⟩
theorem relRef (a : Addr) : RelV (.ref a) (.ref a) := rfl
/-! ### a < b of data whose places are alike -/
section
variable {X : Cx}
def rLtD (K : PySem.W.Frag) : R2 := fun x y H Q => ∃ d e, Dp K H x d ∧ Dp K H y e ∧ PySem.W.alike d e = true ∧ d ≠ .none ∧ d.depth ≤ 8 ∧ Q (.bl (PySem.W.dataLt d e)) H
theorem op_ltD (hu : X.A.units + 64 < cLine) : OpR X (compareOp .Lt) (rLtD X.K) := by
  intro pins s σ H x y v u Q I rx ry h
  obtain ⟨d, e, hd, he, ha, hn, hz, q⟩ := h
  obtain ⟨as, r1⟩ := Dp.reads I d x v hd rx
  obtain ⟨bs, r2⟩ := Dp.reads I e y u he ry
  have R := PySem.W.rcLt_alike d e X.A s v u as bs r1 r2 ha hn (Nat.lt_of_le_of_lt (Nat.add_le_add_left (Nat.le_trans (Nat.min_le_left _ _) (Nat.le_trans hz (by decide : 8 ≤ 64))) _) hu)
  have z : wpAny (model X.prog X.w) X.A (compareOp .Lt v u) (EP X pins σ Q) X.xe s := R X.prog X.w X.xe (EP X pins σ Q) ⟨.bl _, H, I, rfl, q⟩
  exact z
end
/-! ### zip of two tuples -/
theorem walk_zipT {K : PySem.W.Frag} {a b : Addr} {xs ys : List V} {n : Nat} (hn : n = min xs.length ys.length) : Walk (RZ.ItzT K a b) n (fun H => SqT K H a xs ∧ SqT K H b ys) (YPair (fun i => xs[i]?) (fun i => ys[i]?)) := by
  subst hn
  refine ⟨fun i H hi q => ?_, fun H q => ⟨xs, ys, q.1, q.2, by omega⟩, fun i H v H' hi q y => ?_⟩
  · have h1 : i < xs.length := by omega
    have h2 : i < ys.length := by omega
    exact ⟨xs, ys, _, _, q.1, q.2, List.getElem?_eq_getElem h1, List.getElem?_eq_getElem h2⟩
  · obtain ⟨T, x, y, e1, e2, e3, e4, e5⟩ := y
    exact ⟨T, x, y, e1, e2, e3, e4 xs q.1, e5 ys q.2⟩
/-! ### () + t -/
section
open Builtin
theorem addE (l b : Addr) (xs ys : Array Value) (n k : Nat) (dd dd2 : Option Addr) (sl sl2 : Array (Option Value)) (he : xs.isEmpty = true) :
    Meets (Builtin.«tuple.__add__» ⟨[.ref l, .ref b], []⟩) (fun _ R s => s.heap.get? l = some { cls := .type "tuple", dict := dd, data := .seq xs n, slots := sl } ∧ s.heap.get? b = some { cls := .type "tuple", dict := dd2, data := .seq ys k, slots := sl2 } ∧ R (.ok (.ret (Value.ref b))) s) := by
  refine .of_wp fun prog w A R s h => ?_
  obtain ⟨hp, g, d, tk, os⟩ := s
  obtain ⟨ea, eb, q⟩ := h
  have i1 := AutoSeq1.idx_int
  have i2 := AutoSeq1.sub_tuple_tuple
  have i3 := AutoSeq1.sub_list_list
  have i4 := AutoSeq1.sub_tuple_list
  have i5 := AutoSeq1.sub_list_tuple
  wp_walk using AutoSeq1.wpAny_loadPart' ea, AutoSeq1.wpAny_loadPart' eb
  exact ⟨_, rfl, q⟩
end
section
variable {X : Cx}
def rCatA (K : PySem.W.Frag) : R2 := fun x y H Q => ∃ a b xs ys, x = .ref a ∧ y = .ref b ∧ SqT K H a xs ∧ SqT K H b ys ∧ xs.length + ys.length ≤ sizeLine ∧ (xs = [] → Q (.ref b) H) ∧ (ys = [] → Q (.ref a) H) ∧ ∀ p, H p = Option.none → Q (.ref p) (upd H p (.tup (xs ++ ys)))
theorem op_catA : OpR X (binaryOp .Add) (rCatA X.K) := by
  intro pins s σ H x y v u Q I rx ry h
  obtain ⟨a, b, xs, ys, rfl, rfl, ha, hb, hz, q1, q2, q3⟩ := h
  by_cases hx : xs = []
  · subst hx
    cases rx
    cases ry
    obtain ⟨its, r1, p1, _⟩ := I.tuple ha
    obtain ⟨its2, r2, p2, _⟩ := I.tuple hb
    cases r1
    obtain ⟨⟨oc, od, dt, sl⟩, e1, c1, n, d1⟩ := p1
    obtain ⟨⟨oc2, od2, dt2, sl2⟩, e2, c2, n2, d2⟩ := p2
    simp only at c1 d1 c2 d2
    subst c1 d1 c2 d2
    exact concat_meets ⟨_, e1, rfl⟩ ⟨_, e2, rfl⟩ noFill_tuple_add seq_tuple_add PySem.F.slot_tuple_add PySem.F.entry_tuple_add (PySem.F.args_tuple_add_2 _ _)
      (addE a b #[] its2.toArray n n2 od od2 sl sl2 rfl) ⟨e1, e2, ⟨.ref b, H, I, rfl, q1 rfl⟩⟩
  · exact op_catT pins s σ H (.ref a) (.ref b) v u Q I rx ry ⟨a, b, xs, ys, rfl, rfl, ha, hb, hx, hz, q2, fun _ p np => q3 p np⟩
end
section
variable {K : PySem.W.Frag} {G : Addr → Prop} {H : Hp}
theorem ImAll.dropt : ∀ {xs : List V} {ds : List PyData} (n : Nat), ImAll K G H xs ds → ImAll K G H (xs.drop n) (ds.drop n)
  | _, _, 0, r => r
  | _, _, _ + 1, .nil => .nil
  | _, _, n + 1, .cons _ t => ImAll.dropt n t
theorem ImAll.taket : ∀ {xs : List V} {ds : List PyData} (n : Nat), ImAll K G H xs ds → ImAll K G H (xs.take n) (ds.take n)
  | _, _, 0, _ => .nil
  | _, _, _ + 1, .nil => .nil
  | _, _, n + 1, .cons r t => .cons r (ImAll.taket n t)
theorem im_new {xs : List V} {ds : List PyData} {p : Addr} (np : H p = Option.none) (ia : ImAll K G H xs ds) : Im K (fun b => G b ∨ H b = Option.none) (upd H p (.tup xs)) (.ref p) (.tuple ds) :=
  .tup (.inr np) upd_same (Im.monoAll (fun b o _ e => same_upd np b o e) (fun _ g => .inl g) _ _ ia)
theorem im_cut {x : V} {ds es : List PyData} {lo hi : Option Int} {Q : VK} (iv : Im K G H x (.tuple ds)) (hc : ∀ xs : List V, ImAll K G H xs ds → ImAll K G H (cutV xs lo hi) es) (h : ∀ v H', Same H H' → (∀ b, G b ∨ H b = Option.none → G b ∨ H b = Option.none) → Im K (fun b => G b ∨ H b = Option.none) H' v (.tuple es) → Q v H') : rSlA K x lo hi H Q := by
  cases iv with
  | @tup a xs _ g e ia =>
  refine ⟨a, xs, rfl, SqT.of e, fun z => ?_, fun z p np => ?_⟩
  · have hw : cutV xs lo hi = xs := by
      unfold cutV
      rw [z.1, z.2, List.drop_zero, Nat.sub_zero, List.take_length]
    have := hc xs ia
    rw [hw] at this
    exact h _ H (Same.refl H) (fun _ q => q) (.tup (.inl g) e (Im.monoAll (fun _ _ _ e => e) (fun _ g => .inl g) _ _ this))
  · exact h _ _ (same_upd np) (fun _ q => q) (im_new np (hc xs ia))
theorem im_take {x : V} {ds : List PyData} {k : Nat} {Q : VK} (iv : Im K G H x (.tuple ds)) (hk : k ≤ ds.length) (h : ∀ v H', Same H H' → Im K (fun b => G b ∨ H b = Option.none) H' v (.tuple (ds.take k)) → Q v H') : rSlA K x Option.none (some (k : Int)) H Q :=
  im_cut iv (fun xs ia => by
    unfold cutV
    rw [HT.sIx_none, HT.sIx_nat, Nat.min_eq_left (by rw [ia.len]; exact hk), List.drop_zero, Nat.sub_zero]
    exact ImAll.taket _ ia) fun v H' s _ i => h v H' s i
theorem im_drop {x : V} {ds : List PyData} {k : Nat} {Q : VK} (iv : Im K G H x (.tuple ds)) (hk : k ≤ ds.length) (h : ∀ v H', Same H H' → Im K (fun b => G b ∨ H b = Option.none) H' v (.tuple (ds.drop k)) → Q v H') : rSlA K x (some (k : Int)) Option.none H Q :=
  im_cut iv (fun xs ia => by
    unfold cutV
    rw [HT.sIx_none, HT.sIx_nat, Nat.min_eq_left (by rw [ia.len]; exact hk), List.take_of_length_le (by rw [List.length_drop]; exact Nat.le_refl _)]
    exact ImAll.dropt _ ia) fun v H' s _ i => h v H' s i
theorem im_cat {x y : V} {ds es : List PyData} {Q : VK} (iv : Im K G H x (.tuple ds)) (iw : Im K G H y (.tuple es)) (hz : ds.length + es.length ≤ 1000) (h : ∀ v H', Same H H' → Im K (fun b => G b ∨ H b = Option.none) H' v (.tuple (ds ++ es)) → Q v H') : rCatA K x y H Q := by
  have w1 := Im.mono (G' := fun b => G b ∨ H b = Option.none) (fun _ _ _ e => e) (fun _ g => .inl g) _ _ iv
  have w2 := Im.mono (G' := fun b => G b ∨ H b = Option.none) (fun _ _ _ e => e) (fun _ g => .inl g) _ _ iw
  cases iv with
  | @tup a xs _ g e ia =>
  cases iw with
  | @tup b ys _ g2 e2 ib =>
  have l1 := ia.len
  have l2 := ib.len
  refine ⟨a, b, xs, ys, rfl, rfl, SqT.of e, SqT.of e2, small_of (by omega), fun z => ?_, fun z => ?_, fun p np => ?_⟩
  · subst z
    cases ia
    exact h _ H (Same.refl H) w2
  · subst z
    cases ib
    rw [List.append_nil] at h
    exact h _ H (Same.refl H) w1
  · exact h _ _ (same_upd np) (im_new np (ImAll.app ia ib))
end
end My
namespace My
open PySem PySem.Spec PyProof.Rows L2 SkE
/-! ### defs that may raise, and the program's own error classes -/
def HasX (P : Program) (w : World) (K : PySem.W.Frag) (mg : Str → Option Value) (base : Heap) (k : Nat) (x : Str) (ps : List Str) (sp : Sp) : Prop :=
  ∃ (f : Addr) (fd : FuncData), FnOk P w K mg base (L2.CX P w) k f fd ps sp ∧ mg x = some (.ref f) ∧ PySem.W.keepIn K (.ref f) = true ∧ Binds K fd ps []
/-- where the class of this name stands -/
def clsA (K : PySem.W.Frag) (x : Str) : Addr := match PySem.W.nsIn K mainGlobals x with
  | some (some (.ref C)) => C | _ => 0
theorem clsA_of {K : PySem.W.Frag} {x : Str} {C : Addr} (h : PySem.W.nsIn K mainGlobals x = some (some (.ref C))) : clsA K x = C := by
  unfold clsA
  rw [h]
structure Xc (K : PySem.W.Frag) (mg : Str → Option Value) (x : Str) (C : Addr) : Prop where
  gC : mg x = some (.ref C)
  xC : PySem.W.excIn K C [.type "ValueError", .type "Exception", .type "BaseException", .type "object"] "ValueError.__new__" = true
  kC : PySem.W.keepIn K (.ref C) = true
  bC : PySem.W.subIn K (.ref C) (.type "BaseException") = some true
  tC : PySem.W.typeIn K (.ref C) = some (.type "type")
  iC : PySem.W.isClsIn K C = true
theorem exm_pair {K : PySem.W.Frag} {T S : Addr} {b : Bool} (h1 : PySem.W.subIn K (.ref S) (.type "BaseException") = some true) (h2 : PySem.W.isClsIn K S = true) (h3 : PySem.W.typeIn K (.ref S) = some (.type "type")) (h4 : PySem.W.subIn K (.ref T) (.ref S) = some b) :
    PySem.W.exmOne K (.ref T) (.ref S) = some b := by
  have e1 : (PySem.W.subIn K (.ref S) (.type "BaseException") == some true) = true := by rw [h1] <;> rfl
  have e2 : ((PySem.W.clsIn K S).isSome && PySem.W.typeIn K (.ref S) == some (.type "type")) = true := by
    have h2' : (PySem.W.clsIn K S).isSome = true := h2
    rw [h2', h3] <;> rfl
  show (if (PySem.W.subIn K (.ref S) (.type "BaseException") == some true) = true then (if ((PySem.W.clsIn K S).isSome && PySem.W.typeIn K (.ref S) == some (.type "type")) = true then PySem.W.subIn K (.ref T) (.ref S) else none) else none) = some b
  rw [if_pos e1, if_pos e2]
  exact h4
theorem pss_under {X : Cx} {b : List Stmt} {t : TS} {P : Prop} (h : P → PSs X b t) : PSs X b (fun D σ H => P ∧ t D σ H) := ⟨fun pins s σ H D I ⟨p, q⟩ => (h p).run pins s σ H D I q⟩
end My

namespace My
open PySem PySem.Spec PyProof.Rows L2 SkE StX
/-! ### the text -/
def topS (i : Nat) : Stmt := PySem.Challenge.pw_hornbook_k21_evaluate.main.body.getD i (.Pass ⟨0, 0, 0, 0⟩)
abbrev s_is_integer : Stmt := topS 8
abbrev N_is_integer : List Str := ["value"]
theorem sc_is_integer : FnScope N_is_integer ["value"] (defScope s_is_integer) := ⟨rfl, rfl, rfl, by decide +kernel, rfl, by decide +kernel, by decide +kernel⟩
abbrev s_is_bounded : Stmt := topS 9
abbrev N_is_bounded : List Str := ["value"]
theorem sc_is_bounded : FnScope N_is_bounded ["value"] (defScope s_is_bounded) := ⟨rfl, rfl, rfl, by decide +kernel, rfl, by decide +kernel, by decide +kernel⟩
abbrev s_is_name : Stmt := topS 10
abbrev N_is_name : List Str := ["value", "letter"]
theorem sc_is_name : FnScope N_is_name ["value"] (defScope s_is_name) := ⟨rfl, rfl, rfl, by decide +kernel, rfl, by decide +kernel, by decide +kernel⟩
abbrev s_is_arity : Stmt := topS 11
abbrev N_is_arity : List Str := ["value"]
theorem sc_is_arity : FnScope N_is_arity ["value"] (defScope s_is_arity) := ⟨rfl, rfl, rfl, by decide +kernel, rfl, by decide +kernel, by decide +kernel⟩
abbrev s_is_variable : Stmt := topS 12
abbrev N_is_variable : List Str := ["node"]
theorem sc_is_variable : FnScope N_is_variable ["node"] (defScope s_is_variable) := ⟨rfl, rfl, rfl, by decide +kernel, rfl, by decide +kernel, by decide +kernel⟩
abbrev s_is_symbol : Stmt := topS 13
abbrev N_is_symbol : List Str := ["node"]
theorem sc_is_symbol : FnScope N_is_symbol ["node"] (defScope s_is_symbol) := ⟨rfl, rfl, rfl, by decide +kernel, rfl, by decide +kernel, by decide +kernel⟩
abbrev s_arity_of : Stmt := topS 14
abbrev N_arity_of : List Str := ["node"]
theorem sc_arity_of : FnScope N_arity_of ["node"] (defScope s_arity_of) := ⟨rfl, rfl, rfl, by decide +kernel, rfl, by decide +kernel, by decide +kernel⟩
abbrev s_is_node : Stmt := topS 15
abbrev N_is_node : List Str := ["value"]
theorem sc_is_node : FnScope N_is_node ["value"] (defScope s_is_node) := ⟨rfl, rfl, rfl, by decide +kernel, rfl, by decide +kernel, by decide +kernel⟩
abbrev s_integer : Stmt := topS 16
abbrev N_integer : List Str := ["value"]
theorem sc_integer : FnScope N_integer ["value"] (defScope s_integer) := ⟨rfl, rfl, rfl, by decide +kernel, rfl, by decide +kernel, by decide +kernel⟩
abbrev s_atom : Stmt := topS 17
abbrev N_atom : List Str := ["name"]
theorem sc_atom : FnScope N_atom ["name"] (defScope s_atom) := ⟨rfl, rfl, rfl, by decide +kernel, rfl, by decide +kernel, by decide +kernel⟩
abbrev s_compound : Stmt := topS 18
abbrev N_compound : List Str := ["name", "parts", "nodes", "part"]
theorem sc_compound : FnScope N_compound ["name", "parts"] (defScope s_compound) := ⟨rfl, rfl, rfl, by decide +kernel, rfl, by decide +kernel, by decide +kernel⟩
abbrev s_is_term : Stmt := topS 19
abbrev N_is_term : List Str := ["value", "missing", "node"]
theorem sc_is_term : FnScope N_is_term ["value"] (defScope s_is_term) := ⟨rfl, rfl, rfl, by decide +kernel, rfl, by decide +kernel, by decide +kernel⟩
abbrev s_symbol_error : Stmt := topS 22
abbrev N_symbol_error : List Str := ["node", "_", "name", "arity"]
theorem sc_symbol_error : FnScope N_symbol_error ["node"] (defScope s_symbol_error) := ⟨rfl, rfl, rfl, by decide +kernel, rfl, by decide +kernel, by decide +kernel⟩
abbrev s_calculate : Stmt := topS 23
abbrev N_calculate : List Str := ["name", "values", "left", "right"]
theorem sc_calculate : FnScope N_calculate ["name", "values"] (defScope s_calculate) := ⟨rfl, rfl, rfl, by decide +kernel, rfl, by decide +kernel, by decide +kernel⟩
abbrev s_result : Stmt := topS 24
abbrev N_result : List Str := ["name", "values", "value"]
theorem sc_result : FnScope N_result ["name", "values"] (defScope s_result) := ⟨rfl, rfl, rfl, by decide +kernel, rfl, by decide +kernel, by decide +kernel⟩
abbrev s_evaluate : Stmt := topS 25
abbrev N_evaluate : List Str := ["term", "symbols", "found", "node", "error", "value"]
theorem sc_evaluate : FnScope N_evaluate ["term"] (defScope s_evaluate) := ⟨rfl, rfl, rfl, by decide +kernel, rfl, by decide +kernel, by decide +kernel⟩
abbrev s__law_stream : Stmt := topS 27
abbrev N__law_stream : List Str := ["script", "mixed", "cell"]
theorem sc__law_stream : FnScope N__law_stream ["script"] (defScope s__law_stream) := ⟨rfl, rfl, rfl, by decide +kernel, rfl, by decide +kernel, by decide +kernel⟩
abbrev s__law_draw : Stmt := topS 28
abbrev N__law_draw : List Str := ["stream", "many", "value"]
theorem sc__law_draw : FnScope N__law_draw ["stream", "many"] (defScope s__law_draw) := ⟨rfl, rfl, rfl, by decide +kernel, rfl, by decide +kernel, by decide +kernel⟩
abbrev s__law_f : Stmt := topS 29
abbrev N__law_f : List Str := ["name", "parts", "term", "part"]
theorem sc__law_f : FnScope N__law_f ["name", "parts"] (defScope s__law_f) := ⟨rfl, rfl, rfl, by decide +kernel, rfl, by decide +kernel, by decide +kernel⟩
abbrev s__law_number : Stmt := topS 30
abbrev N__law_number : List Str := ["stream", "pick"]
theorem sc__law_number : FnScope N__law_number ["stream"] (defScope s__law_number) := ⟨rfl, rfl, rfl, by decide +kernel, rfl, by decide +kernel, by decide +kernel⟩
abbrev s__law_expression : Stmt := topS 31
abbrev N__law_expression : List Str := ["stream", "size", "wrong", "signs", "others", "nodes", "missing", "room", "name", "arity"]
theorem sc__law_expression : FnScope N__law_expression ["stream", "size", "wrong"] (defScope s__law_expression) := ⟨rfl, rfl, rfl, by decide +kernel, rfl, by decide +kernel, by decide +kernel⟩
abbrev s__law_combined : Stmt := topS 32
abbrev N__law_combined : List Str := ["name", "values", "a", "b", "quotient"]
theorem sc__law_combined : FnScope N__law_combined ["name", "values"] (defScope s__law_combined) := ⟨rfl, rfl, rfl, by decide +kernel, rfl, by decide +kernel, by decide +kernel⟩
abbrev s__law_due : Stmt := topS 33
abbrev N__law_due : List Str := ["name", "rows", "signs", "row", "value"]
theorem sc__law_due : FnScope N__law_due ["name", "rows"] (defScope s__law_due) := ⟨rfl, rfl, rfl, by decide +kernel, rfl, by decide +kernel, by decide +kernel⟩
abbrev s__law_deep : Stmt := topS 34
abbrev N__law_deep : List Str := ["stream", "many", "pick"]
theorem sc__law_deep : FnScope N__law_deep ["stream"] (defScope s__law_deep) := ⟨rfl, rfl, rfl, by decide +kernel, rfl, by decide +kernel, by decide +kernel⟩
abbrev s_law : Stmt := topS 35
abbrev N_law : List Str := ["script", "stream", "term", "due", "rows", "at", "node", "found", "k", "actual"]
theorem sc_law : FnScope N_law ["script"] (defScope s_law) := ⟨rfl, rfl, rfl, by decide +kernel, rfl, by decide +kernel, by decide +kernel⟩
/-- names that the top leaves to the built-ins, and its constants -/
structure Bi (K : PySem.W.Frag) (mg : Str → Option Value) : Prop where
  x_BadTerm : Xc K mg "BadTerm" (clsA K "BadTerm")
  b_abs : mg "abs" = Option.none
  b_all : mg "all" = Option.none
  b_bool : mg "bool" = Option.none
  b_int : mg "int" = Option.none
  b_isinstance : mg "isinstance" = Option.none
  b_len : mg "len" = Option.none
  b_list : mg "list" = Option.none
  b_ord : mg "ord" = Option.none
  b_range : mg "range" = Option.none
  b_str : mg "str" = Option.none
  b_tuple : mg "tuple" = Option.none
  c_MOST_NAME : GV mg "MOST_NAME" (.int 40)
  c_MOST_ARITY : GV mg "MOST_ARITY" (.int 8)
  c_INTEGER_BOUND : GV mg "INTEGER_BOUND" (.int 10000000000000000000000000000000000000000)
  c_PERCENT : GV mg "PERCENT" (.int 37)
  c_EVALUABLE : GC K mg "EVALUABLE" (.tuple [.tuple [.str "+", .int (2)], .tuple [.str "-", .int (2)], .tuple [.str "*", .int (2)], .tuple [.str "//", .int (2)], .tuple [.str "mod", .int (2)], .tuple [.str "-", .int (1)]])

/-! ### names, nodes, terms -/
def okSign (c : Nat) : Bool := decide (32 ≤ c) && decide (c ≤ 126) && !decide (c = 37)
def okName (x : Str) : Bool := decide (1 ≤ x.length) && decide (x.length ≤ 40) && x.cps.toList.all okSign
def names20 : List Str := ["a", "b", "f", "g", "hello", "[]", "+", "-", ",", "it's", "X", "a b", "{}", ".", "=", "'", "aB_1", "!", "0", "lvjkuwnd"]
def signs : Str := (Str.ofString " !\"#$&'()*+,-./0123456789:;<=>?@ABCDEFGHIJKLMNOPQRSTUVWXYZ[\\]^_`") ++ (Str.ofString "abcdefghijklmnopqrstuvwxyz{|}~")
theorem names20_ok : names20.all okName = true := by decide +kernel
theorem signs_ok : signs.cps.toList.all okSign = true := by decide +kernel
theorem signs_len : signs.length = 94 := by decide +kernel
theorem join_ones (e : Str) (he : e.cps = #[]) : ∀ cs : List Nat, (Str.join e (cs.map fun c => ⟨#[c]⟩)).cps.toList = cs
  | [] => rfl
  | [c] => rfl
  | c :: d :: r => by
    have ih := join_ones e he (d :: r)
    show ((⟨#[c]⟩ : Str) ++ e ++ Str.join e ((d :: r).map fun c => (⟨#[c]⟩ : Str))).cps.toList = c :: d :: r
    show (#[c] ++ e.cps ++ (Str.join e ((d :: r).map fun c => (⟨#[c]⟩ : Str))).cps).toList = c :: d :: r
    rw [he, Array.toList_append, ih]
    rfl
inductive Nd (wd : Int) : PyData → Prop
  | v (n : Int) : 0 ≤ n → n < wd → Nd wd (.tuple [.str "v", .int n])
  | i (n : Int) : -(10 ^ 40) < n → n < 10 ^ 40 → Nd wd (.int n)
  | f (x : Str) (n : Int) : okName x = true → 0 ≤ n → n ≤ 8 → Nd wd (.tuple [.str "f", .str x, .int n])
def arN : PyData → Nat
  | .tuple [_, _, c] => (match c with | .int n => n.toNat | _ => 0) | _ => 0
/-- from m missing terms on, the nodes are just these terms -/
def Cls : Nat → List PyData → Prop
  | m, [] => m = 0
  | m, d :: r => 0 < m ∧ Cls (m - 1 + arN d) r
structure Term (wd : Int) (ds : List PyData) : Prop where
  cl : Cls 1 ds
  nd : ∀ d ∈ ds, Nd wd d
/-! ### the promises -/
def sp__law_stream (K : PySem.W.Frag) : Sp := fun vs H Q _ => ∃ (a : Addr) (ns : List Int), vs = [.ref a] ∧ SqL K H a (ns.map V.int) ∧ ns.length ≤ 63 ∧ ∀ s l H', H s = Option.none → H l = Option.none → Same H H' → Stm H' s l → Q (.ref s) H'
def sp__law_draw (K : PySem.W.Frag) : Sp := fun vs H Q _ => ∃ (s l : Addr) (n : Int), vs = [.ref s, .int n] ∧ Stm H s l ∧ 0 < n ∧ n.natAbs < 2 ^ 9000 ∧ ∀ r H', 0 ≤ r → r < n → But s H H' → Stm H' s l → Q (.int r) H'
def sp__law_name (K : PySem.W.Frag) : Sp := fun vs H Q _ => ∃ s l, vs = [.ref s] ∧ Stm H s l ∧ ∀ x H', okName x = true → But s H H' → Stm H' s l → Q (.str x) H'
def sp__law_leaf (K : PySem.W.Frag) : Sp := fun vs H Q _ => ∃ (s l : Addr) (wd : Int), vs = [.ref s, .int wd] ∧ Stm H s l ∧ 0 < wd ∧ wd ≤ 1000 ∧ ∀ v d H', Nd wd d → arN d = 0 → But s H H' → Stm H' s l → Im K (fun b => H b = Option.none) H' v d → Q v H'
def sp__law_term (K : PySem.W.Frag) : Sp := fun vs H Q _ => ∃ (s l : Addr) (n wd : Int), vs = [.ref s, .int n, .int wd] ∧ Stm H s l ∧ 0 < n ∧ n ≤ 1000 ∧ 0 < wd ∧ wd ≤ 1000 ∧
  ∀ v ds H', Term wd ds → (ds.length : Int) ≤ n → But s H H' → Stm H' s l → Im K (fun b => H b = Option.none) H' v (.tuple ds) → Q v H'
/-! ### nodes -/
def isSymN : PyData → Bool
  | .tuple [_, _, _] => true | _ => false
def NdA (d : PyData) : Prop := ∃ wd, Nd wd d
/-- how many nodes m terms take -/
def tk : Nat → List PyData → Nat
  | _, [] => 0
  | m, d :: r => if m = 0 then 0 else 1 + tk (m - 1 + arN d) r
theorem tk_zero (l : List PyData) : tk 0 l = 0 := by
  cases l with
  | nil => rfl
  | cons d r => exact if_pos rfl
theorem tk_cons {m : Nat} (h : 0 < m) (d : PyData) (r : List PyData) : tk m (d :: r) = 1 + tk (m - 1 + arN d) r := if_neg (by omega)
theorem arN_nsym {d : PyData} (h : isSymN d = false) : arN d = 0 := by
  cases d with
  | tuple ds =>
    rcases ds with _ | ⟨a, _ | ⟨b, _ | ⟨c, _ | ⟨e, r⟩⟩⟩⟩
    · rfl
    · rfl
    · rfl
    · cases h
    · rfl
  | _ => rfl
theorem tk_le : ∀ (l : List PyData) (m : Nat), tk m l ≤ l.length
  | [], _ => Nat.le_refl 0
  | d :: r, m => by
    by_cases h : m = 0
    · subst h; rw [tk_zero]; exact Nat.zero_le _
    · rw [tk_cons (by omega)]
      have := tk_le r (m - 1 + arN d)
      rw [List.length_cons]
      omega
theorem tk_add : ∀ (l : List PyData) (j m : Nat), tk (j + m) l = tk j l + tk m (l.drop (tk j l))
  | [], j, m => by simp [tk]
  | d :: r, j, m => by
    by_cases h : j = 0
    · subst h
      rw [tk_zero, Nat.zero_add, Nat.zero_add, List.drop_zero]
    · rw [tk_cons (by omega), tk_cons (m := j) (by omega), show j + m - 1 + arN d = (j - 1 + arN d) + m by omega, tk_add r (j - 1 + arN d) m]
      rw [show 1 + tk (j - 1 + arN d) r = tk (j - 1 + arN d) r + 1 by omega, List.drop_succ_cons]
      omega
/-- the rest of what is closed is closed -/
theorem cls_drop : ∀ (l : List PyData) (k j : Nat), Cls k l → j ≤ k → Cls (k - j) (l.drop (tk j l))
  | [], k, j, h, hj => by
    have hk : k = 0 := h
    rw [List.drop_nil]
    show k - j = 0
    omega
  | d :: r, k, j, h, hj => by
    by_cases z : j = 0
    · subst z
      rw [tk_zero]
      exact h
    · rw [tk_cons (by omega), show 1 + tk (j - 1 + arN d) r = tk (j - 1 + arN d) r + 1 by omega, List.drop_succ_cons]
      have := cls_drop r (k - 1 + arN d) (j - 1 + arN d) h.2 (by omega)
      rwa [show k - 1 + arN d - (j - 1 + arN d) = k - j by omega] at this
theorem cls_take : ∀ (l : List PyData) (k j : Nat), Cls k l → j ≤ k → Cls j (l.take (tk j l))
  | [], k, j, h, hj => by
    have hk : k = 0 := h
    rw [List.take_nil]
    show j = 0
    omega
  | d :: r, k, j, h, hj => by
    by_cases z : j = 0
    · subst z
      rw [tk_zero]
      rfl
    · rw [tk_cons (by omega), show 1 + tk (j - 1 + arN d) r = tk (j - 1 + arN d) r + 1 by omega, List.take_succ_cons]
      exact ⟨by omega, cls_take r (k - 1 + arN d) (j - 1 + arN d) h.2 (by omega)⟩
theorem tk_take : ∀ (l : List PyData) (i j : Nat), i ≤ j → tk i (l.take (tk j l)) = tk i l
  | [], i, j, _ => by rw [List.take_nil]
  | d :: r, i, j, h => by
    by_cases z : i = 0
    · subst z
      rw [tk_zero, tk_zero]
    · rw [tk_cons (m := j) (by omega), show 1 + tk (j - 1 + arN d) r = tk (j - 1 + arN d) r + 1 by omega, List.take_succ_cons, tk_cons (by omega), tk_cons (by omega), tk_take r _ _ (by omega)]
theorem take_full : ∀ (l : List PyData) (k : Nat), Cls k l → l.take (tk k l) = l
  | [], _, _ => List.take_nil
  | d :: r, k, h => by
    rw [tk_cons h.1, show 1 + tk (k - 1 + arN d) r = tk (k - 1 + arN d) r + 1 by omega, List.take_succ_cons, take_full r _ h.2]
theorem cls_map : ∀ (ds es : List PyData) (m : Nat), es.map arN = ds.map arN → Cls m ds → Cls m es
  | [], [], m, _, h => h
  | [], e :: es, m, h, _ => by cases h
  | d :: ds, [], m, h, _ => by cases h
  | d :: ds, e :: es, m, h, hc => by
    rw [List.map_cons, List.map_cons] at h
    obtain ⟨h1, h2⟩ := List.cons.inj h
    exact ⟨hc.1, by rw [h1]; exact cls_map ds es _ h2 hc.2⟩
/-! ### nodes can be compared -/
theorem okName_cps {x : Str} (h : okName x = true) : PyData.strOk x = true := by
  unfold okName at h
  rw [Bool.and_eq_true] at h
  unfold PyData.strOk
  rw [← Array.all_toList]
  refine List.all_eq_true.mpr fun c hc => ?_
  have := List.all_eq_true.mp h.2 c hc
  unfold okSign at this
  simp only [Bool.and_eq_true, decide_eq_true_eq] at this
  exact decide_eq_true (by omega)
theorem nd_lay {d : PyData} (h : NdA d) : d.canLay0 = true ∧ d.depth ≤ 1 ∧ d.eqv d = true := by
  obtain ⟨wd, h⟩ := h
  cases h with
  | v n _ _ => exact ⟨by simp only [PyData.canLay0, PyData.canLayAll0]; decide +kernel, by simp [PyData.depth, PyData.depthAll], by simp only [PyData.eqv, PyData.eqvAll, beq_self_eq_true, Bool.and_self]⟩
  | i n _ _ => exact ⟨by simp only [PyData.canLay0], by simp [PyData.depth], by simp only [PyData.eqv, beq_self_eq_true]⟩
  | f x n hx _ _ => exact ⟨by simp only [PyData.canLay0, PyData.canLayAll0]; rw [okName_cps hx]; decide +kernel, by simp [PyData.depth, PyData.depthAll], by simp only [PyData.eqv, PyData.eqvAll, beq_self_eq_true, Bool.and_self]⟩
theorem nds_lay : ∀ {ds : List PyData}, (∀ d ∈ ds, NdA d) → PyData.canLayAll0 ds = true ∧ PyData.depthAll ds ≤ 1 ∧ PyData.eqvAll ds ds = true
  | [], _ => ⟨by simp only [PyData.canLayAll0], by simp [PyData.depthAll], by simp only [PyData.eqvAll]⟩
  | d :: r, h => by
    obtain ⟨a1, a2, a3⟩ := nd_lay (h d List.mem_cons_self)
    obtain ⟨b1, b2, b3⟩ := nds_lay (ds := r) fun e he => h e (List.mem_cons_of_mem _ he)
    refine ⟨by simp only [PyData.canLayAll0, a1, b1, Bool.and_self], ?_, by simp only [PyData.eqvAll, a3, b3, Bool.and_self]⟩
    simp only [PyData.depthAll]
    omega
theorem nd_shaped {d : PyData} (h : NdA d) : SeqAt.shaped d = true := by
  obtain ⟨a1, a2, _⟩ := nd_lay h
  show (d.canLay0 && decide (d.depth ≤ 64)) = true
  rw [a1, decide_eq_true (by omega)]
  rfl
theorem tup_shaped {ds : List PyData} (h : ∀ d ∈ ds, NdA d) : SeqAt.shaped (.tuple ds) = true := by
  obtain ⟨a1, a2, _⟩ := nds_lay h
  have hd : (PyData.tuple ds).depth ≤ 64 := by
    simp only [PyData.depth]
    omega
  have hc : (PyData.tuple ds).canLay0 = true := by
    simp only [PyData.canLay0]
    exact a1
  show ((PyData.tuple ds).canLay0 && decide ((PyData.tuple ds).depth ≤ 64)) = true
  rw [hc, decide_eq_true hd]
  rfl
theorem tup_eqv {ds : List PyData} (h : ∀ d ∈ ds, NdA d) : PyData.eqv (.tuple ds) (.tuple ds) = true := by
  simp only [PyData.eqv]
  exact (nds_lay h).2.2
/-- name = {k: v for ..} on one line, the name a local -/
theorem ps_setDc {X : Cx} {i : Nat} {y : Str} {py : Pos} {kx vx tg iter : Expr} {ifs : List Expr} {scope : Scope} {own : List (Str × Nat)} {pos spos : Pos} {wi : TI} {g : TG} {tt : TT} {tk tv : TE} (c1 : X.calm = true) (c2 : X.N.Nodup) (c3 : X.N[i]? = some y) (c4 : X.env.scope.names.lookup y = some .local)
    (c5 : swapsWith (.DictComp kx vx [⟨tg, iter, ifs, 0⟩] scope pos) (some (.Name y py)) spos.line X.env = pure true) (c6 : PI X tg iter wi) (c7 : BlkOk X.N X.env.scope scope own)
    (c8 : ∀ (z : Shared) (H : Hp) (C : Addr) (cl : List (Str × Addr)) (fp : List Addr), PG (X.blk z H scope (compEnvC scope cl C X.env) fp) tg g) (c9 : ∀ (z : Shared) (H : Hp) (C : Addr) (cl : List (Str × Addr)) (fp : List Addr), PTs (X.blk z H scope (compEnvC scope cl C X.env) fp) ifs tt)
    (d1 : ∀ (z : Shared) (H : Hp) (C : Addr) (cl : List (Str × Addr)) (fp : List Addr), PE (X.blk z H scope (compEnvC scope cl C X.env) fp) kx tk)
    (d2 : ∀ (z : Shared) (H : Hp) (C : Addr) (cl : List (Str × Addr)) (fp : List Addr), PE (X.blk z H scope (compEnvC scope cl C X.env) fp) vx tv) (d3 : ∀ x, foldedSetIterable iter X.env x = pure x := by intro _; rfl) :
    PS X (.Assign [.Name y py] (.DictComp kx vx [⟨tg, iter, ifs, 0⟩] scope pos) spos) (tAsg (tDc wi g tt tk tv (own.map (·.2))) (gName i)) := by
  refine ⟨fun pins st0 σ H D inv hyp => ?_⟩
  have hyp' : tDc wi g tt tk tv (own.map (·.2)) σ H (fun v Hq => gName i v σ Hq D.nx) := hyp
  rw [exec_Assign_Name_used _ _ _ _ c5]
  refine wpAny_bind <| wpAny_standAt <| wpAny_bind ?_
  show wpAny _ X.A (do let _ ← comprehension (.DictComp kx vx [⟨tg, iter, ifs, 0⟩] scope pos) scope X.env (firstIterPos [⟨tg, iter, ifs, 0⟩] pos) newDict false (eval iter X.env) (some (assign (.Name y py) X.env))) _ _ st0
  have core := dc_core (Qf := fun _ fin => SP X pins D .next fin) (pos := pos) (pos' := firstIterPos [⟨tg, iter, ifs, 0⟩] pos) (use := some (assign (.Name y py) X.env)) c1 c2 inv c6 c7 c8 c9 d1 d2 d3 hyp' fun L C fin mm Hf inv' qf nsC fp => by
    show wpAny _ _ (assign (.Name y py) X.env (.ref L)) _ _ _
    obtain ⟨e0, e1, e2, e3, e4, e5⟩ := fp
    refine wpAny_assign_Name (store_ok2 (v := V.ref L) inv' c2 c3 (.inl c4) rfl (fun fin2 inv2 ⟨w, same, hw⟩ => ?_) (.inr c4))
    have cw : C ≠ w := by
      intro z
      cases hw with
      | inl hw => exact e1 (z.trans hw)
      | inr hw => exact e4 y w hw z.symm
    exact ⟨mm, nsC.sameBut same cw, fun h3 sb3 => ⟨_, Hf, inv2.turned (t' := fin2.toks) (fun b o hb e => (sb3.2 b hb).trans e) e0 e1 e3 e4 e5, qf⟩⟩
  exact wpAny_bind (thn core fun _ fin hq => wpAny_pure (wpAny_pure hq))
theorem seq_via {t u : TS} {D : Ends} {σ : L2.St} {H : Hp} (P : L2.St → Hp → Prop) (hu : ∀ σ H, P σ H → u D σ H) (ht : (∀ σ H, P σ H → u D σ H) → t { D with nx := u D } σ H) : tSeq t u D σ H := ht hu
def isVarN : PyData → Bool
  | .tuple [_, _] => true | _ => false
def numN : PyData → Int
  | .tuple [_, .int n] => n | _ => 0
theorem var_arN {d : PyData} (h : isVarN d = true) : arN d = 0 := by
  cases d with
  | tuple ds =>
    rcases ds with _ | ⟨a, _ | ⟨b, _ | ⟨c, r⟩⟩⟩
    · rfl
    · rfl
    · rfl
    · cases h
  | _ => rfl
theorem nd_eq {d e : PyData} (h : NdA d) (h2 : NdA e) (q : PyData.eqv d e = true) : d = e := by
  obtain ⟨wd, h⟩ := h
  obtain ⟨we, h2⟩ := h2
  cases h with
  | v n _ _ =>
    cases h2 with
    | v m _ _ =>
      simp only [PyData.eqv, PyData.eqvAll, Bool.and_eq_true, beq_iff_eq] at q
      rw [q.2.1]
    | i m _ _ => simp [PyData.eqv] at q
    | f x m _ _ _ => simp [PyData.eqv, PyData.eqvAll] at q
  | i n _ _ =>
    cases h2 with
    | v m _ _ => simp [PyData.eqv] at q
    | i m _ _ =>
      simp only [PyData.eqv, beq_iff_eq] at q
      rw [q]
    | f x m _ _ _ => simp [PyData.eqv] at q
  | f x n _ _ _ =>
    cases h2 with
    | v m _ _ => simp [PyData.eqv, PyData.eqvAll] at q
    | i m _ _ => simp [PyData.eqv] at q
    | f y m _ _ _ =>
      simp only [PyData.eqv, PyData.eqvAll, Bool.and_eq_true, beq_iff_eq] at q
      rw [q.2.1, q.2.2.1]
theorem nds_eq : ∀ {ds es : List PyData}, (∀ d ∈ ds, NdA d) → (∀ e ∈ es, NdA e) → PyData.eqvAll ds es = true → ds = es
  | [], [], _, _, _ => rfl
  | [], _ :: _, _, _, h => by simp [PyData.eqvAll] at h
  | _ :: _, [], _, _, h => by simp [PyData.eqvAll] at h
  | d :: ds, e :: es, h1, h2, h => by
    simp only [PyData.eqvAll, Bool.and_eq_true] at h
    rw [nd_eq (h1 d List.mem_cons_self) (h2 e List.mem_cons_self) h.1, nds_eq (fun x hx => h1 x (List.mem_cons_of_mem _ hx)) (fun x hx => h2 x (List.mem_cons_of_mem _ hx)) h.2]
theorem tup_eq {ds es : List PyData} (h1 : ∀ d ∈ ds, NdA d) (h2 : ∀ e ∈ es, NdA e) (h : PyData.eqv (.tuple ds) (.tuple es) = true) : ds = es := by
  simp only [PyData.eqv] at h
  exact nds_eq h1 h2 h
theorem cls_app : ∀ (l r : List PyData) (j k : Nat), Cls j l → Cls k r → Cls (j + k) (l ++ r)
  | [], r, j, k, h, h2 => by
    have e : j = 0 := h
    rw [e, Nat.zero_add]
    exact h2
  | d :: l, r, j, k, h, h2 => by
    refine ⟨by have := h.1; omega, ?_⟩
    have := cls_app l r (j - 1 + arN d) k h.2 h2
    have e := h.1
    rwa [show j - 1 + arN d + k = j + k - 1 + arN d by omega] at this
/-- at each place of what is closed so many terms are missing -/
theorem cls_split : ∀ (ds : List PyData) (m i : Nat), Cls m ds → i ≤ ds.length → ∃ k, Cls k (ds.drop i) ∧ ∀ t, Cls k t → Cls m (ds.take i ++ t)
  | ds, m, 0, h, _ => ⟨m, h, fun t ht => ht⟩
  | [], m, i + 1, h, hi => absurd hi (by simp)
  | d :: ds, m, i + 1, h, hi => by
    obtain ⟨k, h1, h2⟩ := cls_split ds (m - 1 + arN d) i h.2 (by simpa using hi)
    exact ⟨k, h1, fun t ht => ⟨h.1, h2 t ht⟩⟩
abbrev Tab := List (Int × List PyData)
def valT (t : Tab) (n : Int) : Option (List PyData) := (t.find? fun p => decide (p.1 = n)).map (·.2)
/-- a dict with this table -/
def TabK (K : PySem.W.Frag) (H : Hp) : List (Key × V) → Tab → Prop
  | [], [] => True
  | p :: kvs, q :: t => p.1 = Sum.inl q.1 ∧ Dp K H p.2 (.tuple q.2) ∧ TabK K H kvs t
  | _, _ => False
def TabN (t : Tab) : Prop := ∀ p ∈ t, (∀ d ∈ p.2, NdA d)
theorem TabK.len {K : PySem.W.Frag} {H : Hp} : ∀ {kvs : List (Key × V)} {t : Tab}, TabK K H kvs t → kvs.length = t.length
  | [], [], _ => rfl
  | [], _ :: _, h => h.elim
  | _ :: _, [], h => h.elim
  | p :: kvs, q :: t, h => congrArg (· + 1) (TabK.len h.2.2)
theorem TabK.mono {K : PySem.W.Frag} {H H' : Hp} (f : ∀ v ds, (∀ d ∈ ds, NdA d) → Dp K H v (.tuple ds) → Dp K H' v (.tuple ds)) : ∀ {kvs : List (Key × V)} {t : Tab}, TabN t → TabK K H kvs t → TabK K H' kvs t
  | [], [], _, _ => True.intro
  | [], _ :: _, _, h => h.elim
  | _ :: _, [], _, h => h.elim
  | p :: kvs, q :: t, n, h => ⟨h.1, f _ _ (n q List.mem_cons_self) h.2.1, TabK.mono f (fun x hx => n x (List.mem_cons_of_mem _ hx)) h.2.2⟩
theorem TabK.val {K : PySem.W.Frag} {H : Hp} (n : Int) : ∀ {kvs : List (Key × V)} {t : Tab}, TabK K H kvs t → (valV kvs (Sum.inl n) = none ∧ valT t n = none) ∨ ∃ v ds, valV kvs (Sum.inl n) = some v ∧ valT t n = some ds ∧ Dp K H v (.tuple ds)
  | [], [], _ => .inl ⟨rfl, rfl⟩
  | [], _ :: _, h => h.elim
  | _ :: _, [], h => h.elim
  | p :: kvs, q :: t, h => by
    by_cases e : q.1 = n
    · refine .inr ⟨p.2, q.2, valV_pos (by rw [h.1, e]), ?_, h.2.1⟩
      unfold valT
      rw [List.find?_cons, decide_eq_true e]
      rfl
    · have e1 : ¬ p.1 = Sum.inl n := fun z => e (Sum.inl.inj (h.1.symm.trans z))
      have e2 : valT (q :: t) n = valT t n := by
        unfold valT
        rw [List.find?_cons, decide_eq_false e]
      rw [valV_neg e1, e2]
      exact TabK.val n h.2.2
theorem TabK.snoc {K : PySem.W.Frag} {H : Hp} {n : Int} {v : V} {ds : List PyData} (hd : Dp K H v (.tuple ds)) : ∀ {kvs : List (Key × V)} {t : Tab}, TabK K H kvs t → TabK K H (kvs ++ [(Sum.inl n, v)]) (t ++ [(n, ds)])
  | [], [], _ => ⟨rfl, hd, True.intro⟩
  | [], _ :: _, h => h.elim
  | _ :: _, [], h => h.elim
  | p :: kvs, q :: t, h => ⟨h.1, h.2.1, TabK.snoc hd h.2.2⟩
theorem valT_snoc (t : Tab) (n m : Int) (ds : List PyData) (h : valT t n = none) : valT (t ++ [(n, ds)]) m = if m = n then some ds else valT t m := by
  unfold valT at *
  rw [List.find?_append]
  cases e : t.find? fun p => decide (p.1 = m) with
  | some p =>
    have hm : ¬ m = n := fun z => by rw [z] at e; rw [e] at h; cases h
    rw [if_neg hm]
    rfl
  | none =>
    by_cases hm : m = n
    · rw [if_pos hm, Option.none_or]
      rw [List.find?_cons, decide_eq_true hm.symm]
      rfl
    · rw [if_neg hm, Option.none_or]
      rw [List.find?_cons, decide_eq_false (fun z => hm z.symm)]
      rfl
theorem valT_none {t : Tab} {n : Int} (h : valT t n = none) : ∀ q ∈ t, q.1 ≠ n := by
  intro q hq e
  unfold valT at h
  rw [Option.map_eq_none_iff, List.find?_eq_none] at h
  exact h q hq (decide_eq_true e)
mutual
def noL : PyData → Bool
  | .none => true
  | .bool _ => true
  | .int _ => true
  | .str _ => true
  | .tuple ds => noLA ds
  | .list _ => false
  | .dict _ => false
def noLA : List PyData → Bool
  | [] => true
  | d :: ds => noL d && noLA ds
end
def notTup (H : Hp) (p : Addr) : Prop := (∃ ys, H p = some (.lst ys)) ∨ (∃ kvs, H p = some (.dK kvs)) ∨ ∃ o kvs, H p = some (.frz o (.dK kvs))
theorem sqT_put {K : PySem.W.Frag} {H : Hp} {p b : Addr} {o : HO} {xs : List V} (hp : notTup H p) (h : SqT K H b xs) : SqT K (upd H p o) b xs := by
  rcases h with (h | ⟨q, h⟩) | h
  · exact .inl (.inl (by rw [upd_ne (fun z => by rw [z] at h; rcases hp with ⟨_, hp⟩ | ⟨_, hp⟩ | ⟨_, _, hp⟩ <;> (rw [hp] at h; cases h))]; exact h))
  · exact .inl (.inr ⟨q, by rw [upd_ne (fun z => by rw [z] at h; rcases hp with ⟨_, hp⟩ | ⟨_, hp⟩ | ⟨_, _, hp⟩ <;> (rw [hp] at h; cases h))]; exact h⟩)
  · exact .inr h
section
variable {K : PySem.W.Frag} {H : Hp} {p : Addr} {o : HO}
mutual
theorem dp_put (hp : notTup H p) : ∀ (d : PyData) (v : V), noL d = true → Dp K H v d → Dp K (upd H p o) v d
  | .none, _, _, h => by cases h; exact .non
  | .bool b, _, _, h => by cases h; exact .bl b
  | .int i, _, _, h => by cases h; exact .int i
  | .str x, _, _, h => by cases h; exact .str x
  | .list ds, _, n, h => by simp [noL] at n
  | .tuple ds, _, n, h => by
    cases h with
    | tup g ha => exact .tup (sqT_put hp g) (dp_putAll hp ds _ (by simpa [noL] using n) ha)
  | .dict _, _, n, h => by cases h
theorem dp_putAll (hp : notTup H p) : ∀ (ds : List PyData) (vs : List V), noLA ds = true → DpAll K H vs ds → DpAll K (upd H p o) vs ds
  | [], _, _, h => by cases h; exact .nil
  | d :: ds, _, n, h => by
    rw [noLA, Bool.and_eq_true] at n
    cases h with
    | cons h1 h2 => exact .cons (dp_put hp d _ n.1 h1) (dp_putAll hp ds _ n.2 h2)
end
end
theorem nd_noL {d : PyData} (h : NdA d) : noL d = true := by
  obtain ⟨wd, h⟩ := h
  cases h <;> simp [noL, noLA]
theorem nds_noL : ∀ {ds : List PyData}, (∀ d ∈ ds, NdA d) → noLA ds = true
  | [], _ => by simp [noLA]
  | d :: r, h => by rw [noLA, nd_noL (h d List.mem_cons_self), nds_noL fun e he => h e (List.mem_cons_of_mem _ he)]; rfl
theorem tup_noL {ds : List PyData} (h : ∀ d ∈ ds, NdA d) : noL (.tuple ds) = true := by rw [noL]; exact nds_noL h
theorem tab_put {K : PySem.W.Frag} {H : Hp} {p : Addr} {o : HO} {kvs : List (Key × V)} {t : Tab} (hp : notTup H p) (n : TabN t) (h : TabK K H kvs t) : TabK K (upd H p o) kvs t := TabK.mono (fun v ds hn hd => dp_put hp _ _ (tup_noL hn) hd) n h
theorem tab_same {K : PySem.W.Frag} {H H' : Hp} {kvs : List (Key × V)} {t : Tab} (s : Same H H') (n : TabN t) (h : TabK K H kvs t) : TabK K H' kvs t := TabK.mono (fun v ds _ hd => dp_same s _ _ hd) n h
section
variable {K : PySem.W.Frag} {H H' : Hp}
mutual
theorem dp_map (f : ∀ b xs, SqT K H b xs → SqT K H' b xs) : ∀ (d : PyData) (v : V), noL d = true → Dp K H v d → Dp K H' v d
  | .none, _, _, h => by cases h; exact .non
  | .bool b, _, _, h => by cases h; exact .bl b
  | .int i, _, _, h => by cases h; exact .int i
  | .str x, _, _, h => by cases h; exact .str x
  | .list ds, _, n, h => by simp [noL] at n
  | .tuple ds, _, n, h => by
    cases h with
    | tup g ha => exact .tup (f _ _ g) (dp_mapAll f ds _ (by simpa [noL] using n) ha)
  | .dict _, _, n, h => by cases h
theorem dp_mapAll (f : ∀ b xs, SqT K H b xs → SqT K H' b xs) : ∀ (ds : List PyData) (vs : List V), noLA ds = true → DpAll K H vs ds → DpAll K H' vs ds
  | [], _, _, h => by cases h; exact .nil
  | d :: ds, _, n, h => by
    rw [noLA, Bool.and_eq_true] at n
    cases h with
    | cons h1 h2 => exact .cons (dp_map f d _ n.1 h1) (dp_mapAll f ds _ n.2 h2)
end
theorem sqT_but {p b : Addr} {xs : List V} (hp : notTup H p) (hb : But p H H') (h : SqT K H b xs) : SqT K H' b xs := by
  rcases h with (h | ⟨q, h⟩) | h
  · exact .inl (.inl (hb _ _ (fun z => by rw [z] at h; rcases hp with ⟨_, hp⟩ | ⟨_, hp⟩ | ⟨_, _, hp⟩ <;> (rw [hp] at h; cases h)) h))
  · exact .inl (.inr ⟨q, hb _ _ (fun z => by rw [z] at h; rcases hp with ⟨_, hp⟩ | ⟨_, hp⟩ | ⟨_, _, hp⟩ <;> (rw [hp] at h; cases h)) h⟩)
  · exact .inr h
/-- draws change the stream alone -/
theorem dp_but {s l : Addr} {v : V} {ds : List PyData} (S : Stm H s l) (b : But s H H') (n : ∀ d ∈ ds, NdA d) (h : Dp K H v (.tuple ds)) : Dp K H' v (.tuple ds) := by
  obtain ⟨x, y, m, ns, e, _⟩ := S.ex
  exact dp_map (fun c xs g => sqT_but (.inl ⟨_, e⟩) b g) _ _ (tup_noL n) h
end
theorem TabK.rep {K : PySem.W.Frag} {H : Hp} {n : Int} {v : V} {ds : List PyData} (hd : Dp K H v (.tuple ds)) : ∀ {kvs : List (Key × V)} {t : Tab}, TabK K H kvs t → TabK K H (kvs.map fun kv => if kv.1 = Sum.inl n then (kv.1, v) else kv) (t.map fun q => if q.1 = n then (q.1, ds) else q)
  | [], [], _ => True.intro
  | [], _ :: _, h => h.elim
  | _ :: _, [], h => h.elim
  | p :: kvs, q :: t, h => by
    have i : p.1 = Sum.inl n ↔ q.1 = n := by rw [h.1]; exact ⟨fun z => Sum.inl.inj z, fun z => congrArg _ z⟩
    refine ⟨?_, ?_, TabK.rep hd h.2.2⟩
    · by_cases e : q.1 = n
      · simp only [if_pos e, if_pos (i.mpr e)]; exact h.1
      · simp only [if_neg e, if_neg (fun z => e (i.mp z))]; exact h.1
    · by_cases e : q.1 = n
      · simp only [if_pos e, if_pos (i.mpr e)]; exact hd
      · simp only [if_neg e, if_neg (fun z => e (i.mp z))]; exact h.2.1
theorem TabK.put {K : PySem.W.Frag} {H : Hp} {n : Int} {v : V} {ds : List PyData} (hd : Dp K H v (.tuple ds)) {kvs : List (Key × V)} {t : Tab} (h : TabK K H kvs t) : ∃ t', TabK K H (putK kvs (Sum.inl n) v) t' ∧ (∀ q ∈ t', q ∈ t ∨ q.2 = ds) ∧ t'.length ≤ t.length + 1 := by
  unfold putK
  split
  · refine ⟨_, TabK.rep hd h, fun q hq => ?_, by rw [List.length_map]; exact Nat.le_succ _⟩
    obtain ⟨q', h1, h2⟩ := List.mem_map.mp hq
    split at h2
    · right; rw [← h2]
    · left; rw [← h2]; exact h1
  · refine ⟨_, TabK.snoc hd h, fun q hq => ?_, by rw [List.length_append]; exact Nat.le_refl _⟩
    rcases List.mem_append.mp hq with z | z
    · exact .inl z
    · right; rw [List.mem_singleton.mp z]
theorem TabK.at_ {K : PySem.W.Frag} {H : Hp} : ∀ {kvs : List (Key × V)} {t : Tab} {i : Nat} {k : Key} {v : V}, TabK K H kvs t → kvs[i]? = some (k, v) → ∃ q, q ∈ t ∧ k = Sum.inl q.1
  | [], [], i, k, v, _, h => by simp at h
  | [], _ :: _, _, _, _, h, _ => h.elim
  | _ :: _, [], _, _, _, h, _ => h.elim
  | p :: kvs, q :: t, 0, k, v, h, e => by
    rw [List.getElem?_cons_zero] at e
    cases e
    exact ⟨q, List.mem_cons_self, h.1⟩
  | p :: kvs, q :: t, i + 1, k, v, h, e => by
    rw [List.getElem?_cons_succ] at e
    obtain ⟨q', h1, h2⟩ := TabK.at_ h.2.2 e
    exact ⟨q', List.mem_cons_of_mem _ h1, h2⟩
theorem valT_of {t : Tab} {q : Int × List PyData} (h : q ∈ t) : ∃ ds, valT t q.1 = some ds := by
  cases e : valT t q.1 with
  | some ds => exact ⟨ds, rfl⟩
  | none => exact absurd rfl (valT_none e q h)
theorem putK_old {kvs : List (Key × V)} {k : Key} {v w : V} (h : valV kvs k = some w) : putK kvs k v = kvs.map fun kv => if kv.1 = k then (kv.1, v) else kv := by
  unfold putK
  rw [if_pos (by rw [valV_any, h]; rfl)]
theorem valT_mem {t : Tab} {n : Int} {ds : List PyData} (h : valT t n = some ds) : ∃ q ∈ t, q.2 = ds := by
  unfold valT at h
  cases e : t.find? fun p => decide (p.1 = n) with
  | none => rw [e] at h; cases h
  | some p =>
    rw [e] at h
    exact ⟨p, List.mem_of_find?_eq_some e, Option.some.inj h⟩
/-- a dict comprehension over what is walked -/
theorem dc_it {J : It} {n : Nat} {G : Hp → Prop} {Y : Nat → Hp → V → Hp → Prop} (wk : Walk J n G Y) {g : TG} {tt : TT} {tk tv : TE} {vs : List Nat} {σ : L2.St} {H1 : Hp} {D : Addr} {Qd : Hp → Prop} (Pv : Nat → Hp → Prop) (p0 : Pv 0 (upd H1 D (.dK []))) (pG : ∀ i H, i ≤ n → Pv i H → G H)
    (turn : ∀ i x H H', i < n → Pv i H → Y i H x H' → g x (wipe σ vs) H' fun σ2 H2 => wipe σ2 vs = wipe σ vs ∧ tt σ2 H2 fun b H3 =>
      if b = true then tk σ2 H3 fun y H4 => tv σ2 H4 fun z H5 => ∃ kvs k, y = kV k ∧ H5 D = some (.dK kvs) ∧ kvs.length < sizeLine ∧ Pv (i + 1) (upd H5 D (.dK (putK kvs k z))) else Pv (i + 1) H3) (pd : ∀ H, Pv n H → Qd H) :
    ∃ W : Nat → Nat → Hp → Prop, (∃ m, W 0 m (upd H1 D (.dK []))) ∧ ∀ i m H, W i m H →
      (J.stop i H ∧ Qd H) ∨ (J.go i H ∧ ∃ Nx : Hp → Prop, (∀ H', Nx H' → ∃ m', m' < m ∧ W (i + 1) m' H') ∧ ∀ x H', J.yld i H x H' → g x (wipe σ vs) H' fun σ2 H2 => wipe σ2 vs = wipe σ vs ∧ tt σ2 H2 fun b H3 =>
        if b = true then tk σ2 H3 fun y H4 => tv σ2 H4 fun z H5 => ∃ kvs k, y = kV k ∧ H5 D = some (.dK kvs) ∧ kvs.length < sizeLine ∧ Nx (upd H5 D (.dK (putK kvs k z))) else Nx H3) := by
  refine ⟨fun i m H => m = n - i ∧ i ≤ n ∧ Pv i H, ⟨n, by simp, Nat.zero_le _, p0⟩, ?_⟩
  rintro i m H ⟨rfl, hi, hp⟩
  have hg := pG i H hi hp
  rcases Nat.lt_or_ge i n with hlt | hge
  · exact .inr ⟨wk.goes i H hlt hg, Pv (i + 1), fun σ' p' => ⟨n - (i + 1), by omega, rfl, hlt, p'⟩, fun x H' y => turn i x H H' hlt hp (wk.yields i H x H' hlt hg y)⟩
  · obtain rfl : i = n := by omega
    exact .inl ⟨wk.stops H hg, pd H hp⟩
theorem TabK.get {K : PySem.W.Frag} {H : Hp} : ∀ {kvs : List (Key × V)} {t : Tab} {i : Nat} {kv : Key × V}, TabK K H kvs t → kvs[i]? = some kv → ∃ q, t[i]? = some q ∧ kv.1 = Sum.inl q.1 ∧ Dp K H kv.2 (.tuple q.2)
  | [], [], i, kv, _, h => by simp at h
  | [], _ :: _, _, _, h, _ => h.elim
  | _ :: _, [], _, _, h, _ => h.elim
  | p :: kvs, q :: t, 0, kv, h, e => by
    rw [List.getElem?_cons_zero] at e
    cases e
    exact ⟨q, rfl, h.1, h.2.1⟩
  | p :: kvs, q :: t, i + 1, kv, h, e => by
    rw [List.getElem?_cons_succ] at e
    obtain ⟨q', h1, h2⟩ := TabK.get h.2.2 e
    exact ⟨q', by rw [List.getElem?_cons_succ]; exact h1, h2⟩
theorem valT_notin {t : Tab} {n : Int} (h : n ∉ t.map (·.1)) : valT t n = none := by
  unfold valT
  rw [Option.map_eq_none_iff, List.find?_eq_none]
  exact fun q hq e => h (List.mem_map.mpr ⟨q, hq, of_decide_eq_true e⟩)
theorem TabK.none {K : PySem.W.Frag} {H : Hp} {kvs : List (Key × V)} {t : Tab} {n : Int} (T : TabK K H kvs t) (h : n ∉ t.map (·.1)) : valV kvs (Sum.inl n) = Option.none := by
  rcases TabK.val n T with ⟨w, _⟩ | ⟨v, ds, _, w, _⟩
  · exact w
  · rw [valT_notin h] at w; cases w
theorem TabK.some {K : PySem.W.Frag} {H : Hp} {kvs : List (Key × V)} {t : Tab} {n : Int} (T : TabK K H kvs t) (h : n ∈ t.map (·.1)) : (valV kvs (Sum.inl n)).isSome = true := by
  obtain ⟨q, hq, rfl⟩ := List.mem_map.mp h
  rcases TabK.val q.1 T with ⟨_, w⟩ | ⟨v, ds, w, _, _⟩
  · exact absurd rfl (valT_none w q hq)
  · rw [w]; rfl
/-- a key that is new goes to the end -/
theorem TabK.add {K : PySem.W.Frag} {H : Hp} {kvs : List (Key × V)} {t : Tab} {n : Int} {v : V} {ds : List PyData} (T : TabK K H kvs t) (h : n ∉ t.map (·.1)) (hd : Dp K H v (.tuple ds)) : TabK K H (putK kvs (Sum.inl n) v) (t ++ [(n, ds)]) := by
  rw [putK_new _ (T.none h)]
  exact TabK.snoc hd T
/-- the i-th key is none of those before -/
theorem nodup_new {t : Tab} {i : Nat} {q : Int × List PyData} (h : (t.map (·.1)).Nodup) (hq : t[i]? = some q) : q.1 ∉ (t.take i).map (·.1) := by
  intro hm
  obtain ⟨x, hx, e⟩ := List.mem_map.mp hm
  obtain ⟨j, hj⟩ := List.getElem?_of_mem hx
  have hji : j < i := by
    have := (List.getElem?_eq_some_iff.mp hj).1
    rw [List.length_take] at this
    omega
  rw [List.getElem?_take_of_lt hji] at hj
  have a1 : (t.map (·.1))[j]? = some q.1 := by rw [List.getElem?_map, hj, ← e]; rfl
  have a2 : (t.map (·.1))[i]? = some q.1 := by rw [List.getElem?_map, hq]; rfl
  have b1 := (List.getElem?_eq_some_iff.mp a1).1
  have := (List.getElem?_inj b1 h).mp (a1.trans a2.symm)
  omega
/-! ### substitutions -/
def varN (n : Int) : List PyData := [.tuple [.str "v", .int n]]
def appN (t : Tab) (d : PyData) : List PyData := if isVarN d = true then (match valT t (numN d) with | some w => w | none => [d]) else [d]
def appM (t : Tab) (ds : List PyData) : List PyData := ds.flatMap (appN t)
/-- a value that is the key itself falls out -/
def keepN (n : Int) (w : List PyData) : Option (List PyData) := if PyData.eqv (.tuple w) (.tuple (varN n)) = true then none else some w
def compV (t u : Tab) (n : Int) : Option (List PyData) :=
  match valT t n with
  | some w => keepN n (appM u w)
  | none => (match valT u n with | some w => keepN n w | none => none)
theorem var_form {d : PyData} (h : NdA d) (v : isVarN d = true) : ∃ n, d = .tuple [.str "v", .int n] := by
  obtain ⟨wd, nd⟩ := h
  cases nd with
  | v n _ _ => exact ⟨n, rfl⟩
  | i n _ _ => cases v
  | f x n _ _ _ => cases v
theorem var_nd {n : Int} (h : 0 ≤ n) : ∀ d ∈ varN n, NdA d := fun d hd => ⟨n + 1, by rw [List.mem_singleton.mp hd]; exact .v n h (by omega)⟩
theorem valT_nd {t : Tab} {n : Int} {w : List PyData} (ht : TabN t) (h : valT t n = some w) : ∀ d ∈ w, NdA d := by
  obtain ⟨q, hq, e⟩ := valT_mem h
  rw [← e]
  exact ht q hq
theorem appN_nd {t : Tab} (ht : TabN t) {d : PyData} (hd : NdA d) : ∀ e ∈ appN t d, NdA e := by
  unfold appN
  by_cases v : isVarN d = true
  · rw [if_pos v]
    cases e : valT t (numN d) with
    | some w => exact valT_nd ht e
    | none => exact fun e he => by rw [List.mem_singleton.mp he]; exact hd
  · rw [if_neg v]
    exact fun e he => by rw [List.mem_singleton.mp he]; exact hd
theorem appM_nd {t : Tab} (ht : TabN t) {ds : List PyData} (hd : ∀ d ∈ ds, NdA d) : ∀ e ∈ appM t ds, NdA e := fun e he => by
  obtain ⟨d, h1, h2⟩ := List.mem_flatMap.mp he
  exact appN_nd ht (hd d h1) e h2
theorem var_num {d : PyData} (h : NdA d) (v : isVarN d = true) : ∃ n, 0 ≤ n ∧ d = .tuple [.str "v", .int n] := by
  obtain ⟨wd, nd⟩ := h
  cases nd with
  | v n h1 _ => exact ⟨n, h1, rfl⟩
  | i n _ _ => cases v
  | f x n _ _ _ => cases v
theorem comp_app {t u c : Tab} (nt : TabN t) (nu : TabN u) (hc : ∀ n, valT c n = compV t u n) {ds : List PyData} (nd : ∀ d ∈ ds, NdA d) : appM c ds = appM u (appM t ds) := by
  unfold appM
  rw [List.flatMap_assoc]
  have h : ∀ d ∈ ds, appN c d = (appN t d).flatMap (appN u) := by
    intro d hd
    by_cases v : isVarN d = true
    · obtain ⟨n, n0, rfl⟩ := var_num (nd d hd) v
      have e1 : ∀ s : Tab, appN s (.tuple [.str "v", .int n]) = (match valT s n with | some w => w | none => varN n) := fun s => by
        unfold appN
        rw [if_pos v]
        rfl
      rw [e1, e1, hc n]
      unfold compV
      cases ht : valT t n with
      | some w =>
        simp only
        unfold keepN
        by_cases hk : PyData.eqv (.tuple (appM u w)) (.tuple (varN n)) = true
        · rw [if_pos hk]
          exact (tup_eq (appM_nd nu (valT_nd nt ht)) (var_nd n0) hk).symm
        · rw [if_neg hk]
          rfl
      | none =>
        simp only
        have e2 : (varN n).flatMap (appN u) = (match valT u n with | some w => w | none => varN n) := by
          unfold varN
          rw [List.flatMap_cons, List.flatMap_nil, List.append_nil]
          exact e1 u
        rw [e2]
        cases hu : valT u n with
        | some w =>
          simp only
          unfold keepN
          by_cases hk : PyData.eqv (.tuple w) (.tuple (varN n)) = true
          · rw [if_pos hk]
            exact (tup_eq (valT_nd nu hu) (var_nd n0) hk).symm
          · rw [if_neg hk]
        | none => rfl
    · have e3 : ∀ s : Tab, appN s d = [d] := fun s => if_neg v
      rw [e3, e3, List.flatMap_cons, List.flatMap_nil, List.append_nil, e3]
  clear hc
  induction ds with
  | nil => rfl
  | cons d r ih =>
    rw [List.flatMap_cons, List.flatMap_cons, h d List.mem_cons_self, ih (fun x hx => nd x (List.mem_cons_of_mem _ hx)) fun x hx => h x (List.mem_cons_of_mem _ hx)]
theorem appM_take {t : Tab} {ds : List PyData} {i : Nat} {d : PyData} (h : ds[i]? = some d) : appM t (ds.take (i + 1)) = appM t (ds.take i) ++ appN t d := by
  unfold appM
  rw [List.take_add_one, h, List.flatMap_append]
  show _ ++ (appN t d ++ []) = _
  rw [List.append_nil]
theorem appN_non {t : Tab} {d : PyData} (v : ¬ isVarN d = true) : appN t d = [d] := if_neg v
theorem appN_out {t : Tab} {n : Int} (h : valT t n = none) : appN t (.tuple [.str "v", .int n]) = [.tuple [.str "v", .int n]] := by
  unfold appN
  rw [if_pos (show isVarN (.tuple [.str "v", .int n]) = true from rfl), show numN (.tuple [.str "v", .int n]) = n from rfl, h]
theorem appN_in {t : Tab} {n : Int} {w : List PyData} (h : valT t n = some w) : appN t (.tuple [.str "v", .int n]) = w := by
  unfold appN
  rw [if_pos (show isVarN (.tuple [.str "v", .int n]) = true from rfl), show numN (.tuple [.str "v", .int n]) = n from rfl, h]
/-- the composed table: the first one's values with the second applied, then what the second adds, without a key that is its own value -/
def comp1 (t u : Tab) : Tab := t.map fun x => (x.1, appM u x.2)
def newK (t : Tab) (x : Int × List PyData) : Bool := !(decide (x.1 ∈ t.map (·.1)))
def notOwn (x : Int × List PyData) : Bool := !PyData.eqv (.tuple x.2) (.tuple (varN x.1))
def compT (t u : Tab) : Tab := (comp1 t u ++ u.filter (newK t)).filter notOwn
theorem comp1_keys (t u : Tab) : (comp1 t u).map (·.1) = t.map (·.1) := by unfold comp1; rw [List.map_map]; rfl
theorem comp1_nd {t u : Tab} (ht : TabN t) (hu : TabN u) : TabN (comp1 t u) := fun x hx => by
  obtain ⟨q, h1, rfl⟩ := List.mem_map.mp hx
  exact appM_nd hu (ht q h1)
/-! ### defs with a star parameter -/
def starSp (n : Nat) (sp : Sp) : Sp := fun vs H Q E => ∃ ws rest, vs = ws ++ rest ∧ ws.length = n ∧ rest.length ≤ sizeLine ∧ ∀ p, H p = Option.none → sp (ws ++ [V.ref p]) (upd H p (.tup rest)) Q E
def HasR (P : Program) (w : World) (K : PySem.W.Frag) (mg : Str → Option Value) (base : Heap) (k : Nat) (x : Str) (n : Nat) (sp : Sp) : Prop :=
  ∃ (f : Addr), FnR P w K mg base (L2.CX P w) k f (starSp n sp) ∧ mg x = some (.ref f) ∧ PySem.W.keepIn K (.ref f) = true
theorem pe_callRS {X : Cx} {CX : CXT} {k : Nat} {f : Addr} {sp : Sp} {E : L2.St → XK} {x : Str} {p pos : Pos} {e : Expr} {es : List Expr} {t : TA} (F : FnR X.prog X.w X.K X.mg X.base CX k f sp) (hr : Room k X.A) (hg : Gl X x) (hm : X.mg x = some (.ref f)) (hk : PySem.W.keepIn X.K (.ref f) = true) (hx : ∀ σ, PassesAt CX X σ (E σ))
    (ha : PA X (e :: es) t) (hdb : (x == ("__debug__" : Str)) = false := by decide) (he : starEach (e :: es) X.env = (false, eval e X.env) :: starEach es X.env := by rfl) (hpl : (backTo pos (starEach es X.env)).any (·.1) = false := by rfl) :
    PE X (.Call (.Name x p) (e :: es) [] pos) (tCallS sp E t) := by
  refine ⟨fun pins s σ H Q I h => ?_⟩
  refine wpAny_Call_Name_kw (ld_glob I hg hm ?_ hdb)
  refine PySem.W.callWith_K (h₀ := X.base) I.ok.mod.kin hk (thn (ha.run pos pins s σ H _ I h) fun us s1 ⟨vs, H1, I1, r, q⟩ => ⟨I1.kIn, ?_⟩) he hpl
  refine wpAny_call (codeAny_mono (F X.A X.stack s1 H1 us vs Q (E σ) hr I1.env0 r q) fun r s' hq => ?_)
  cases r with
  | error e => exact hx σ pins H1 s1 e s' I1 hq
  | ok fl =>
    cases fl with
    | ret u => exact I1.after hq
    | next => exact False.elim hq
    | brk => exact False.elim hq
    | cont => exact False.elim hq
/-! ### the mathematics: what each def gives -/
def big : Int := 10000000000000000000000000000000000000000
def isInteger : PyData → Bool
  | .int _ => true | _ => false
def isBounded : PyData → Bool
  | .int i => decide ((if i < 0 then -i else i) < big) | _ => false
def okS2 (c : Nat) : Bool := (!decide ([c] < [32])) && (!decide ([126] < [c])) && (!decide ((c : Int) = 37))
def isName : PyData → Bool
  | .str x => decide ((1 : Int) ≤ x.length) && decide ((x.length : Int) ≤ 40) && x.cps.toList.all okS2 | _ => false
def isArity : PyData → Bool
  | .int i => decide (0 ≤ i) && decide (i ≤ 8) | _ => false
def geZ : PyData → Bool
  | .int i => decide (0 ≤ i) | _ => false
def isNode : PyData → Bool
  | .int i => isBounded (.int i)
  | .tuple [a, b] => a.eqv (.str "v") && isInteger b && geZ b
  | .tuple [a, b, c] => a.eqv (.str "f") && isName b && isArity c
  | _ => false
def isSym : PyData → Bool
  | .tuple [_, _, _] => true | _ => false
def arityOf : PyData → Int
  | .tuple [_, _, c] => (match c with | .int n => n | _ => 0) | _ => 0
/-- every part can be compared -/
def okD : PyData → Bool
  | .tuple ds => ds.all SeqAt.shaped && ds.all (fun d => match d with | .str x => decide (x.length ≤ 100) | _ => true) | _ => true
def termGo : Int → List PyData → Bool
  | m, [] => decide (m = 0)
  | m, d :: ds => if m = 0 ∨ isNode d = false then false else termGo (m + (arityOf d - 1)) ds
def isTerm : PyData → Bool
  | .tuple ds => termGo 1 ds | _ => false
def lawName : PyData → Bool
  | .str x => decide ((1 : Int) ≤ x.length) && decide ((x.length : Int) ≤ 40) && !decide (10 ∈ x.cps.toList) | _ => false
def lawArity : PyData → Int
  | .int i => if decide (-((10 : Int) ^ (40 : Int).toNat) < i) = true ∧ decide (i < (10 : Int) ^ (40 : Int).toNat) = true then 0 else -1
  | .tuple [a, b] => if (a.eqv (.str "v") = true ∧ isInteger b = true) ∧ geZ b = true then 0 else -1
  | .tuple [a, b, c] => if (a.eqv (.str "f") = true ∧ lawName b = true) ∧ isArity c = true then (match c with | .int n => n | _ => 0) else -1
  | _ => -1
/-! ### small facts -/
theorem tup_cases {d : PyData} (hn : isNode d = true) (ht : isT d = true) : (∃ a b, d = .tuple [a, b] ∧ a.eqv (.str "v") = true) ∨ ∃ a b c, d = .tuple [a, b, c] ∧ a.eqv (.str "f") = true ∧ isArity c = true := by
  cases d with
  | tuple ds =>
    rcases ds with _ | ⟨a, _ | ⟨b, _ | ⟨c, _ | ⟨e, r⟩⟩⟩⟩
    · exact absurd hn Bool.false_ne_true
    · exact absurd hn Bool.false_ne_true
    · have h : (a.eqv (.str "v") && isInteger b && geZ b) = true := hn
      simp only [Bool.and_eq_true] at h
      exact .inl ⟨a, b, rfl, h.1.1⟩
    · have h : (a.eqv (.str "f") && isName b && isArity c) = true := hn
      simp only [Bool.and_eq_true] at h
      exact .inr ⟨a, b, c, rfl, h.1.1, h.2⟩
    · exact absurd hn Bool.false_ne_true
  | _ => cases ht
theorem eqv_str {a : PyData} {z : Str} (h : a.eqv (.str z) = true) : a = .str z := by
  cases a with
  | str s =>
    have h3 : (s == z) = true := by simpa only [PyData.eqv] using h
    rw [beq_iff_eq.mp h3]
  | _ => simp only [PyData.eqv, Bool.false_eq_true] at h
theorem first_of {d : PyData} (hn : isNode d = true) (ht : isT d = true) : ∃ a r, ∃ s : Str, d = .tuple (a :: r) ∧ a = .str s ∧ isSym d = decide (V.str s = V.str "f") := by
  rcases tup_cases hn ht with ⟨a, b, rfl, h⟩ | ⟨a, b, c, rfl, h, _⟩
  · exact ⟨a, _, _, rfl, eqv_str h, (by decide +kernel : false = decide (V.str ("v" : Str) = V.str "f"))⟩
  · exact ⟨a, _, _, rfl, eqv_str h, (by decide +kernel : true = decide (V.str ("f" : Str) = V.str "f"))⟩
theorem third_of {d : PyData} (hn : isNode d = true) (hs : isSym d = true) : ∃ a b n, d = .tuple [a, b, .int n] := by
  have ht : isT d = true := by cases d <;> first | rfl | cases hs
  rcases tup_cases hn ht with ⟨a, b, rfl, h⟩ | ⟨a, b, c, rfl, h, h2⟩
  · cases hs
  · obtain ⟨n, rfl⟩ : ∃ n, c = .int n := by
      cases c <;> first | exact ⟨_, rfl⟩ | cases h2
    exact ⟨_, _, _, rfl⟩
theorem arity0 {d : PyData} (hs : ¬ isSym d = true) : arityOf d = 0 := by
  match d with
  | .tuple [_, _, _] => exact absurd rfl hs
  | .none => rfl
  | .bool _ => rfl
  | .int _ => rfl
  | .str _ => rfl
  | .list _ => rfl
  | .dict _ => rfl
  | .tuple [] => rfl
  | .tuple [_] => rfl
  | .tuple [_, _] => rfl
  | .tuple (_ :: _ :: _ :: _ :: _) => rfl
theorem okD_at {ds : List PyData} {i : Nat} {d : PyData} (h : okD (.tuple ds) = true) (e : ds[i]? = some d) : SeqAt.shaped d = true := by
  have h2 : (ds.all SeqAt.shaped && ds.all (fun d => match d with | .str x => decide (x.length ≤ 100) | _ => true)) = true := h
  rw [Bool.and_eq_true] at h2
  exact List.all_eq_true.mp h2.1 d (List.mem_of_getElem? e)
theorem okD_str {ds : List PyData} {i : Nat} {d : PyData} (h : okD (.tuple ds) = true) (e : ds[i]? = some d) : ∀ z, d = .str z → z.length ≤ 100 := by
  have h2 : (ds.all SeqAt.shaped && ds.all (fun d => match d with | .str x => decide (x.length ≤ 100) | _ => true)) = true := h
  rw [Bool.and_eq_true] at h2
  have h3 := List.all_eq_true.mp h2.2 d (List.mem_of_getElem? e)
  intro z ez
  subst ez
  exact of_decide_eq_true h3
def sp_is_integer (K : PySem.W.Frag) : Sp := fun vs H Q _ => ∃ (x : V) (d : PyData), vs = [x] ∧ Dp K H x d ∧ Q (.bl (isInteger d)) H
def sp_is_bounded (K : PySem.W.Frag) : Sp := fun vs H Q _ => ∃ (x : V) (d : PyData), vs = [x] ∧ Dp K H x d ∧ Q (.bl (isBounded d)) H
def sp_is_name (K : PySem.W.Frag) : Sp := fun vs H Q _ => ∃ (x : V) (d : PyData), vs = [x] ∧ Dp K H x d ∧ (∀ z, d = .str z → z.length ≤ 2000) ∧ ∀ H', Same H H' → Q (.bl (isName d)) H'
def sp_is_arity (K : PySem.W.Frag) : Sp := fun vs H Q _ => ∃ (x : V) (d : PyData), vs = [x] ∧ Dp K H x d ∧ Q (.bl (isArity d)) H
def sp_is_symbol (K : PySem.W.Frag) : Sp := fun vs H Q _ => ∃ (x : V) (d : PyData), vs = [x] ∧ Dp K H x d ∧ isNode d = true ∧ Q (.bl (isSym d)) H
def sp_arity_of (K : PySem.W.Frag) : Sp := fun vs H Q _ => ∃ (x : V) (d : PyData), vs = [x] ∧ Dp K H x d ∧ isNode d = true ∧ Q (.int (arityOf d)) H
def sp_is_node (K : PySem.W.Frag) : Sp := fun vs H Q _ => ∃ (x : V) (d : PyData), vs = [x] ∧ Dp K H x d ∧ okD d = true ∧ ∀ H', Same H H' → Q (.bl (isNode d)) H'
def sp_is_term (K : PySem.W.Frag) : Sp := fun vs H Q _ => ∃ (x : V) (d : PyData), vs = [x] ∧ Dp K H x d ∧ (∀ ds, d = .tuple ds → ∀ e ∈ ds, okD e = true) ∧ ∀ H', Same H H' → Q (.bl (isTerm d)) H'
theorem small9k {n : Nat} (h : n ≤ 9000) : n < sizeLine := Nat.lt_of_le_of_lt h (by decide)
theorem okS2_of {c : Nat} (h : okSign c = true) : okS2 c = true := by
  unfold okSign at h
  simp only [Bool.and_eq_true, decide_eq_true_eq, Bool.not_eq_true', decide_eq_false_iff_not] at h
  obtain ⟨⟨h1, h2⟩, h3⟩ := h
  unfold okS2
  have e1 : ¬ ([c] < [32]) := fun z => by
    rw [List.cons_lt_cons_iff] at z
    rcases z with z | ⟨_, z⟩
    · omega
    · exact absurd z (by simp)
  have e2 : ¬ ([126] < [c]) := fun z => by
    rw [List.cons_lt_cons_iff] at z
    rcases z with z | ⟨_, z⟩
    · omega
    · exact absurd z (by simp)
  have e3 : ¬ ((c : Int) = 37) := by omega
  rw [decide_eq_false e1, decide_eq_false e2, decide_eq_false e3]
  rfl
theorem isName_ok {x : Str} (h : okName x = true) : isName (.str x) = true := by
  unfold okName at h
  simp only [Bool.and_eq_true, decide_eq_true_eq] at h
  obtain ⟨⟨h1, h2⟩, h3⟩ := h
  show (decide ((1 : Int) ≤ x.length) && decide ((x.length : Int) ≤ 40) && x.cps.toList.all okS2) = true
  rw [decide_eq_true (by omega), decide_eq_true (by omega), List.all_eq_true.mpr fun c hc => okS2_of (List.all_eq_true.mp h3 c hc)]
  rfl
theorem nd_isNode {d : PyData} (h : NdA d) : isNode d = true := by
  obtain ⟨wd, h⟩ := h
  cases h with
  | v n h1 h2 =>
    show ((PyData.str "v").eqv (.str "v") && true && decide (0 ≤ n)) = true
    rw [decide_eq_true h1, show (PyData.str "v").eqv (.str "v") = true by decide +kernel]
    rfl
  | i n h1 h2 =>
    show decide ((if n < 0 then -n else n) < big) = true
    unfold big
    refine decide_eq_true ?_
    split <;> omega
  | f x n h1 h2 h3 =>
    show ((PyData.str "f").eqv (.str "f") && isName (.str x) && (decide (0 ≤ n) && decide (n ≤ 8))) = true
    rw [isName_ok h1, decide_eq_true h2, decide_eq_true h3, show (PyData.str "f").eqv (.str "f") = true by decide +kernel]
    rfl
theorem nd_ar {d : PyData} (h : NdA d) : arityOf d = (arN d : Int) := by
  obtain ⟨wd, h⟩ := h
  cases h with
  | v n h1 h2 => rfl
  | i n h1 h2 => rfl
  | f x n h1 h2 h3 =>
    show n = ((n.toNat : Nat) : Int)
    omega
theorem go_cls : ∀ {ds : List PyData} {m : Nat}, (∀ d ∈ ds, NdA d) → Cls m ds → termGo (m : Int) ds = true
  | [], m, _, h => by
    have h : m = 0 := h
    subst h
    exact decide_eq_true rfl
  | d :: ds, m, hn, h => by
    have hd := hn d List.mem_cons_self
    unfold termGo
    rw [if_neg (by
      rintro (z | z)
      · have := h.1; omega
      · rw [nd_isNode hd] at z; cases z)]
    rw [nd_ar hd, show (m : Int) + ((arN d : Int) - 1) = ((m - 1 + arN d : Nat) : Int) by have := h.1; omega]
    exact go_cls (fun e he => hn e (List.mem_cons_of_mem _ he)) h.2
theorem tk_row : ∀ {row rest : List PyData} {m : Nat}, Cls m row → tk m (row ++ rest) = row.length
  | [], rest, m, h => by
    have h : m = 0 := h
    subst h
    rw [List.nil_append, tk_zero]
    rfl
  | d :: row, rest, m, h => by
    rw [List.cons_append, tk_cons h.1, tk_row h.2, List.length_cons]
    omega
theorem nopart_of {σ : L2.St} {H : Hp} {Q : Option Int → Hp → Prop} (h : Q Option.none H) : tNoPart σ H Q := h
theorem rows_cls : ∀ {rows : List (List PyData)} {rest : List (List PyData)} {row : List PyData}, (∀ r ∈ row :: rest, Cls 1 r ∧ ∀ d ∈ r, NdA d) → Cls (rest.length + 1) ((row :: rest).flatten)
  | rows, [], row, h => by
    rw [List.flatten_cons, List.flatten_nil, List.append_nil]
    exact (h row List.mem_cons_self).1
  | rows, r :: rest, row, h => by
    rw [List.flatten_cons]
    have ih := rows_cls (rows := rows) (rest := rest) (row := r) fun x hx => h x (List.mem_cons_of_mem _ hx)
    have := cls_app row _ 1 (rest.length + 1) (h row List.mem_cons_self).1 ih
    rw [show (r :: rest).length + 1 = 1 + (rest.length + 1) by rw [List.length_cons]; omega]
    exact this
/-! ### building -/
def elems : PyData → List PyData
  | .tuple es => es | _ => []
def btC (K : PySem.W.Frag) : Value := .ref (clsA K "BadTerm")
def okT (d : PyData) : Prop := ∀ es, d = .tuple es → ∀ e ∈ es, okD e = true
def compG (x : Str) (ds : List PyData) : Bool := isName (.str x) && (decide ((1 : Int) ≤ (ds.length : Int)) && decide ((ds.length : Int) ≤ 8)) && ds.all isTerm
def compD (x : Str) (ds : List PyData) : PyData := .tuple (.tuple [.str "f", .str x, .int (ds.length : Int)] :: ds.flatMap elems)
def goodN (x : Str) : Bool := decide ((1 : Int) ≤ x.length) && decide ((x.length : Int) ≤ 40) && !decide (10 ∈ x.cps.toList)
def Rws (K : PySem.W.Frag) (H : Hp) (vs : List V) (ds : List PyData) : Prop := DpAll K H vs ds ∧ (∀ d ∈ ds, okT d) ∧ ds.length ≤ 9 ∧ ∀ i, ((ds.take i).flatMap elems).length ≤ 500
def builtD (w : Int) (x : Str) (n : Int) (ds : List PyData) : PyData :=
  if w = 0 then (if 0 ≤ n then .tuple [.tuple [.str "v", .int n]] else .none)
  else if w = 1 then (if isBounded (.int n) = true then .tuple [.int n] else .none)
  else if w = 2 then (if isName (.str x) = true then .tuple [.tuple [.str "f", .str x, .int 0]] else .none)
  else if compG x ds = true then compD x ds else .none
def sp_end_of (K : PySem.W.Frag) : Sp := fun vs H Q _ => ∃ (x : V) (ds : List PyData) (i k : Nat), vs = [x, .int i] ∧ Dp K H x (.tuple ds) ∧ (∀ d ∈ ds, NdA d) ∧ Cls (k + 1) (ds.drop i) ∧ Q (.int ((i + tk 1 (ds.drop i) : Nat) : Int)) H
def sp_variable (K : PySem.W.Frag) : Sp := fun vs H Q E => ∃ n : Int, vs = [.int n] ∧ (0 ≤ n → ∀ v H', Same H H' → Dp K H' v (.tuple [.tuple [.str "v", .int n]]) → Q v H') ∧ (¬ 0 ≤ n → ∀ H', Same H H' → E (btC K) Option.none H')
def sp_integer (K : PySem.W.Frag) : Sp := fun vs H Q E => ∃ n : Int, vs = [.int n] ∧ (isBounded (.int n) = true → ∀ v H', Same H H' → Dp K H' v (.tuple [.int n]) → Q v H') ∧ (¬ isBounded (.int n) = true → ∀ H', Same H H' → E (btC K) Option.none H')
def sp_atom (K : PySem.W.Frag) : Sp := fun vs H Q E => ∃ x : Str, vs = [.str x] ∧ x.length ≤ 2000 ∧ (isName (.str x) = true → ∀ v H', Same H H' → Dp K H' v (.tuple [.tuple [.str "f", .str x, .int 0]]) → Q v H') ∧ (¬ isName (.str x) = true → ∀ H', Same H H' → E (btC K) Option.none H')
def QComp (K : PySem.W.Frag) (H : Hp) (x : Str) (ds : List PyData) (Q : VK) (E : XK) : Prop := (compG x ds = true → ∀ v H', Same H H' → Dp K H' v (compD x ds) → Q v H') ∧ (¬ compG x ds = true → ∀ H', Same H H' → E (btC K) Option.none H')
def sp_compound (K : PySem.W.Frag) : Sp := fun vs H Q E => ∃ (x : Str) (p : Addr) (rs : List V) (ds : List PyData), vs = [.str x, .ref p] ∧ x.length ≤ 2000 ∧ SqT K H p rs ∧ Rws K H rs ds ∧ QComp K H x ds Q E
def sp__law_good_name (K : PySem.W.Frag) : Sp := fun vs H Q _ => ∃ x : Str, vs = [.str x] ∧ x.length ≤ 2000 ∧ Q (.bl (goodN x)) H
def sp__law_compound (K : PySem.W.Frag) : Sp := fun vs H Q E => ∃ (x : Str) (r : Addr) (rs : List V) (ds : List PyData), vs = [.str x, .ref r] ∧ x.length ≤ 2000 ∧ H r = some (.lst rs) ∧ Rws K H rs ds ∧ QComp K H x ds Q E
def sp__law_built (K : PySem.W.Frag) : Sp := fun vs H Q _ => ∃ (w : Int) (x : Str) (n : Int) (r : Addr) (rs : List V) (ds : List PyData), vs = [.int w, .str x, .int n, .ref r] ∧ x.length ≤ 2000 ∧ H r = some (.lst rs) ∧ Rws K H rs ds ∧ ∀ v H', Same H H' → Dp K H' v (builtD w x n ds) → Q v H'
def sp_parts (K : PySem.W.Frag) : Sp := fun vs H Q _ => ∃ (x : V) (d0 : PyData) (rows : List (List PyData)), vs = [x] ∧ Dp K H x (.tuple (d0 :: rows.flatten)) ∧ NdA d0 ∧ (∀ row ∈ rows, Cls 1 row ∧ ∀ d ∈ row, NdA d) ∧ rows.length ≤ 9 ∧ rows.flatten.length ≤ 900 ∧ ∀ r ys H', Same H H' → H r = Option.none → H' r = some (.lst ys) → DpAll K H' ys (rows.map PyData.tuple) → Q (.ref r) H'
def sp_law (K : PySem.W.Frag) : Sp := fun vs H Q _ => ∃ (a : Addr) (ns : List Int), vs = [.ref a] ∧ SqL K H a (ns.map V.int) ∧ ns.length ≤ 63 ∧ ∀ H', Q (.bl true) H'
/-! ### the law -/
def Chars (x : Str) : Prop := ∀ c ∈ x.cps.toList, okSign c = true ∨ c = 10
theorem foldl_app {α : Type} (a : Array α) : ∀ (k : Nat) (acc : Array α), ((List.replicate k a).foldl (· ++ ·) acc).toList.length = acc.toList.length + k * a.toList.length ∧ ∀ c ∈ ((List.replicate k a).foldl (· ++ ·) acc).toList, c ∈ acc.toList ∨ c ∈ a.toList
  | 0, acc => ⟨by simp, fun c hc => .inl hc⟩
  | k + 1, acc => by
    rw [List.replicate_succ, List.foldl_cons]
    obtain ⟨h1, h2⟩ := foldl_app a k (acc ++ a)
    refine ⟨?_, fun c hc => ?_⟩
    · rw [h1, Array.toList_append, List.length_append, Nat.succ_mul]
      omega
    · rcases h2 c hc with z | z
      · rw [Array.toList_append] at z
        exact List.mem_append.mp z
      · exact .inr z
theorem str_len (x : Str) : x.length = x.cps.toList.length := rfl
theorem mul_facts {x : Str} {n : Int} (hx : x.length ≤ 40) (h : Chars x) (n0 : 0 ≤ n) (n1 : n < 45) : (Txt.mul x n).length ≤ 1760 ∧ Chars (Txt.mul x n) := by
  unfold Txt.mul
  by_cases e : n < 1
  · rw [if_pos e]
    exact ⟨Nat.zero_le _, fun c hc => nomatch hc⟩
  · rw [if_neg e]
    by_cases e2 : (n == 1 || x.length == 0) = true
    · rw [if_pos e2]
      exact ⟨by omega, h⟩
    · rw [if_neg e2]
      obtain ⟨h1, h2⟩ := foldl_app x.cps n.toNat #[]
      refine ⟨?_, fun c hc => ?_⟩
      · refine Nat.le_trans (Nat.le_of_eq h1) ?_
        have : n.toNat * x.cps.toList.length ≤ 44 * 40 := Nat.mul_le_mul (by omega) hx
        show 0 + n.toNat * x.cps.toList.length ≤ 1760
        omega
      · rcases h2 c hc with z | z
        · cases z
        · exact h c z
theorem mul_ok {x : Str} {n : Int} (hx : x.length ≤ 40) (n0 : 0 ≤ n) (n1 : n < 45) : MulOk x n := by
  refine ⟨?_, fun h1 _ => ?_, fun h1 _ => ?_⟩
  · rw [decide_eq_false (by omega), decide_eq_false (by omega)]
    rfl
  · have : (40 : Int) ≤ (2 ^ 63 - 1) / n := Int.le_ediv_of_mul_le (by omega) (by omega)
    omega
  · have : x.length * n.toNat ≤ 40 * 44 := Nat.mul_le_mul hx (by omega)
    have h2 := small9k (n := x.length * n.toNat) (by omega)
    show decide (x.length * n.toNat > sizeLine) = false
    exact decide_eq_false (by omega)
theorem chars_nl {x : Str} (h : Chars x) : Chars (x ++ Str.ofString "\n") := fun c hc => by
  have hc : c ∈ (x.cps ++ (Str.ofString "\n").cps).toList := hc
  rw [Array.toList_append] at hc
  rcases List.mem_append.mp hc with z | z
  · exact h c z
  · rw [show (Str.ofString "\n").cps.toList = [10] by decide +kernel] at z
    exact .inr (List.mem_singleton.mp z)
theorem len_nl (x : Str) : (x ++ Str.ofString "\n").length = x.length + 1 := by
  show (x.cps ++ (Str.ofString "\n").cps).size = _
  rw [Array.size_append]
  rfl
theorem okS2_nl : okS2 10 = false := by decide +kernel
theorem isName_good {x : Str} (h : Chars x) : isName (.str x) = goodN x := by
  show (decide ((1 : Int) ≤ x.length) && decide ((x.length : Int) ≤ 40) && x.cps.toList.all okS2) = (decide ((1 : Int) ≤ x.length) && decide ((x.length : Int) ≤ 40) && !decide (10 ∈ x.cps.toList))
  congr 1
  by_cases e : 10 ∈ x.cps.toList
  · rw [decide_eq_true e]
    cases ha : x.cps.toList.all okS2 with
    | false => rfl
    | true =>
      have := List.all_eq_true.mp ha 10 e
      rw [okS2_nl] at this
      cases this
  · rw [decide_eq_false e]
    refine List.all_eq_true.mpr fun c hc => ?_
    rcases h c hc with z | z
    · exact okS2_of z
    · rw [z] at hc
      exact absurd hc e
theorem chars_ok {x : Str} (h : okName x = true) : Chars x ∧ x.length ≤ 40 := by
  unfold okName at h
  simp only [Bool.and_eq_true, decide_eq_true_eq] at h
  exact ⟨fun c hc => .inl (List.all_eq_true.mp h.2 c hc), h.1.2⟩
def bads : List PyData := [.tuple [.tuple [.str "f", .str "a", .int 2], .int 1], .tuple [.int 1, .int 2], .tuple [.tuple [.int 3]], .tuple [.tuple [.str "v", .int (-1)]], .tuple [.int (10 ^ (40 : Int).toNat)], .int 7, .none, .tuple [], .list [.int 0]]
def badOk (d : PyData) : Bool := (!isTerm d) && (elems d).all okD && decide ((elems d).length ≤ 2)
theorem bads_ok : bads.all badOk = true := by decide +kernel
theorem bad_facts {d : PyData} (h : d ∈ bads) : isTerm d = false ∧ okT d ∧ (elems d).length ≤ 2 := by
  have h := List.all_eq_true.mp bads_ok d h
  unfold badOk at h
  simp only [Bool.and_eq_true, Bool.not_eq_true', decide_eq_true_eq] at h
  exact ⟨h.1.1, fun es e x hx => by rw [e] at h; exact List.all_eq_true.mp h.1.2 x hx, h.2⟩
theorem nd_okD {d : PyData} (h : NdA d) : okD d = true := by
  obtain ⟨wd, h⟩ := h
  cases h with
  | v n h1 h2 =>
    simp only [okD, List.all_cons, List.all_nil, Bool.and_true]
    rw [show SeqAt.shaped (PyData.str (Str.ofString "v")) = true by decide +kernel, show decide ((Str.ofString "v").length ≤ 100) = true by decide +kernel]
    rfl
  | i n h1 h2 => rfl
  | f x n h1 h2 h3 =>
    simp only [okD, List.all_cons, List.all_nil, Bool.and_true]
    have hs : SeqAt.shaped (PyData.str x) = true := by
      show ((PyData.str x).canLay0 && decide ((PyData.str x).depth ≤ 64)) = true
      rw [show (PyData.str x).canLay0 = true from okName_cps h1]
      rfl
    rw [hs, show SeqAt.shaped (PyData.str (Str.ofString "f")) = true by decide +kernel, show decide ((Str.ofString "f").length ≤ 100) = true by decide +kernel, decide_eq_true (show x.length ≤ 100 by have := (chars_ok h1).2; omega)]
    rfl
structure RowsG (m : Int) (g : Bool) (ds : List PyData) : Prop where
  len : (ds.length : Int) = m
  ok : ∀ d ∈ ds, okT d
  el : ∀ d ∈ ds, (elems d).length ≤ 9
  m9 : m ≤ 9
  yes : g = true → (1 ≤ m ∧ m ≤ 8) ∧ ∃ rows : List (List PyData), ds = rows.map PyData.tuple ∧ ∀ row ∈ rows, Cls 1 row ∧ ∀ d ∈ row, NdA d
  no : g = false → ∀ x, compG x ds = false
def du (w : Int) (x : Str) (n : Int) (g : Bool) (ds : List PyData) : PyData :=
  if w = 0 then (if 0 ≤ n then .tuple [.tuple [.str "v", .int n]] else .none)
  else if w = 1 then (if isBounded (.int n) = true then .tuple [.int n] else .none)
  else if w = 2 then (if goodN x = true then .tuple [.tuple [.str "f", .str x, .int 0]] else .none)
  else if (goodN x && g) = true then compD x ds else .none
theorem rows_term {rows : List (List PyData)} (h : ∀ row ∈ rows, Cls 1 row ∧ ∀ d ∈ row, NdA d) : (rows.map PyData.tuple).all isTerm = true := by
  refine List.all_eq_true.mpr fun d hd => ?_
  obtain ⟨row, h1, rfl⟩ := List.mem_map.mp hd
  exact go_cls (m := 1) (h row h1).2 (h row h1).1
theorem rows_elems (rows : List (List PyData)) : (rows.map PyData.tuple).flatMap elems = rows.flatten := by
  induction rows with
  | nil => rfl
  | cons r rows ih => rw [List.map_cons, List.flatMap_cons, ih]; rfl
theorem du_built {w : Int} {x : Str} {n m : Int} {g : Bool} {ds : List PyData} (hx : Chars x) (R : RowsG m g ds) : builtD w x n ds = du w x n g ds := by
  unfold builtD du
  rw [isName_good hx]
  have e : compG x ds = (goodN x && g) := by
    cases g with
    | true =>
      obtain ⟨⟨h1, h2⟩, rows, rfl, hr⟩ := R.yes rfl
      have hlen := R.len
      show (isName (.str x) && (decide ((1 : Int) ≤ ((rows.map PyData.tuple).length : Int)) && decide (((rows.map PyData.tuple).length : Int) ≤ 8)) && (rows.map PyData.tuple).all isTerm) = _
      rw [rows_term hr, decide_eq_true (by omega), decide_eq_true (by omega), isName_good hx]
      simp
    | false => rw [R.no rfl, Bool.and_false]
  rw [e]
/-- what is due: nothing, or a term with its parts -/
inductive Due (w m : Int) (ds : List PyData) : PyData → Prop
  | no : Due w m ds .none
  | yes (d0 : PyData) (rows : List (List PyData)) : NdA d0 → arN d0 = rows.length → (∀ row ∈ rows, Cls 1 row ∧ ∀ d ∈ row, NdA d) → rows.length ≤ 9 → rows.flatten.length ≤ 100 → (w < 3 → rows = []) → (¬ w < 3 → ds = rows.map PyData.tuple ∧ (rows.length : Int) = m) → Due w m ds (.tuple (d0 :: rows.flatten))
theorem good_len {x : Str} (h : goodN x = true) : 1 ≤ x.length ∧ x.length ≤ 40 := by
  unfold goodN at h
  simp only [Bool.and_eq_true, decide_eq_true_eq] at h
  omega
theorem good_ok {x : Str} (hx : Chars x) (h : goodN x = true) : okName x = true := by
  have hl := good_len h
  unfold goodN at h
  simp only [Bool.and_eq_true, Bool.not_eq_true', decide_eq_false_iff_not] at h
  unfold okName
  rw [decide_eq_true hl.1, decide_eq_true hl.2, List.all_eq_true.mpr fun c hc => (hx c hc).elim id fun z => by rw [z] at hc; exact absurd hc h.2]
  rfl
theorem rows_len : ∀ {rows : List (List PyData)}, (∀ d ∈ rows.map PyData.tuple, (elems d).length ≤ 9) → rows.flatten.length ≤ 9 * rows.length
  | [], _ => Nat.le_refl 0
  | r :: rows, h => by
    have h1 := h (.tuple r) List.mem_cons_self
    have h2 := rows_len (rows := rows) fun d hd => h d (List.mem_cons_of_mem _ hd)
    rw [List.flatten_cons, List.length_append, List.length_cons]
    have h1 : r.length ≤ 9 := h1
    omega
theorem due_of {w : Int} {x : Str} {n m : Int} {g : Bool} {ds : List PyData} (hx : Chars x) (R : RowsG m g ds) (w1 : w < 4) (w0 : 0 ≤ w) : Due w m ds (du w x n g ds) := by
  unfold du
  by_cases e0 : w = 0
  · rw [if_pos e0]
    by_cases h : 0 ≤ n
    · rw [if_pos h]
      exact .yes (.tuple [.str "v", .int n]) [] ⟨n + 1, .v n h (by omega)⟩ rfl (fun _ h => nomatch h) (by decide) (by decide) (fun _ => rfl) fun z => by omega
    · rw [if_neg h]; exact .no
  rw [if_neg e0]
  by_cases e1 : w = 1
  · rw [if_pos e1]
    by_cases h : isBounded (.int n) = true
    · rw [if_pos h]
      have h := of_decide_eq_true (show decide ((if n < 0 then -n else n) < big) = true from h)
      unfold big at h
      exact .yes (.int n) [] ⟨0, .i n (by split at h <;> omega) (by split at h <;> omega)⟩ rfl (fun _ h => nomatch h) (by decide) (by decide) (fun _ => rfl) fun z => by omega
    · rw [if_neg h]; exact .no
  rw [if_neg e1]
  by_cases e2 : w = 2
  · rw [if_pos e2]
    by_cases h : goodN x = true
    · rw [if_pos h]
      exact .yes (.tuple [.str "f", .str x, .int 0]) [] ⟨0, .f x 0 (good_ok hx h) (by decide) (by decide)⟩ rfl (fun _ h => nomatch h) (by decide) (by decide) (fun _ => rfl) fun z => by omega
    · rw [if_neg h]; exact .no
  rw [if_neg e2]
  by_cases h : (goodN x && g) = true
  · rw [if_pos h]
    rw [Bool.and_eq_true] at h
    obtain ⟨⟨h1, h2⟩, rows, rfl, hr⟩ := R.yes h.2
    have hlen := R.len
    rw [List.length_map] at hlen
    have hl := rows_len R.el
    unfold compD
    rw [rows_elems, List.length_map]
    exact .yes (.tuple [.str "f", .str x, .int (rows.length : Int)]) rows ⟨0, .f x _ (good_ok hx h.1) (by omega) (by omega)⟩ rfl hr (by omega) (by omega) (fun z => by omega) fun _ => ⟨rfl, hlen⟩
  · rw [if_neg h]; exact .no
theorem due_cls {d0 : PyData} {rows : List (List PyData)} (n0 : NdA d0) (ha : arN d0 = rows.length) (h : ∀ row ∈ rows, Cls 1 row ∧ ∀ d ∈ row, NdA d) : Cls 1 (d0 :: rows.flatten) ∧ ∀ d ∈ d0 :: rows.flatten, NdA d := by
  refine ⟨⟨by decide, ?_⟩, fun d hd => ?_⟩
  · rw [ha]
    cases rows with
    | nil => rfl
    | cons r rs =>
      have := rows_cls (rows := rs) (rest := rs) (row := r) h
      rw [show 1 - 1 + (r :: rs).length = rs.length + 1 by rw [List.length_cons]; omega]
      exact this
  · rcases List.mem_cons.mp hd with z | z
    · rw [z]; exact n0
    · obtain ⟨row, h1, h2⟩ := List.mem_flatten.mp z
      exact (h row h1).2 d h2
theorem go_more : ∀ {ds es : List PyData} {m : Nat}, (∀ d ∈ ds, NdA d) → Cls m ds → es ≠ [] → termGo (m : Int) (ds ++ es) = false
  | [], es, m, _, h, he => by
    have h : m = 0 := h
    subst h
    cases es with
    | nil => exact absurd rfl he
    | cons e es =>
      rw [List.nil_append]
      unfold termGo
      rw [if_pos (.inl rfl)]
  | d :: ds, es, m, hn, h, he => by
    have hd := hn d List.mem_cons_self
    rw [List.cons_append]
    unfold termGo
    rw [if_neg (by
      rintro (z | z)
      · have := h.1; omega
      · rw [nd_isNode hd] at z; cases z)]
    rw [nd_ar hd, show (m : Int) + ((arN d : Int) - 1) = ((m - 1 + arN d : Nat) : Int) by have := h.1; omega]
    exact go_more (fun e he => hn e (List.mem_cons_of_mem _ he)) h.2 he
theorem due_shaped {w m : Int} {ds : List PyData} {d : PyData} (h : Due w m ds d) : SeqAt.shaped d = true ∧ d.eqv d = true := by
  cases h with
  | no => exact ⟨rfl, by simp [PyData.eqv]⟩
  | yes d0 rows n0 ha hr _ _ _ _ =>
    obtain ⟨_, hn⟩ := due_cls n0 ha hr
    exact ⟨tup_shaped hn, tup_eqv hn⟩
theorem ix_at {k : Nat} {y : Int} (h0 : 0 ≤ y) (h1 : y < (k : Int)) : ixN k y = some y.toNat := by
  unfold ixN
  rw [if_pos h0, if_pos h1]
theorem dp_set {K : PySem.W.Frag} {H : Hp} : ∀ {xs : List V} {ds : List PyData} {j : Nat} {v : V} {d : PyData}, DpAll K H xs ds → Dp K H v d → DpAll K H (xs.set j v) (ds.set j d)
  | _, _, _, _, _, .nil, _ => .nil
  | _, _, 0, _, _, .cons _ t, hd => .cons hd t
  | _, _, j + 1, _, _, .cons h t, hd => .cons h (dp_set t hd)
theorem rows_bad {m : Int} {g : Bool} {ds : List PyData} {bd : PyData} {j : Nat} (R : RowsG m g ds) (hj : j < ds.length) (hb : bd ∈ bads) : RowsG m false (ds.set j bd) := by
  obtain ⟨b1, b2, b3⟩ := bad_facts hb
  have hm : bd ∈ ds.set j bd := List.mem_of_getElem? (i := j) (by rw [List.getElem?_set_self hj])
  refine ⟨by rw [List.length_set]; exact R.len, fun d hd => ?_, fun d hd => ?_, R.m9, fun z => (nomatch z), fun _ x => ?_⟩
  · rcases List.mem_or_eq_of_mem_set hd with z | z
    · exact R.ok d z
    · rw [z]; exact b2
  · rcases List.mem_or_eq_of_mem_set hd with z | z
    · exact R.el d z
    · rw [z]; omega
  · have : (ds.set j bd).all isTerm = false := by
      cases ha : (ds.set j bd).all isTerm with
      | false => rfl
      | true =>
        rw [List.all_eq_true.mp ha bd hm] at b1
        cases b1
    show (isName (.str x) && (decide ((1 : Int) ≤ ((ds.set j bd).length : Int)) && decide (((ds.set j bd).length : Int) ≤ 8)) && (ds.set j bd).all isTerm) = false
    rw [this, Bool.and_false]
theorem bnd (n : Int) : isBounded (.int n) = (decide (-((10 : Int) ^ (40 : Int).toNat) < n) && decide (n < (10 : Int) ^ (40 : Int).toNat)) := by
  have e : (10 : Int) ^ (40 : Int).toNat = big := by decide +kernel
  rw [e]
  show decide ((if n < 0 then -n else n) < big) = _
  rw [← Bool.decide_and]
  refine decide_eq_decide.mpr ?_
  have hb : 0 < big := by decide +kernel
  split <;> omega
def d1 (w n : Int) : PyData := if w = 0 then (if 0 ≤ n then .tuple [.tuple [.str "v", .int n]] else .none) else .none
def d2 (w n : Int) : PyData := if w = 1 then (if isBounded (.int n) = true then .tuple [.int n] else .none) else d1 w n
def d3 (w : Int) (x : Str) (n : Int) : PyData := if w = 2 then (if goodN x = true then .tuple [.tuple [.str "f", .str x, .int 0]] else .none) else d2 w n
def d4 (w : Int) (x : Str) (n : Int) (g : Bool) (ds : List PyData) : PyData := if w = 3 then (if (goodN x && g) = true then compD x ds else .none) else d3 w x n
theorem d4_du {w : Int} (x : Str) (n : Int) (g : Bool) (ds : List PyData) (w0 : 0 ≤ w) (w1 : w < 4) : d4 w x n g ds = du w x n g ds := by
  unfold d4 d3 d2 d1 du
  rcases (show w = 0 ∨ w = 1 ∨ w = 2 ∨ w = 3 by omega) with z | z | z | z <;> subst z <;> rfl
theorem take_el {m : Int} {g : Bool} {ds : List PyData} (R : RowsG m g ds) (i : Nat) : ((ds.take i).flatMap elems).length ≤ 500 := by
  have : ∀ l : List PyData, (∀ d ∈ l, (elems d).length ≤ 9) → (l.flatMap elems).length ≤ 9 * l.length := by
    intro l
    induction l with
    | nil => intro _; exact Nat.le_refl 0
    | cons d l ih =>
      intro h
      have h1 := h d List.mem_cons_self
      have h2 := ih fun e he => h e (List.mem_cons_of_mem _ he)
      rw [List.flatMap_cons, List.length_append, List.length_cons]
      omega
  have h1 := this (ds.take i) fun d hd => R.el d (List.mem_of_mem_take hd)
  have h2 : (ds.take i).length ≤ ds.length := by rw [List.length_take]; omega
  have h3 := R.len
  have h4 := R.m9
  omega
theorem cat_dpA {K : PySem.W.Frag} {H : Hp} {x y : V} {ds es : List PyData} {Q : VK} (hx : Dp K H x (.tuple ds)) (hy : Dp K H y (.tuple es)) (hz : ds.length + es.length ≤ 1000) (h : ∀ v H', Same H H' → Dp K H' v (.tuple (ds ++ es)) → Q v H') : rCatA K x y H Q := by
  have hx0 := hx
  have hy0 := hy
  cases hx with
  | @tup a xs _ sx ax =>
  cases hy with
  | @tup b ys _ sy ay =>
  have lx := DpAll.len ax
  have ly := DpAll.len ay
  refine ⟨a, b, xs, ys, rfl, rfl, sx, sy, small_of (by omega), fun z => ?_, fun z => ?_, fun p np => ?_⟩
  · subst z
    cases ax
    exact h _ H (Same.refl H) hy0
  · subst z
    cases ay
    rw [List.append_nil] at h
    exact h _ H (Same.refl H) hx0
  · exact h _ _ (same_upd np) (.tup (SqT.of upd_same) (dp_sameAll (same_upd np) _ _ (DpAll.app ax ay)))
theorem rows_shaped1 {rows : List (List PyData)} (h : ∀ row ∈ rows, Cls 1 row ∧ ∀ d ∈ row, NdA d) : SeqAt.shaped (.list (rows.map PyData.tuple)) = true ∧ PyData.eqv (.list (rows.map PyData.tuple)) (.list (rows.map PyData.tuple)) = true := by
  have main : ∀ l : List (List PyData), (∀ row ∈ l, ∀ d ∈ row, NdA d) → PyData.canLayAll0 (l.map PyData.tuple) = true ∧ PyData.depthAll (l.map PyData.tuple) ≤ 2 ∧ PyData.eqvAll (l.map PyData.tuple) (l.map PyData.tuple) = true := by
    intro l
    induction l with
    | nil => intro _; exact ⟨by simp [PyData.canLayAll0], by simp [PyData.depthAll], by simp [PyData.eqvAll]⟩
    | cons r l ih =>
      intro hl
      obtain ⟨a, b, c⟩ := ih fun x hx => hl x (List.mem_cons_of_mem _ hx)
      obtain ⟨a1, b1, c1⟩ := nds_lay (hl r List.mem_cons_self)
      rw [List.map_cons]
      refine ⟨by simp only [PyData.canLayAll0, PyData.canLay0, a1, a, Bool.and_self], ?_, by simp only [PyData.eqvAll, PyData.eqv, c1, c, Bool.and_self]⟩
      simp only [PyData.depthAll, PyData.depth]
      omega
  obtain ⟨a, b, c⟩ := main rows fun r hr => (h r hr).2
  have hd : (PyData.list (rows.map PyData.tuple)).depth ≤ 64 := by simp only [PyData.depth]; omega
  have hc : (PyData.list (rows.map PyData.tuple)).canLay0 = true := by simp only [PyData.canLay0]; exact a
  refine ⟨?_, by simp only [PyData.eqv]; exact c⟩
  show ((PyData.list (rows.map PyData.tuple)).canLay0 && decide ((PyData.list (rows.map PyData.tuple)).depth ≤ 64)) = true
  rw [hc, decide_eq_true hd]
  rfl
theorem sl_from1 {K : PySem.W.Frag} {H : Hp} {a : Addr} {xs : List V} {Q : VK} (hs : SqT K H a xs) (h : ∀ b H', Same H H' → SqT K H' b (xs.drop 1) → Q (.ref b) H') : rSlA K (.ref a) (some (1 : Int)) Option.none H Q := by
  refine ⟨a, xs, rfl, hs, fun z => h a H (Same.refl H) ?_, fun z p np => ?_⟩
  · cases xs with
    | nil => exact hs
    | cons v xs =>
      exfalso
      have := z.1
      rw [show (1 : Int) = ((1 : Nat) : Int) from rfl, HT.sIx_nat] at this
      rw [List.length_cons] at this
      omega
  · cases xs with
    | nil =>
      refine absurd ⟨?_, ?_⟩ z
      · rw [show (1 : Int) = ((1 : Nat) : Int) from rfl, HT.sIx_nat]; rfl
      · rw [HT.sIx_none]
    | cons v xs =>
      rw [cut_from1]
      exact h p _ (same_upd np) (SqT.of upd_same)
theorem cut_take (xs : List V) (i : Nat) (h : i ≤ xs.length) : cutV xs Option.none (some (i : Int)) = xs.take i := by
  unfold cutV
  rw [HT.sIx_none, HT.sIx_nat, Nat.min_eq_left h, List.drop_zero, Nat.sub_zero]
/-! ### wide division by a negative number -/
theorem op_fdivNW {X : Cx} : OpR X (binaryOp .FloorDiv) (rI (fun i j => j ≠ 0 ∧ j.natAbs.log2 < 9000) fun i j => .int (i.fdiv j)) :=
  opI fun i j t u s Q E h q => PyProof.Rows.floordiv_int h.1 q (.inl (PyProof.noPylong_of_log2 h.2))
/-! ### values of expressions -/
def atD (x : Str) : PyData := .tuple [.str "f", .str x, .int 0]
def syD (x : Str) (n : Int) : PyData := .tuple [.str "f", .str x, .int n]
def instE : PyData := .tuple [atD "instantiation_error"]
def typE (x : Str) (n : Int) : PyData := .tuple [syD "type_error" 2, atD "evaluable", syD "/" 2, atD x, .int n]
def evE (x : Str) : PyData := .tuple [syD "evaluation_error" 1, atD x]
def signs6 : List PyData := [.tuple [.str "+", .int 2], .tuple [.str "-", .int 2], .tuple [.str "*", .int 2], .tuple [.str "//", .int 2], .tuple [.str "mod", .int 2], .tuple [.str "-", .int 1]]
def evB (x : Str) (n : Int) : Bool := signs6.any fun z => PyData.eqv z (.tuple [.str x, .int n])
def calcN (x : Str) : List Int → Int
  | [a] => -a
  | [a, b] => if x = "+" then a + b else if x = "-" then a - b else if x = "*" then a * b else if x = "//" then a.fdiv b else a.fmod b
  | _ => 0
def divB (x : Str) : Bool := inV (.str x) [.str "//", .str "mod"]
def resD (x : Str) (vals : List Int) : PyData := if divB x = true ∧ vals.getD 1 0 = 0 then evE "zero_divisor" else if 10 ^ 40 ≤ (calcN x vals).natAbs then evE "overflow" else .int (calcN x vals)
def isErr : PyData → Bool
  | .tuple _ => true | _ => false
def intOf : PyData → Int
  | .int z => z | _ => 0
def dueN (x : Str) (rows : List PyData) : PyData := if evB x rows.length = true then (match rows.find? isErr with | some e => e | none => resD x (rows.map intOf)) else typE x rows.length
def stepN (d : PyData) (st : List PyData) : List PyData := match d with
  | .int z => .int z :: st
  | .tuple [_, _] => instE :: st
  | .tuple [_, .str x, .int n] => dueN x (st.take n.toNat) :: st.drop n.toNat
  | _ => st
def rtl : List PyData → List PyData
  | [] => []
  | d :: r => stepN d (rtl r)
/-- the error of a node -/
def errD (d : PyData) : PyData := match d with
  | .tuple [_, .str x, .int n] => if evB x n = true then .none else typE x n
  | _ => instE
/-! ### the stack of open operations -/
structure Fr where
  v : V
  a : Addr
  x : Str
  n : Nat
  vals : List Int
def iDs (L : List Int) : List PyData := L.map PyData.int
/-- what becomes of the open operations, the innermost first, when these values follow -/
def unw : List Fr → List PyData → List PyData
  | [], st => st
  | f :: S, st => unw S (dueN f.x (iDs f.vals ++ st.take (f.n - f.vals.length)) :: st.drop (f.n - f.vals.length))
theorem ints_err : ∀ L : List Int, (iDs L).find? isErr = Option.none
  | [] => rfl
  | z :: L => by
    show (PyData.int z :: iDs L).find? isErr = none
    rw [List.find?_cons_of_neg (by exact Bool.false_ne_true)]
    exact ints_err L
theorem ints_int (L : List Int) : (iDs L).map intOf = L := by
  unfold iDs
  rw [List.map_map]
  exact List.map_id'' (fun _ => rfl) L
theorem due_ints {x : Str} {L : List Int} (h : evB x L.length = true) : dueN x (iDs L) = resD x L := by
  unfold dueN
  rw [show (iDs L).length = L.length from List.length_map .., if_pos h, ints_err, ints_int]
theorem due_err {x : Str} {L : List Int} {e : PyData} {st : List PyData} (he : isErr e = true) (h : evB x ((L.length + 1 + st.length : Nat) : Int) = true) : dueN x (iDs L ++ e :: st) = e := by
  unfold dueN
  have hl : ((iDs L ++ e :: st).length : Int) = ((L.length + 1 + st.length : Nat) : Int) := by
    rw [List.length_append, List.length_cons, show (iDs L).length = L.length from List.length_map ..]
    congr 1
    omega
  rw [hl, if_pos h, List.find?_append, ints_err]
  show (match (none : Option PyData).or ((e :: st).find? isErr) with | some e => e | none => _) = e
  rw [List.find?_cons_of_pos he]
  rfl
structure FrOk (f : Fr) : Prop where
  ev : evB f.x f.n = true
  lt : f.vals.length < f.n
theorem unw_err : ∀ (S : List Fr) (e : PyData) (st : List PyData), (∀ f ∈ S, FrOk f) → isErr e = true → (S.foldr (fun f m => f.n - f.vals.length - 1 + m) 0 ≤ st.length) → ∃ st', unw S (e :: st) = e :: st'
  | [], e, st, _, _, _ => ⟨st, rfl⟩
  | f :: S, e, st, h, he, hl => by
    have ok := h f List.mem_cons_self
    have hlt := ok.lt
    rw [List.foldr_cons] at hl
    unfold unw
    obtain ⟨k, hk⟩ : ∃ k, f.n - f.vals.length = k + 1 := ⟨f.n - f.vals.length - 1, by omega⟩
    rw [hk, List.take_succ_cons, List.drop_succ_cons]
    rw [due_err he (by
      rw [List.length_take, Nat.min_eq_left (by omega)]
      rw [show f.vals.length + 1 + k = f.n by omega]
      exact ok.ev)]
    exact unw_err S e (st.drop k) (fun g hg => h g (List.mem_cons_of_mem _ hg)) he (by rw [List.length_drop]; omega)
theorem unw_num (f : Fr) (S : List Fr) (z : Int) (st : List PyData) (h : f.vals.length < f.n) : unw (f :: S) (.int z :: st) = unw ({ f with vals := f.vals ++ [z] } :: S) st := by
  show unw S (dueN f.x (iDs f.vals ++ (PyData.int z :: st).take (f.n - f.vals.length)) :: (PyData.int z :: st).drop (f.n - f.vals.length)) = unw S (dueN f.x (iDs (f.vals ++ [z]) ++ st.take (f.n - (f.vals ++ [z]).length)) :: st.drop (f.n - (f.vals ++ [z]).length))
  obtain ⟨k, hk⟩ : ∃ k, f.n - f.vals.length = k + 1 := ⟨f.n - f.vals.length - 1, by omega⟩
  rw [hk, List.take_succ_cons, List.drop_succ_cons, List.length_append, List.length_singleton, show f.n - (f.vals.length + 1) = k by omega]
  unfold iDs
  rw [List.map_append, List.append_assoc]
  rfl
theorem unw_full (f : Fr) (S : List Fr) (st : List PyData) (h : f.vals.length = f.n) (he : evB f.x f.n = true) : unw (f :: S) st = unw S (resD f.x f.vals :: st) := by
  show unw S (dueN f.x (iDs f.vals ++ st.take (f.n - f.vals.length)) :: st.drop (f.n - f.vals.length)) = _
  rw [h, Nat.sub_self, List.take_zero, List.drop_zero, List.append_nil, due_ints (by rw [h]; exact he)]
theorem rtl_len : ∀ {ds : List PyData} {m : Nat}, (∀ d ∈ ds, NdA d) → Cls m ds → (rtl ds).length = m
  | [], m, _, h => by
    have h : m = 0 := h
    rw [h]
    rfl
  | d :: r, m, hn, h => by
    have ih := rtl_len (ds := r) (fun e he => hn e (List.mem_cons_of_mem _ he)) h.2
    have h0 := h.1
    obtain ⟨wd, nd⟩ := hn d List.mem_cons_self
    show (stepN d (rtl r)).length = m
    cases nd with
    | v n _ _ =>
      show (rtl r).length + 1 = m
      rw [ih]
      show m - 1 + 0 + 1 = m
      omega
    | i n _ _ =>
      show (rtl r).length + 1 = m
      rw [ih]
      show m - 1 + 0 + 1 = m
      omega
    | f x n _ _ _ =>
      show ((rtl r).drop n.toNat).length + 1 = m
      rw [List.length_drop, ih]
      show m - 1 + n.toNat - n.toNat + 1 = m
      omega
def need (S : List Fr) : Nat := S.foldr (fun f m => f.n - f.vals.length - 1 + m) 0
theorem nd_node {d : PyData} (h : NdA d) : isNode d = true ∧ isSym d = isSymN d ∧ okD d = true := by
  have hs := nd_shaped h
  obtain ⟨wd, nd⟩ := h
  cases nd with
  | v n h1 h2 =>
    refine ⟨?_, rfl, ?_⟩
    · show ((PyData.str "v").eqv (.str "v") && isInteger (.int n) && decide (0 ≤ n)) = true
      rw [decide_eq_true h1, show (PyData.str "v").eqv (.str "v") = true by decide +kernel]
      rfl
    · show ([PyData.str "v", .int n].all SeqAt.shaped && _) = true
      rw [show [PyData.str "v", .int n].all SeqAt.shaped = true by
        simp only [List.all_cons, List.all_nil, Bool.and_true]
        rw [show SeqAt.shaped (.str "v") = true by decide +kernel, show SeqAt.shaped (.int n) = true from rfl]
        rfl]
      rw [Bool.true_and]
      simp only [List.all_cons, List.all_nil, Bool.and_true]
      exact (show decide ((Str.ofString "v").length ≤ 100) = true by decide +kernel)
  | i n h1 h2 =>
    refine ⟨?_, rfl, rfl⟩
    show decide ((if n < 0 then -n else n) < big) = true
    apply decide_eq_true
    unfold big
    split <;> omega
  | f x n h1 h2 h3 =>
    refine ⟨?_, rfl, ?_⟩
    · show ((PyData.str "f").eqv (.str "f") && isName (.str x) && (decide (0 ≤ n) && decide (n ≤ 8))) = true
      rw [decide_eq_true h2, decide_eq_true h3, isName_ok h1, show (PyData.str "f").eqv (.str "f") = true by decide +kernel]
      rfl
    · have hl : x.length ≤ 100 := by
        unfold okName at h1
        simp only [Bool.and_eq_true, decide_eq_true_eq] at h1
        omega
      have hx : SeqAt.shaped (.str x) = true := by
        have := okName_cps h1
        show ((PyData.str x).canLay0 && decide ((PyData.str x).depth ≤ 64)) = true
        simp only [PyData.canLay0, PyData.depth]
        rw [this]
        rfl
      show ([PyData.str "f", .str x, .int n].all SeqAt.shaped && [PyData.str "f", .str x, .int n].all _) = true
      rw [show [PyData.str "f", .str x, .int n].all SeqAt.shaped = true by
        simp only [List.all_cons, List.all_nil, Bool.and_true]
        rw [show SeqAt.shaped (.str "f") = true by decide +kernel, hx, show SeqAt.shaped (.int n) = true from rfl]
        rfl]
      simp only [List.all_cons, List.all_nil, Bool.and_true, Bool.true_and]
      rw [decide_eq_true hl, Bool.and_true]
      exact (show decide ((Str.ofString "f").length ≤ 100) = true by decide +kernel)
theorem term_one {d : PyData} (h : isNode d = true) (ha : arityOf d = 0) : isTerm (.tuple [d]) = true := by
  show (if (1 : Int) = 0 ∨ isNode d = false then false else decide ((1 : Int) + (arityOf d - 1) = 0)) = true
  rw [if_neg (by rw [h]; simp), ha]
  rfl
theorem at_nd {x : Str} (h : okName x = true) : NdA (atD x) := ⟨0, .f x 0 h (by decide) (by decide)⟩
theorem sy_nd {x : Str} {n : Int} (h : okName x = true) (h0 : 0 ≤ n) (h8 : n ≤ 8) : NdA (syD x n) := ⟨0, .f x n h h0 h8⟩
theorem in_nd {n : Int} (h : n.natAbs < 10 ^ 40) : NdA (.int n) := ⟨0, .i n (by omega) (by omega)⟩
theorem okT_of {es : List PyData} (h : ∀ e ∈ es, NdA e) : okT (.tuple es) := fun es' e he => by
  cases e
  exact fun hm => (nd_node (h he hm)).2.2
theorem term_typ {x : Str} {n : Int} (h : okName x = true) (hn : n.natAbs < 10 ^ 40) : isTerm (.tuple [syD "/" 2, atD x, .int n]) = true := by
  have h1 := (nd_node (sy_nd (x := "/") (n := 2) (by decide +kernel) (by decide) (by decide))).1
  have h2 := (nd_node (at_nd h)).1
  have h3 := (nd_node (in_nd hn)).1
  show (if (1 : Int) = 0 ∨ isNode (syD "/" 2) = false then false else if (1 : Int) + ((2 : Int) - 1) = 0 ∨ isNode (atD x) = false then false else if (1 : Int) + ((2 : Int) - 1) + ((0 : Int) - 1) = 0 ∨ isNode (.int n) = false then false else decide ((1 : Int) + ((2 : Int) - 1) + ((0 : Int) - 1) + ((0 : Int) - 1) = 0)) = true
  rw [h1, h2, h3]
  simp
theorem pair_shaped {y : Str} {n : Int} (h : PyData.strOk y = true) : SeqAt.shaped (.tuple [.str y, .int n]) = true := by
  have hc : (PyData.tuple [.str y, .int n]).canLay0 = true := by
    simp only [PyData.canLay0, PyData.canLayAll0]
    rw [h]
    rfl
  have hd : (PyData.tuple [.str y, .int n]).depth ≤ 64 := by simp [PyData.depth, PyData.depthAll]
  show ((PyData.tuple [.str y, .int n]).canLay0 && decide ((PyData.tuple [.str y, .int n]).depth ≤ 64)) = true
  rw [hc, decide_eq_true hd]
  rfl
theorem ev_len {x : Str} {n : Int} (h : evB x n = true) : (n = 2 ∧ (x = "+" ∨ x = "-" ∨ x = "*" ∨ x = "//" ∨ x = "mod")) ∨ (n = 1 ∧ x = "-") := by
  unfold evB signs6 at h
  simp only [List.any_cons, List.any_nil, PyData.eqv, PyData.eqvAll, Bool.and_true, Bool.or_false, Bool.or_eq_true, Bool.and_eq_true, beq_iff_eq] at h
  rcases h with ⟨h1, h2⟩ | ⟨h1, h2⟩ | ⟨h1, h2⟩ | ⟨h1, h2⟩ | ⟨h1, h2⟩ | ⟨h1, h2⟩
  · exact .inl ⟨h2.symm, .inl h1.symm⟩
  · exact .inl ⟨h2.symm, .inr (.inl h1.symm)⟩
  · exact .inl ⟨h2.symm, .inr (.inr (.inl h1.symm))⟩
  · exact .inl ⟨h2.symm, .inr (.inr (.inr (.inl h1.symm)))⟩
  · exact .inl ⟨h2.symm, .inr (.inr (.inr (.inr h1.symm)))⟩
  · exact .inr ⟨h2.symm, h1.symm⟩
theorem ev_vals {x : Str} {vals : List Int} (h : evB x vals.length = true) : (∃ a b, vals = [a, b] ∧ (x = "+" ∨ x = "-" ∨ x = "*" ∨ x = "//" ∨ x = "mod")) ∨ (∃ a, vals = [a] ∧ x = "-") := by
  rcases ev_len h with ⟨h1, h2⟩ | ⟨h1, h2⟩
  · match vals, h1 with
    | [a, b], _ => exact .inl ⟨a, b, rfl, h2⟩
    | [], h1 => exfalso; simp at h1
    | [_], h1 => exfalso; simp at h1
    | _ :: _ :: _ :: r, h1 => simp only [List.length_cons] at h1; omega
  · match vals, h1 with
    | [a], _ => exact .inr ⟨a, rfl, h2⟩
    | [], h1 => exfalso; simp at h1
    | _ :: _ :: r, h1 => simp only [List.length_cons] at h1; omega
theorem div_names {x : Str} (h : x = "+" ∨ x = "-" ∨ x = "*" ∨ x = "//" ∨ x = "mod") : (divB x = true ↔ x = "//" ∨ x = "mod") := by
  rcases h with rfl | rfl | rfl | rfl | rfl <;> decide +kernel
theorem str_dec {x y : Str} : (decide (V.str x = V.str y) = true) ↔ x = y := by
  rw [decide_eq_true_eq]
  exact ⟨V.str.inj, congrArg V.str⟩
theorem wide40 {z : Int} (h : z.natAbs < 10 ^ 40) : z.natAbs < 2 ^ 140 := Nat.lt_of_lt_of_le h (by decide)
theorem log40 {z : Int} (h0 : z ≠ 0) (h : z.natAbs < 10 ^ 40) : z.natAbs.log2 < 9000 := (Nat.log2_lt (by omega)).mpr (Nat.lt_of_lt_of_le (wide40 h) (Nat.pow_le_pow_right (by decide) (by decide)))
/-! ### the state of evaluate -/
theorem need_cons (f : Fr) (S : List Fr) : need (f :: S) = f.n - f.vals.length - 1 + need S := rfl
def topA (b0 : Addr) : List Fr → Addr
  | [] => b0
  | f :: _ => f.a
def topV (B : List Int) : List Fr → List Int
  | [] => B
  | f :: _ => f.vals
def addS (z : Int) : List Fr → List Fr
  | [] => []
  | f :: S => { f with vals := f.vals ++ [z] } :: S
def addB (z : Int) (B : List Int) : List Fr → List Int
  | [] => B ++ [z]
  | _ :: _ => B
structure EvI (ds rest : List PyData) (S : List Fr) (B : List Int) : Prop where
  ok : ∀ f ∈ S, FrOk f
  b : S ≠ [] → B = []
  m : ∃ m, Cls m rest ∧ m + B.length = 1 + need S
  v : (iDs B ++ unw S (rtl rest)).headD .none = (rtl ds).headD .none
structure WI (ds rest : List PyData) (S : List Fr) (B : List Int) : Prop where
  ev : ∀ f ∈ S, evB f.x f.n = true
  ok : ∀ f ∈ S.tail, FrOk f
  le : ∀ f ∈ S, f.vals.length ≤ f.n
  b : S ≠ [] → B = []
  m : ∃ m, Cls m rest ∧ (S = [] → m + B.length = 1) ∧ ∀ f S', S = f :: S' → m = f.n - f.vals.length + need S'
  v : (iDs B ++ unw S (rtl rest)).headD .none = (rtl ds).headD .none
theorem EvI.wi {ds rest : List PyData} {S : List Fr} {B : List Int} (h : EvI ds rest S B) : WI ds rest S B := by
  refine ⟨fun f hf => (h.ok f hf).ev, fun f hf => h.ok f (List.mem_of_mem_tail hf), fun f hf => Nat.le_of_lt (h.ok f hf).lt, h.b, ?_, h.v⟩
  obtain ⟨m, hc, hm⟩ := h.m
  refine ⟨m, hc, fun e => by subst e; exact hm, fun f S' e => ?_⟩
  subst e
  rw [h.b (by simp), need_cons] at hm
  have := (h.ok f List.mem_cons_self).lt
  simp only [List.length_nil] at hm
  omega
theorem WI.out {ds rest : List PyData} {S : List Fr} {B : List Int} (h : WI ds rest S B) (ht : ∀ f S', S = f :: S' → f.vals.length ≠ f.n) : EvI ds rest S B := by
  have hok : ∀ f ∈ S, FrOk f := by
    intro f hf
    cases S with
    | nil => cases hf
    | cons g S' =>
      rcases List.mem_cons.mp hf with e | e
      · subst e
        have h1 := h.le f List.mem_cons_self
        have h2 := ht f S' rfl
        exact ⟨h.ev f List.mem_cons_self, by omega⟩
      · exact h.ok f e
  refine ⟨hok, h.b, ?_, h.v⟩
  obtain ⟨m, hc, h1, h2⟩ := h.m
  refine ⟨m, hc, ?_⟩
  cases S with
  | nil => exact h1 rfl
  | cons f S' =>
    rw [h2 f S' rfl, h.b (by simp), need_cons]
    have := (hok f List.mem_cons_self).lt
    simp only [List.length_nil]
    omega
theorem need_le {ds r : List PyData} {d : PyData} {S : List Fr} {B : List Int} (hn : ∀ d ∈ ds, NdA d) (hd : ∀ e ∈ d :: r, NdA e) (h : EvI ds (d :: r) S B) : B = [] ∧ (rtl (d :: r)).length = 1 + need S := by
  obtain ⟨m, hc, hm⟩ := h.m
  have hb : B = [] := by
    cases S with
    | nil =>
      have h0 : 0 < m := hc.1
      have : need [] = 0 := rfl
      rw [this] at hm
      exact List.eq_nil_of_length_eq_zero (by omega)
    | cons f S' => exact h.b (by simp)
  refine ⟨hb, ?_⟩
  rw [rtl_len hd hc]
  rw [hb] at hm
  simpa using hm
theorem err_step {ds r : List PyData} {d e : PyData} {st : List PyData} {S : List Fr} {B : List Int} (hn : ∀ d ∈ ds, NdA d) (hd : ∀ e ∈ d :: r, NdA e) (h : EvI ds (d :: r) S B) (he : isErr e = true) (hs : rtl (d :: r) = e :: st) : (rtl ds).headD .none = e := by
  obtain ⟨hb, hl⟩ := need_le hn hd h
  have hv := h.v
  rw [hs] at hl hv
  obtain ⟨st', e1⟩ := unw_err S e st h.ok he (by rw [List.length_cons] at hl; show need S ≤ _; omega)
  rw [hb, e1] at hv
  exact hv.symm
theorem rtl_len' {r : List PyData} {m : Nat} {d : PyData} {k : Nat} (hd : ∀ e ∈ r, NdA e) (h : Cls m (d :: r)) (hk : arN d = k) : k ≤ (rtl r).length := by
  rw [rtl_len hd h.2]
  omega
theorem var_step {ds r : List PyData} {n : Int} {S : List Fr} {B : List Int} (hn : ∀ d ∈ ds, NdA d) (hd : ∀ e ∈ PyData.tuple [.str "v", .int n] :: r, NdA e) (h : EvI ds (.tuple [.str "v", .int n] :: r) S B) : (rtl ds).headD .none = instE :=
  err_step (st := rtl r) hn hd h rfl rfl
theorem bad_step {ds r : List PyData} {x : Str} {n : Int} {S : List Fr} {B : List Int} (hn : ∀ d ∈ ds, NdA d) (hd : ∀ e ∈ PyData.tuple [.str "f", .str x, .int n] :: r, NdA e) (h0 : 0 ≤ n) (h : EvI ds (.tuple [.str "f", .str x, .int n] :: r) S B) (hv : evB x n = false) : (rtl ds).headD .none = typE x n := by
  refine err_step (st := (rtl r).drop n.toNat) hn hd h rfl ?_
  obtain ⟨m, hc, hm⟩ := h.m
  have hl : n.toNat ≤ (rtl r).length := rtl_len' (fun e he => hd e (List.mem_cons_of_mem _ he)) hc rfl
  show dueN x ((rtl r).take n.toNat) :: _ = _
  congr 1
  unfold dueN
  rw [List.length_take, Nat.min_eq_left hl, Int.toNat_of_nonneg h0, if_neg (by rw [hv]; exact Bool.false_ne_true)]
theorem push_step {ds r : List PyData} {x : Str} {n : Int} {S : List Fr} {B : List Int} (v : V) (p : Addr) (hn : ∀ d ∈ ds, NdA d) (hd : ∀ e ∈ PyData.tuple [.str "f", .str x, .int n] :: r, NdA e) (h0 : 0 ≤ n) (h : EvI ds (.tuple [.str "f", .str x, .int n] :: r) S B) (hv : evB x n = true) : EvI ds r (⟨v, p, x, n.toNat, []⟩ :: S) B := by
  have hn1 : 1 ≤ n := by
    rcases ev_len hv with ⟨e, _⟩ | ⟨e, _⟩ <;> omega
  have hb := (need_le hn hd h).1
  refine ⟨?_, fun _ => hb, ?_, ?_⟩
  · intro f hf
    rcases List.mem_cons.mp hf with e | e
    · subst e
      refine ⟨?_, ?_⟩
      · show evB x ((n.toNat : Nat) : Int) = true
        rw [Int.toNat_of_nonneg h0]
        exact hv
      · show 0 < n.toNat
        omega
    · exact h.ok f e
  · obtain ⟨m, hc, hm⟩ := h.m
    refine ⟨_, hc.2, ?_⟩
    show m - 1 + n.toNat + B.length = 1 + (n.toNat - 0 - 1 + need S)
    have := hc.1
    rw [hb] at hm ⊢
    simp only [List.length_nil] at hm ⊢
    omega
  · have := h.v
    rw [← this]
    rfl
theorem add_v (z : Int) (S : List Fr) (B : List Int) (st : List PyData) (hb : S ≠ [] → B = []) (hB : S = [] → B = []) (hl : ∀ f S', S = f :: S' → f.vals.length < f.n) : (iDs (addB z B S) ++ unw (addS z S) st).headD .none = (iDs B ++ unw S (.int z :: st)).headD .none := by
  cases S with
  | nil =>
    rw [hB rfl]
    rfl
  | cons f S' =>
    rw [hb (by simp)]
    show (unw ({ f with vals := f.vals ++ [z] } :: S') st).headD .none = (unw (f :: S') (.int z :: st)).headD .none
    rw [unw_num f S' z st (hl f S' rfl)]
/-- a value reaches the open operations -/
theorem wi_add {ds r : List PyData} {z : Int} {S : List Fr} {m : Nat} (hok : ∀ f ∈ S, FrOk f) (hc : Cls m r) (hm : m = need S) (hv : (unw S (.int z :: rtl r)).headD .none = (rtl ds).headD .none) : WI ds r (addS z S) (addB z [] S) := by
  cases S with
  | nil =>
    refine ⟨fun f hf => (nomatch hf), fun f hf => (nomatch hf), fun f hf => (nomatch hf), fun z => absurd rfl z, ⟨m, hc, fun _ => ?_, fun f S' e => (nomatch e)⟩, hv⟩
    rw [hm]
    rfl
  | cons f S' =>
    have hf0 := hok f List.mem_cons_self
    have hlt := hf0.lt
    refine ⟨?_, fun g hg => hok g (List.mem_cons_of_mem _ hg), ?_, fun _ => rfl, ⟨m, hc, fun e => (nomatch e), ?_⟩, ?_⟩
    · intro g hg
      rcases List.mem_cons.mp hg with e | e
      · subst e; exact hf0.ev
      · exact (hok g (List.mem_cons_of_mem _ e)).ev
    · intro g hg
      rcases List.mem_cons.mp hg with e | e
      · subst e
        show (f.vals ++ [z]).length ≤ f.n
        rw [List.length_append]
        exact hlt
      · exact Nat.le_of_lt (hok g (List.mem_cons_of_mem _ e)).lt
    · intro g S2 e
      cases e
      show m = f.n - (f.vals ++ [z]).length + need S'
      rw [hm, need_cons, List.length_append, List.length_singleton]
      omega
    · rw [add_v z (f :: S') [] (rtl r) (fun _ => rfl) (fun _ => rfl) (fun g S2 e => by cases e; exact hlt)]
      exact hv
theorem int_step {ds r : List PyData} {z : Int} {S : List Fr} {B : List Int} (hn : ∀ d ∈ ds, NdA d) (hd : ∀ e ∈ PyData.int z :: r, NdA e) (h : EvI ds (.int z :: r) S B) : B = [] ∧ WI ds r (addS z S) (addB z B S) := by
  have hb := (need_le hn hd h).1
  refine ⟨hb, ?_⟩
  obtain ⟨m, hc, hm⟩ := h.m
  have hv := h.v
  rw [hb] at hm hv ⊢
  refine wi_add h.ok hc.2 ?_ hv
  have := hc.1
  have e0 : arN (PyData.int z) = 0 := rfl
  rw [e0]
  simp only [List.length_nil] at hm
  omega
theorem res_cases (x : Str) (vals : List Int) : (∃ z, resD x vals = .int z ∧ z.natAbs < 10 ^ 40) ∨ (isErr (resD x vals) = true ∧ ∃ es, resD x vals = .tuple es) := by
  unfold resD
  split
  · exact .inr ⟨rfl, _, rfl⟩
  · split
    · exact .inr ⟨rfl, _, rfl⟩
    · exact .inl ⟨_, rfl, by omega⟩
theorem full_step {ds r : List PyData} {f : Fr} {S : List Fr} {B : List Int} (hr : ∀ e ∈ r, NdA e) (h : WI ds r (f :: S) B) (hf : f.vals.length = f.n) : (isErr (resD f.x f.vals) = true → (rtl ds).headD .none = resD f.x f.vals) ∧ ∀ z, resD f.x f.vals = .int z → WI ds r (addS z S) (addB z B S) := by
  have hb := h.b (by simp)
  obtain ⟨m, hc, _, hm⟩ := h.m
  have hm := hm f S rfl
  rw [hf, Nat.sub_self, Nat.zero_add] at hm
  have hv := h.v
  rw [hb] at hv ⊢
  have hv : (unw (f :: S) (rtl r)).headD .none = (rtl ds).headD .none := hv
  rw [unw_full f S (rtl r) hf (h.ev f List.mem_cons_self)] at hv
  refine ⟨fun he => ?_, fun z hz => ?_⟩
  · obtain ⟨st', e1⟩ := unw_err S _ (rtl r) (fun g hg => h.ok g hg) he (by rw [rtl_len hr hc, hm]; exact Nat.le_refl _)
    rw [e1] at hv
    exact hv.symm
  · rw [hz] at hv
    exact wi_add (fun g hg => h.ok g hg) hc hm hv
theorem EvI.done {ds : List PyData} {S : List Fr} {B : List Int} (h : EvI ds [] S B) : S = [] ∧ ∃ z, B = [z] ∧ (rtl ds).headD .none = .int z := by
  obtain ⟨m, hc, hm⟩ := h.m
  have h0 : m = 0 := hc
  subst h0
  have hS : S = [] := by
    cases S with
    | nil => rfl
    | cons f S' =>
      exfalso
      rw [h.b (by simp)] at hm
      simp only [List.length_nil] at hm
      omega
  subst hS
  refine ⟨rfl, ?_⟩
  have : need [] = 0 := rfl
  rw [this] at hm
  match B, hm, h.v with
  | [z], _, hv => exact ⟨z, rfl, hv.symm⟩
  | [], hm, _ => simp at hm
  | _ :: _ :: t, hm, _ => simp only [List.length_cons] at hm; omega
theorem EvI.start {ds : List PyData} (hc : Cls 1 ds) : EvI ds ds [] [] :=
  ⟨fun _ h => (nomatch h), fun z => absurd rfl z, ⟨1, hc, rfl⟩, rfl⟩
theorem same_put {H0 H : Hp} {p : Addr} {o : HO} (h : Same H0 H) (n : H0 p = Option.none) : Same H0 (upd H p o) := fun b x e => by
  rw [upd_ne (ne_of_none e n)]
  exact h b x e
structure EvH (K : PySem.W.Frag) (H0 : Hp) (sy fo b0 : Addr) (S : List Fr) (B : List Int) (H : Hp) : Prop where
  sm : Same H0 H
  hsy : H sy = some (.lst (S.reverse.map Fr.v))
  hfo : H fo = some (.lst (V.ref b0 :: S.reverse.map fun f => V.ref f.a))
  hb0 : H b0 = some (.lst (B.map V.int))
  fr : ∀ f ∈ S, H f.a = some (.lst (f.vals.map V.int))
  dv : ∀ f ∈ S, Dp K H0 f.v (.tuple [.str "f", .str f.x, .int f.n])
  nd : (sy :: fo :: b0 :: S.map Fr.a).Nodup
  n0 : ∀ p ∈ sy :: fo :: b0 :: S.map Fr.a, H0 p = Option.none
  vb : ∀ f ∈ S, ∀ z ∈ f.vals, z.natAbs < 10 ^ 40
theorem EvH.same {K : PySem.W.Frag} {H0 : Hp} {sy fo b0 : Addr} {S : List Fr} {B : List Int} {H H' : Hp} (h : EvH K H0 sy fo b0 S B H) (s : Same H H') : EvH K H0 sy fo b0 S B H' :=
  ⟨h.sm.trans s, s _ _ h.hsy, s _ _ h.hfo, s _ _ h.hb0, fun f hf => s _ _ (h.fr f hf), h.dv, h.nd, h.n0, h.vb⟩
theorem fo_top (b0 : Addr) (S : List Fr) : ∃ L, (V.ref b0 :: S.reverse.map fun f => V.ref f.a) = L ++ [V.ref (topA b0 S)] := by
  cases S with
  | nil => exact ⟨[], rfl⟩
  | cons f S => exact ⟨V.ref b0 :: S.reverse.map fun f => V.ref f.a, by rw [List.reverse_cons, List.map_append]; rfl⟩
theorem EvH.top {K : PySem.W.Frag} {H0 : Hp} {sy fo b0 : Addr} {S : List Fr} {B : List Int} {H : Hp} (h : EvH K H0 sy fo b0 S B H) : H (topA b0 S) = some (.lst ((topV B S).map V.int)) := by
  cases S with
  | nil => exact h.hb0
  | cons f S => exact h.fr f List.mem_cons_self
theorem EvH.add {K : PySem.W.Frag} {H0 : Hp} {sy fo b0 : Addr} {S : List Fr} {B : List Int} {H : Hp} (h : EvH K H0 sy fo b0 S B H) {z : Int} (hz : z.natAbs < 10 ^ 40) : EvH K H0 sy fo b0 (addS z S) (addB z B S) (upd H (topA b0 S) (.lst ((topV B S).map V.int ++ [.int z]))) := by
  have nd := h.nd
  cases S with
  | nil =>
    simp only [List.map_nil, List.nodup_cons, List.mem_cons, not_or, List.not_mem_nil, not_false_eq_true, and_true] at nd
    obtain ⟨⟨n1, n2⟩, n3, -⟩ := nd
    refine ⟨same_put h.sm (h.n0 _ (by simp [topA])), ?_, ?_, ?_, fun f hf => (nomatch hf), fun f hf => (nomatch hf), h.nd, h.n0, fun f hf => (nomatch hf)⟩
    · show upd H b0 _ sy = _
      rw [upd_ne n2]; exact h.hsy
    · show upd H b0 _ fo = _
      rw [upd_ne n3]; exact h.hfo
    · show upd H b0 _ b0 = some (.lst ((B ++ [z]).map V.int))
      rw [upd_same, List.map_append]; rfl
  | cons f S =>
    simp only [List.map_cons, List.nodup_cons, List.mem_cons, not_or] at nd
    obtain ⟨⟨n1, n2, n3, n4⟩, ⟨n5, n6, n7⟩, ⟨n8, n9⟩, n10, n11⟩ := nd
    refine ⟨same_put h.sm (h.n0 _ (by simp [topA])), ?_, ?_, ?_, ?_, ?_, h.nd, h.n0, ?_⟩
    · show upd H f.a _ sy = some (.lst (({ f with vals := f.vals ++ [z] } :: S).reverse.map Fr.v))
      rw [upd_ne n3, h.hsy, List.reverse_cons, List.reverse_cons, List.map_append, List.map_append]; rfl
    · show upd H f.a _ fo = some (.lst (V.ref b0 :: ({ f with vals := f.vals ++ [z] } :: S).reverse.map fun f => V.ref f.a))
      rw [upd_ne n6, h.hfo, List.reverse_cons, List.reverse_cons, List.map_append, List.map_append]; rfl
    · show upd H f.a _ b0 = _
      rw [upd_ne n8]; exact h.hb0
    · intro g hg
      rcases List.mem_cons.mp hg with e | e
      · subst e
        show upd H f.a _ f.a = some (.lst ((f.vals ++ [z]).map V.int))
        rw [upd_same, List.map_append]; rfl
      · show upd H f.a _ g.a = _
        rw [upd_ne (fun e2 => n10 (by rw [← e2]; exact List.mem_map_of_mem e))]
        exact h.fr g (List.mem_cons_of_mem _ e)
    · intro g hg
      rcases List.mem_cons.mp hg with e | e
      · subst e
        exact h.dv f List.mem_cons_self
      · exact h.dv g (List.mem_cons_of_mem _ e)
    · intro g hg y hy
      rcases List.mem_cons.mp hg with e | e
      · subst e
        rcases List.mem_append.mp hy with y1 | y1
        · exact h.vb f List.mem_cons_self y y1
        · rw [List.mem_singleton.mp y1]; exact hz
      · exact h.vb g (List.mem_cons_of_mem _ e) y hy
theorem EvH.push {K : PySem.W.Frag} {H0 : Hp} {sy fo b0 p : Addr} {S : List Fr} {B : List Int} {H : Hp} {v : V} {x : Str} {n : Int} (h : EvH K H0 sy fo b0 S B H) (h0 : 0 ≤ n) (hv : Dp K H0 v (.tuple [.str "f", .str x, .int n])) (np : (upd H sy (.lst (S.reverse.map Fr.v ++ [v]))) p = Option.none) : EvH K H0 sy fo b0 (⟨v, p, x, n.toNat, []⟩ :: S) B (upd (upd (upd H sy (.lst (S.reverse.map Fr.v ++ [v]))) p (.lst [])) fo (.lst ((V.ref b0 :: S.reverse.map fun f => V.ref f.a) ++ [V.ref p]))) := by
  have nd := h.nd
  simp only [List.nodup_cons, List.mem_cons, not_or] at nd
  obtain ⟨⟨n1, n2, n3⟩, ⟨n4, n5⟩, n6, n7⟩ := nd
  have bnd : ∀ q ∈ sy :: fo :: b0 :: S.map Fr.a, (upd H sy (.lst (S.reverse.map Fr.v ++ [v]))) q ≠ Option.none := by
    intro q hq
    by_cases e : q = sy
    · subst e; rw [upd_same]; simp
    · rw [upd_ne e]
      rcases List.mem_cons.mp hq with e1 | hq
      · exact absurd e1 e
      rcases List.mem_cons.mp hq with e1 | hq
      · rw [e1, h.hfo]; simp
      rcases List.mem_cons.mp hq with e1 | hq
      · rw [e1, h.hb0]; simp
      obtain ⟨f, hf, e1⟩ := List.mem_map.mp hq
      rw [← e1, h.fr f hf]; simp
  have pn : ∀ q ∈ sy :: fo :: b0 :: S.map Fr.a, q ≠ p := fun q hq e => bnd q hq (by rw [e]; exact np)
  have p1 : sy ≠ p := pn _ (by simp)
  have p2 : fo ≠ p := pn _ (by simp)
  have p3 : b0 ≠ p := pn _ (by simp)
  have p4 : ∀ f ∈ S, f.a ≠ p := fun f hf => pn _ (by simp only [List.mem_cons]; exact .inr (.inr (.inr (List.mem_map_of_mem hf))))
  have hp0 : H0 p = Option.none := by
    have np2 : H p = Option.none := by rw [upd_ne (fun e => p1 e.symm)] at np; exact np
    exact h.sm.free np2
  refine ⟨same_put (same_put (same_put h.sm (h.n0 _ (by simp))) hp0) (h.n0 _ (by simp)), ?_, ?_, ?_, ?_, ?_, ?_, ?_, ?_⟩
  · rw [upd_ne n1, upd_ne p1, upd_same, List.reverse_cons, List.map_append]; rfl
  · rw [upd_same, List.reverse_cons, List.map_append]; rfl
  · rw [upd_ne (fun e => n4 e.symm), upd_ne p3, upd_ne (fun e => n2 e.symm)]; exact h.hb0
  · intro f hf
    rcases List.mem_cons.mp hf with e | e
    · subst e
      show upd _ fo _ p = _
      rw [upd_ne (fun e => p2 e.symm), upd_same]; rfl
    · rw [upd_ne (fun e2 => n5 (by rw [← e2]; exact List.mem_map_of_mem e)), upd_ne (p4 f e), upd_ne (fun e2 => n3 (by rw [← e2]; exact List.mem_map_of_mem e))]
      exact h.fr f e
  · intro f hf
    rcases List.mem_cons.mp hf with e | e
    · subst e
      show Dp K H0 v (.tuple [.str "f", .str x, .int ((n.toNat : Nat) : Int)])
      rw [Int.toNat_of_nonneg h0]
      exact hv
    · exact h.dv f e
  · simp only [List.map_cons, List.nodup_cons, List.mem_cons, not_or]
    refine ⟨⟨n1, n2, p1, n3⟩, ⟨n4, p2, n5⟩, ⟨p3, n6⟩, fun hm => ?_, n7⟩
    obtain ⟨f, hf, e⟩ := List.mem_map.mp hm
    exact p4 f hf e
  · intro q hq
    simp only [List.map_cons, List.mem_cons] at hq
    rcases hq with e | e | e | e | e
    · exact h.n0 _ (by simp [e])
    · exact h.n0 _ (by simp [e])
    · exact h.n0 _ (by simp [e])
    · rw [e]; exact hp0
    · exact h.n0 _ (by simp only [List.mem_cons]; exact .inr (.inr (.inr e)))
  · intro f hf z hz
    rcases List.mem_cons.mp hf with e | e
    · subst e; cases hz
    · exact h.vb f e z hz
theorem EvH.pop {K : PySem.W.Frag} {H0 : Hp} {sy fo b0 : Addr} {f : Fr} {S : List Fr} {B : List Int} {H : Hp} (h : EvH K H0 sy fo b0 (f :: S) B H) : EvH K H0 sy fo b0 S B (upd (upd H sy (.lst (S.reverse.map Fr.v))) fo (.lst (V.ref b0 :: S.reverse.map fun f => V.ref f.a))) ∧ (upd (upd H sy (.lst (S.reverse.map Fr.v))) fo (.lst (V.ref b0 :: S.reverse.map fun f => V.ref f.a))) f.a = some (.lst (f.vals.map V.int)) := by
  have nd := h.nd
  simp only [List.map_cons, List.nodup_cons, List.mem_cons, not_or] at nd
  obtain ⟨⟨n1, n2, n3, n4⟩, ⟨n5, n6, n7⟩, ⟨n8, n9⟩, n10, n11⟩ := nd
  refine ⟨⟨same_put (same_put h.sm (h.n0 _ (by simp))) (h.n0 _ (by simp)), ?_, upd_same, ?_, ?_, fun g hg => h.dv g (List.mem_cons_of_mem _ hg), ?_, ?_, fun g hg => h.vb g (List.mem_cons_of_mem _ hg)⟩, ?_⟩
  · rw [upd_ne n1, upd_same]
  · rw [upd_ne (fun e => n5 e.symm), upd_ne (fun e => n2 e.symm)]; exact h.hb0
  · intro g hg
    rw [upd_ne (fun e => n7 (by rw [← e]; exact List.mem_map_of_mem hg)), upd_ne (fun e => n4 (by rw [← e]; exact List.mem_map_of_mem hg))]
    exact h.fr g (List.mem_cons_of_mem _ hg)
  · simp only [List.nodup_cons, List.mem_cons, not_or]
    exact ⟨⟨n1, n2, n4⟩, ⟨n5, n7⟩, n9, n11⟩
  · intro q hq
    refine h.n0 q ?_
    simp only [List.map_cons, List.mem_cons] at hq ⊢
    rcases hq with e | e | e | e
    · exact .inl e
    · exact .inr (.inl e)
    · exact .inr (.inr (.inl e))
    · exact .inr (.inr (.inr (.inr e)))
  · rw [upd_ne (fun e => n6 e.symm), upd_ne (fun e => n3 e.symm)]
    exact h.fr f List.mem_cons_self
theorem EvH.init {K : PySem.W.Frag} {H : Hp} {sy fo b0 : Addr} (n1 : H sy = Option.none) (n2 : upd H sy (.lst []) b0 = Option.none) (n3 : upd (upd H sy (.lst [])) b0 (.lst []) fo = Option.none) : EvH K H sy fo b0 [] [] (upd (upd (upd H sy (.lst [])) b0 (.lst [])) fo (.lst [V.ref b0])) := by
  have s1 := same_upd (o := .lst []) n1
  have s2 := same_upd (o := .lst []) n2
  have s3 := same_upd (o := .lst [V.ref b0]) n3
  have e1 : (upd H sy (.lst [])) sy = some (.lst []) := upd_same
  have e2 : (upd (upd H sy (.lst [])) b0 (.lst [])) b0 = some (.lst []) := upd_same
  refine ⟨s1.trans (s2.trans s3), s3 _ _ (s2 _ _ e1), upd_same, s3 _ _ e2, fun f hf => (nomatch hf), fun f hf => (nomatch hf), ?_, ?_, fun f hf => (nomatch hf)⟩
  · simp only [List.map_nil, List.nodup_cons, List.mem_cons, not_or, List.not_mem_nil, not_false_eq_true, and_true, List.nodup_nil]
    exact ⟨⟨ne_of_none (s2 _ _ e1) n3, ne_of_none e1 n2⟩, fun e => ne_of_none e2 n3 e.symm⟩
  · intro p hp
    simp only [List.map_nil, List.mem_cons, List.not_mem_nil, or_false] at hp
    rcases hp with e | e | e
    · rw [e]; exact n1
    · rw [e]; exact s1.free (s2.free n3)
    · rw [e]; exact s1.free n2
theorem EvH.room {K : PySem.W.Frag} {H0 : Hp} {sy fo b0 : Addr} {S : List Fr} {B : List Int} {H : Hp} (h : EvH K H0 sy fo b0 S B H) : (topV B S).length ≤ (topV B S).length := Nat.le_refl _
theorem addS_len (z : Int) (S : List Fr) : (addS z S).length = S.length := by cases S <;> rfl
theorem ev_two {x : Str} {n : Int} (h : evB x n = true) : n ≤ 2 := by
  rcases ev_len h with ⟨e, _⟩ | ⟨e, _⟩ <;> omega
theorem top_len {S : List Fr} {B : List Int} (h : ∀ f ∈ S, FrOk f) (hb : S = [] → B = []) : (topV B S).length ≤ 1000 := by
  cases S with
  | nil => rw [hb rfl]; exact Nat.zero_le _
  | cons f S =>
    have h1 := h f List.mem_cons_self
    have h2 := h1.lt
    have h3 := ev_two h1.ev
    show f.vals.length ≤ 1000
    omega
theorem at_last {α : Type} (A : List α) (x : α) : atI (A ++ [x]) (-1) = some x := by
  have e : ixN (A ++ [x]).length (-1) = some A.length := by
    unfold ixN
    rw [List.length_append]
    show (if _ then _ else _) = _
    simp
    omega
  unfold atI
  rw [e]
  simp
def RowOk (d : PyData) : Prop := (∃ z : Int, d = .int z ∧ z.natAbs < 10 ^ 40) ∨ (isErr d = true ∧ ∃ es, d = .tuple es ∧ ∀ e ∈ es, NdA e)
/-! ### the quotient -/
def ab (a : Int) : Int := if a < 0 then -a else a
theorem fd_pos {a b : Int} (hb : b ≠ 0) : ∃ e c : Int, 0 < c ∧ a.fdiv b = e / c ∧ ab b = c ∧ ab a = ab e ∧ ((0 < b ∧ e = a ∧ c = b) ∨ (b < 0 ∧ e = -a ∧ c = -b)) := by
  by_cases h : b < 0
  · refine ⟨-a, -b, by omega, ?_, ?_, ?_, .inr ⟨h, rfl, rfl⟩⟩
    · rw [← Int.neg_fdiv_neg, Int.fdiv_eq_ediv_of_nonneg _ (by omega)]
    · unfold ab; rw [if_pos h]
    · unfold ab; split <;> split <;> omega
  · refine ⟨a, b, by omega, Int.fdiv_eq_ediv_of_nonneg _ (by omega), ?_, rfl, .inl ⟨by omega, rfl, rfl⟩⟩
    unfold ab; rw [if_neg h]
theorem fd_same {a b : Int} (hb : b ≠ 0) (h : decide (a < 0) = decide (b < 0)) : ab a / ab b = a.fdiv b := by
  obtain ⟨e, c, hc, h1, h2, h3, h4⟩ := fd_pos (a := a) hb
  rw [h1, h2, h3]
  have : 0 ≤ e := by
    have := decide_eq_decide.mp h
    rcases h4 with ⟨h5, h6, h7⟩ | ⟨h5, h6, h7⟩
    · rw [h6]; omega
    · rw [h6]; have := this.mpr h5; omega
  unfold ab
  rw [if_neg (by omega)]
theorem fd_diff {a b : Int} (hb : b ≠ 0) (h : decide (a < 0) ≠ decide (b < 0)) : (-(ab a / ab b) * b = a → a.fdiv b = -(ab a / ab b)) ∧ (-(ab a / ab b) * b ≠ a → a.fdiv b = -(ab a / ab b) - 1) := by
  obtain ⟨e, c, hc, h1, h2, h3, h4⟩ := fd_pos (a := a) hb
  rw [h1, h2, h3]
  have he : e ≤ 0 := by
    have h : ¬ (a < 0 ↔ b < 0) := fun z => h (decide_eq_decide.mpr z)
    rcases h4 with ⟨h5, h6, h7⟩ | ⟨h5, h6, h7⟩
    · rw [h6]; omega
    · rw [h6]; omega
  have ha : ab e = -e := by unfold ab; split <;> omega
  rw [ha]
  have k1 := Int.emod_add_mul_ediv (-e) c
  have k2 := Int.emod_nonneg (-e) (show c ≠ 0 by omega)
  have k3 := Int.emod_lt_of_pos (-e) hc
  generalize -e / c = q at k1 ⊢
  generalize -e % c = r at k1 k2 k3
  have hm : (-q * b = a ↔ r = 0) := by
    rcases h4 with ⟨h5, h6, h7⟩ | ⟨h5, h6, h7⟩
    · subst h6; subst h7; rw [Int.neg_mul, Int.mul_comm]; omega
    · subst h7; rw [Int.neg_mul]; rw [Int.neg_mul, Int.mul_comm] at k1; omega
  refine ⟨fun z => ?_, fun z => ?_⟩
  · have hr := hm.mp z
    refine ((Int.ediv_emod_unique (r := 0) hc).mpr ⟨?_, Int.le_refl _, hc⟩).1
    rw [Int.mul_neg]
    omega
  · have hr : r ≠ 0 := fun y => z (hm.mpr y)
    refine ((Int.ediv_emod_unique (r := c - r) hc).mpr ⟨?_, by omega, by omega⟩).1
    rw [Int.mul_sub, Int.mul_neg]
    omega
theorem ab_div (a b : Int) (hb : b ≠ 0) : 0 ≤ ab a / ab b ∧ ab a / ab b ≤ ab a := by
  have h1 : 0 ≤ ab a := by unfold ab; split <;> omega
  have h2 : 0 ≤ ab b := by unfold ab; split <;> omega
  exact ⟨Int.ediv_nonneg h1 h2, Int.ediv_le_self _ h1⟩
theorem ab_nat (a : Int) : ab a = (a.natAbs : Int) := by unfold ab; split <;> omega
theorem fm_eq (a b : Int) : a - a.fdiv b * b = a.fmod b := by rw [Int.fmod_def, Int.mul_comm]
theorem dp_ints_of {K : PySem.W.Frag} {H : Hp} : ∀ {ys : List V} {L : List Int}, DpAll K H ys (iDs L) → ys = L.map V.int
  | _, [], h => by cases h; rfl
  | _, z :: L, h => by
    cases h with
    | cons h1 h2 =>
    cases h1
    rw [dp_ints_of h2]; rfl
theorem ints_of : ∀ {ds : List PyData}, (∀ d ∈ ds, RowOk d) → ds.find? isErr = Option.none → ∃ L, ds = iDs L ∧ ∀ z ∈ L, z.natAbs < 10 ^ 40
  | [], _, _ => ⟨[], rfl, fun z h => (nomatch h)⟩
  | d :: r, h, e => by
    rcases h d List.mem_cons_self with ⟨z, rfl, hz⟩ | ⟨h1, _⟩
    · rw [List.find?_cons_of_neg (by exact Bool.false_ne_true)] at e
      obtain ⟨L, rfl, hL⟩ := ints_of (fun d hd => h d (List.mem_cons_of_mem _ hd)) e
      exact ⟨z :: L, rfl, fun y hy => (List.mem_cons.mp hy).elim (fun e => by rw [e]; exact hz) (hL y)⟩
    · rw [List.find?_cons_of_pos h1] at e
      cases e
/-! ### the deep expressions -/
def ndA : PyData := syD "-" 1
def ndP : PyData := syD "+" 2
def ndM : PyData := syD "-" 2
def rep (n : Nat) (ds : List PyData) : List PyData := (List.replicate n ds).flatten
theorem rep_succ (n : Nat) (ds : List PyData) : rep (n + 1) ds = ds ++ rep n ds := by
  unfold rep
  rw [List.replicate_succ, List.flatten_cons]
theorem rep_len (n : Nat) (ds : List PyData) : (rep n ds).length = n * ds.length := by
  unfold rep
  simp
theorem rtl_app (a b : List PyData) : rtl (a ++ b) = a.foldr stepN (rtl b) := by
  induction a with
  | nil => rfl
  | cons d r ih => show stepN d (rtl (r ++ b)) = _; rw [ih]; rfl
theorem res_num {x : Str} {L : List Int} {c : Int} (hd : divB x = false) (hc : calcN x L = c) (hb : c.natAbs < 10 ^ 40) : resD x L = .int c := by
  unfold resD
  rw [if_neg (fun z => by rw [hd] at z; exact absurd z.1 Bool.false_ne_true), if_neg (by rw [hc]; omega), hc]
theorem step_A {z : Int} {st : List PyData} (h : z.natAbs < 10 ^ 40) : stepN ndA (.int z :: st) = .int (-z) :: st := by
  show dueN "-" (iDs [z]) :: st = _
  rw [due_ints (by show evB "-" ((1 : Nat) : Int) = true; decide +kernel), res_num (c := -z) (by decide +kernel) rfl (by omega)]
theorem step_P {y z : Int} {st : List PyData} (h : (y + z).natAbs < 10 ^ 40) : stepN ndP (.int y :: .int z :: st) = .int (y + z) :: st := by
  show dueN "+" (iDs [y, z]) :: st = _
  rw [due_ints (by show evB "+" ((2 : Nat) : Int) = true; decide +kernel), res_num (c := y + z) (by decide +kernel) rfl h]
theorem step_M {y z : Int} {st : List PyData} (h : (y - z).natAbs < 10 ^ 40) : stepN ndM (.int y :: .int z :: st) = .int (y - z) :: st := by
  have hc : calcN "-" [y, z] = y - z := by
    show (if ("-" : Str) = "+" then y + z else if ("-" : Str) = "-" then y - z else if ("-" : Str) = "*" then y * z else if ("-" : Str) = "//" then y.fdiv z else y.fmod z) = _
    rw [if_neg (by decide +kernel), if_pos rfl]
  show dueN "-" (iDs [y, z]) :: st = _
  rw [due_ints (by show evB "-" ((2 : Nat) : Int) = true; decide +kernel), res_num (c := y - z) (by decide +kernel) hc h]
theorem step_E {st : List PyData} : stepN ndP (.int 1 :: instE :: st) = instE :: st := by
  show dueN "+" (iDs [1] ++ instE :: []) :: st = _
  rw [due_err rfl (by decide +kernel)]
theorem fold_A : ∀ (m : Nat) (z : Int), z.natAbs < 10 ^ 40 → (rep (2 * m) [ndA]).foldr stepN [.int z] = [.int z]
  | 0, z, _ => rfl
  | m + 1, z, h => by
    rw [show 2 * (m + 1) = 2 * m + 1 + 1 by omega, rep_succ, rep_succ, List.foldr_append, List.foldr_append, fold_A m z h]
    show stepN ndA (stepN ndA [.int z]) = _
    rw [step_A h, step_A (by omega), Int.neg_neg]
theorem fold_P : ∀ (m : Nat), m ≤ 1000 → (rep m [ndP, .int 1]).foldr stepN [.int 0] = [.int m]
  | 0, _ => rfl
  | m + 1, h => by
    rw [rep_succ, List.foldr_append, fold_P m (by omega)]
    show stepN ndP [.int 1, .int m] = _
    rw [step_P (by omega)]
    congr 2
    omega
theorem fold_E : ∀ (m : Nat), (rep m [ndP, .int 1]).foldr stepN [instE] = [instE]
  | 0 => rfl
  | m + 1 => by
    rw [rep_succ, List.foldr_append, fold_E m]
    exact step_E
theorem rtl_ones : ∀ m : Nat, rtl (rep m [.int 1]) = List.replicate m (.int 1)
  | 0 => rfl
  | m + 1 => by
    rw [rep_succ]
    show PyData.int 1 :: rtl (rep m [.int 1]) = _
    rw [rtl_ones m]
    rfl
theorem fold_M : ∀ (m : Nat) (st : List PyData), m ≤ 1000 → (rep m [ndM]).foldr stepN (.int 1 :: (List.replicate m (.int 1) ++ st)) = .int (1 - m) :: st
  | 0, st, _ => rfl
  | m + 1, st, h => by
    have e : (List.replicate (m + 1) (PyData.int 1) ++ st) = List.replicate m (.int 1) ++ (.int 1 :: st) := by
      rw [List.replicate_succ', List.append_assoc]; rfl
    rw [e, rep_succ, List.foldr_append, fold_M m (.int 1 :: st) (by omega)]
    show stepN ndM (.int (1 - m) :: .int 1 :: st) = _
    rw [step_M (by omega)]
    congr 2
    omega
theorem cls_A : ∀ m : Nat, Cls 1 (rep m [ndA] ++ [.int 3])
  | 0 => ⟨by decide, rfl⟩
  | m + 1 => by
    rw [rep_succ]
    exact ⟨by decide, cls_A m⟩
theorem cls_P {d : PyData} (h : arN d = 0) : ∀ m : Nat, Cls 1 (rep m [ndP, .int 1] ++ [d])
  | 0 => ⟨by decide, by show 1 - 1 + arN d = 0; rw [h]⟩
  | m + 1 => by
    rw [rep_succ]
    exact ⟨by decide, by decide, cls_P h m⟩
theorem cls_ones : ∀ m : Nat, Cls m (rep m [.int 1])
  | 0 => rfl
  | m + 1 => by
    rw [rep_succ]
    exact ⟨Nat.succ_pos m, cls_ones m⟩
theorem cls_M : ∀ (m k : Nat), 0 < k → Cls (k + m) (rep (k + m) [.int 1]) → Cls k (rep m [ndM] ++ rep (k + m) [.int 1])
  | 0, k, _, h => h
  | m + 1, k, hk, h => by
    rw [rep_succ]
    refine ⟨hk, ?_⟩
    have e : k - 1 + arN ndM = k + 1 := by show k - 1 + 2 = k + 1; omega
    show Cls (k - 1 + arN ndM) (rep m [ndM] ++ _)
    rw [e]
    have e2 : k + (m + 1) = k + 1 + m := by omega
    rw [e2] at h ⊢
    exact cls_M m (k + 1) (by omega) h
theorem rep_all {P : PyData → Prop} {ds : List PyData} (h : ∀ d ∈ ds, P d) (n : Nat) : ∀ d ∈ rep n ds, P d := by
  intro d hd
  unfold rep at hd
  obtain ⟨l, hl, hd⟩ := List.mem_flatten.mp hd
  rw [List.eq_of_mem_replicate hl] at hd
  exact h d hd
theorem dp_rep {K : PySem.W.Frag} {H : Hp} {xs : List V} {ds : List PyData} (h : DpAll K H xs ds) : ∀ n : Nat, DpAll K H (List.replicate n xs).flatten (rep n ds)
  | 0 => .nil
  | n + 1 => by
    rw [rep_succ, List.replicate_succ, List.flatten_cons]
    exact DpAll.app h (dp_rep h n)
theorem nd_one : NdA (.int 1) := in_nd (by decide)
theorem nd_P : ∀ d ∈ [ndP, PyData.int 1], NdA d := by
  intro d hd
  simp only [List.mem_cons, List.not_mem_nil, or_false] at hd
  rcases hd with rfl | rfl
  · exact sy_nd (by decide +kernel) (by decide) (by decide)
  · exact nd_one
structure Deep (ds : List PyData) (v : PyData) : Prop where
  c : Cls 1 ds
  n : ∀ d ∈ ds, NdA d
  r : (rtl ds).headD .none = v
  l : ds.length ≤ 1000
theorem app_all {P : PyData → Prop} {a b : List PyData} (ha : ∀ d ∈ a, P d) (hb : ∀ d ∈ b, P d) : ∀ d ∈ a ++ b, P d := fun d hd => (List.mem_append.mp hd).elim (ha d) (hb d)
theorem one_all {P : PyData → Prop} {b : PyData} (hb : P b) : ∀ d ∈ [b], P d := fun d hd => by rw [List.mem_singleton.mp hd]; exact hb
theorem deep_A (m : Nat) (h : m ≤ 489) : Deep (rep (2 * m) [ndA] ++ [.int 3]) (.int 3) := by
  refine ⟨cls_A _, app_all (rep_all (one_all (sy_nd (by decide +kernel) (by decide) (by decide))) _) (one_all (in_nd (by decide))), ?_, ?_⟩
  · rw [rtl_app]
    show ((rep (2 * m) [ndA]).foldr stepN [.int 3]).headD .none = _
    rw [fold_A m 3 (by decide)]
    rfl
  · rw [List.length_append, rep_len]
    show 2 * m * 1 + 1 ≤ 1000
    omega
theorem deep_P (m : Nat) (h : m ≤ 489) : Deep (rep m [ndP, .int 1] ++ [.int 0]) (.int m) := by
  refine ⟨cls_P rfl _, app_all (rep_all nd_P _) (one_all (in_nd (by decide))), ?_, ?_⟩
  · rw [rtl_app]
    show ((rep m [ndP, .int 1]).foldr stepN [.int 0]).headD .none = _
    rw [fold_P m (by omega)]
    rfl
  · rw [List.length_append, rep_len]
    show m * 2 + 1 ≤ 1000
    omega
theorem deep_M (m : Nat) (h : m ≤ 489) : Deep (rep m [ndM] ++ rep (m + 1) [.int 1]) (.int (1 - m)) := by
  refine ⟨?_, app_all (rep_all (one_all (sy_nd (by decide +kernel) (by decide) (by decide))) _) (rep_all (one_all nd_one) _), ?_, ?_⟩
  · have := cls_M m 1 (by decide) (cls_ones _)
    rw [Nat.add_comm 1 m] at this
    exact this
  · rw [rtl_app, rtl_ones, List.replicate_succ]
    have := fold_M m [] (by omega)
    rw [List.append_nil] at this
    rw [this]
    rfl
  · rw [List.length_append, rep_len, rep_len]
    show m * 1 + (m + 1) * 1 ≤ 1000
    omega
theorem deep_E (m : Nat) (h : m ≤ 489) : Deep (rep m [ndP, .int 1] ++ [.tuple [.str "v", .int 0]]) instE := by
  refine ⟨cls_P rfl _, app_all (rep_all nd_P _) (one_all ⟨1, .v 0 (by decide) (by decide)⟩), ?_, ?_⟩
  · rw [rtl_app]
    show ((rep m [ndP, .int 1]).foldr stepN [instE]).headD .none = _
    rw [fold_E m]
    rfl
  · rw [List.length_append, rep_len]
    show m * 2 + 1 ≤ 1000
    omega
/-! ### drawing an expression -/
def others8 : List PyData := [.tuple [.str "a", .int 0], .tuple [.str "+", .int 1], .tuple [.str "/", .int 2], .tuple [.str "-", .int 3], .tuple [.str "mod", .int 1], .tuple [.str "f", .int 2], .tuple [.str "[]", .int 0], .tuple [.str "**", .int 2]]
def SgOk (d : PyData) : Prop := ∃ (x : Str) (k : Nat), d = .tuple [.str x, .int (k : Int)] ∧ okName x = true ∧ k ≤ 8
theorem sg6 : ∀ d ∈ signs6, SgOk d := by
  intro d hd
  unfold signs6 at hd
  simp only [List.mem_cons, List.not_mem_nil, or_false] at hd
  rcases hd with rfl | rfl | rfl | rfl | rfl | rfl
  · exact ⟨_, 2, rfl, by decide +kernel, by decide⟩
  · exact ⟨_, 2, rfl, by decide +kernel, by decide⟩
  · exact ⟨_, 2, rfl, by decide +kernel, by decide⟩
  · exact ⟨_, 2, rfl, by decide +kernel, by decide⟩
  · exact ⟨_, 2, rfl, by decide +kernel, by decide⟩
  · exact ⟨_, 1, rfl, by decide +kernel, by decide⟩
theorem sg8 : ∀ d ∈ others8, SgOk d := by
  intro d hd
  unfold others8 at hd
  simp only [List.mem_cons, List.not_mem_nil, or_false] at hd
  rcases hd with rfl | rfl | rfl | rfl | rfl | rfl | rfl | rfl
  · exact ⟨_, 0, rfl, by decide +kernel, by decide⟩
  · exact ⟨_, 1, rfl, by decide +kernel, by decide⟩
  · exact ⟨_, 2, rfl, by decide +kernel, by decide⟩
  · exact ⟨_, 3, rfl, by decide +kernel, by decide⟩
  · exact ⟨_, 1, rfl, by decide +kernel, by decide⟩
  · exact ⟨_, 2, rfl, by decide +kernel, by decide⟩
  · exact ⟨_, 0, rfl, by decide +kernel, by decide⟩
  · exact ⟨_, 2, rfl, by decide +kernel, by decide⟩
theorem sg_pick {K : PySem.W.Frag} {G : Addr → Prop} {H : Hp} {xs : List V} {ds : List PyData} {r : Int} (h : ∀ d ∈ ds, SgOk d) (a : ImAll K G H xs ds) (r0 : 0 ≤ r) (r1 : r < (ds.length : Int)) : ∃ (x : Str) (k : Nat) (p : Addr), okName x = true ∧ k ≤ 8 ∧ atI xs r = some (.ref p) ∧ G p ∧ H p = some (.tup [.str x, .int (k : Int)]) := by
  have hr : r.toNat < ds.length := by omega
  have hd : ds[r.toNat]? = some ds[r.toNat] := List.getElem?_eq_getElem hr
  obtain ⟨v, hv, iv⟩ := ImAll.get a hd
  obtain ⟨x, k, e, hx, hk⟩ := h _ (List.getElem_mem hr)
  rw [e] at iv
  cases iv with
  | tup g hp ha =>
  cases ha with
  | cons h1 ha =>
  cases ha with
  | cons h2 ha =>
  cases ha
  cases h1
  cases h2
  exact ⟨x, k, _, hx, hk, at_of (j := r.toNat) (by omega) hv, g, hp⟩
theorem ifs_via {c : TT} {t u : TS} {D : Ends} {σ : L2.St} {H : Hp} (P : Hp → Prop) (hu : ∀ H, P H → u D σ H) (hc : (∀ H, P H → u D σ H) → c σ H fun b H1 => if b = true then t D σ H1 else u D σ H1) : tIfS c t u D σ H := hc hu
/-! ### the rows of the law -/
theorem row_noL {d : PyData} (h : RowOk d) : noL d = true := by
  rcases h with ⟨z, rfl, _⟩ | ⟨_, es, rfl, he⟩
  · simp [noL]
  · exact tup_noL he
theorem rows_noL' : ∀ {ds : List PyData}, (∀ d ∈ ds, RowOk d) → noLA ds = true
  | [], _ => by simp [noLA]
  | d :: r, h => by rw [noLA, row_noL (h d List.mem_cons_self), rows_noL' fun e he => h e (List.mem_cons_of_mem _ he)]; rfl
theorem row_sh {d : PyData} (h : RowOk d) : SeqAt.shaped d = true ∧ PyData.eqv d d = true := by
  rcases h with ⟨z, rfl, _⟩ | ⟨_, es, rfl, he⟩
  · exact ⟨rfl, by simp [PyData.eqv]⟩
  · exact ⟨tup_shaped he, tup_eqv he⟩
theorem due_ok {x : Str} {rows : List PyData} (hx : okName x = true) (hl : rows.length ≤ 8) (h : ∀ d ∈ rows, RowOk d) : RowOk (dueN x rows) := by
  unfold dueN
  split
  · cases hf : rows.find? isErr with
    | some e => exact h e (List.mem_of_find?_eq_some hf)
    | none =>
      rcases res_cases x (rows.map intOf) with ⟨z, e, hz⟩ | ⟨e1, es, e2⟩
      · exact .inl ⟨z, e, hz⟩
      · refine .inr ⟨e1, es, e2, ?_⟩
        unfold resD at e2
        split at e2
        · cases e2
          intro d hd
          simp only [List.mem_cons, List.not_mem_nil, or_false] at hd
          rcases hd with rfl | rfl
          · exact sy_nd (by decide +kernel) (by decide) (by decide)
          · exact at_nd (by decide +kernel)
        · split at e2
          · cases e2
            intro d hd
            simp only [List.mem_cons, List.not_mem_nil, or_false] at hd
            rcases hd with rfl | rfl
            · exact sy_nd (by decide +kernel) (by decide) (by decide)
            · exact at_nd (by decide +kernel)
          · cases e2
  · refine .inr ⟨rfl, _, rfl, ?_⟩
    intro d hd
    simp only [List.mem_cons, List.not_mem_nil, or_false] at hd
    rcases hd with rfl | rfl | rfl | rfl | rfl
    · exact sy_nd (by decide +kernel) (by decide) (by decide)
    · exact at_nd (by decide +kernel)
    · exact sy_nd (by decide +kernel) (by decide) (by decide)
    · exact at_nd hx
    · exact in_nd (by omega)
theorem rtl_ok : ∀ {ds : List PyData}, (∀ d ∈ ds, NdA d) → ∀ e ∈ rtl ds, RowOk e
  | [], _, e, h => nomatch h
  | d :: r, hn, e, h => by
    have ih := rtl_ok (ds := r) fun e he => hn e (List.mem_cons_of_mem _ he)
    obtain ⟨wd, nd⟩ := hn d List.mem_cons_self
    cases nd with
    | v n _ _ =>
      rcases List.mem_cons.mp (show e ∈ instE :: rtl r from h) with z | z
      · rw [z]; exact .inr ⟨rfl, _, rfl, one_all (at_nd (by decide +kernel))⟩
      · exact ih e z
    | i n h1 h2 =>
      rcases List.mem_cons.mp (show e ∈ PyData.int n :: rtl r from h) with z | z
      · rw [z]; exact .inl ⟨n, rfl, by omega⟩
      · exact ih e z
    | f x n hx h1 h2 =>
      rcases List.mem_cons.mp (show e ∈ dueN x ((rtl r).take n.toNat) :: (rtl r).drop n.toNat from h) with z | z
      · rw [z]
        refine due_ok hx (by rw [List.length_take]; omega) fun d hd => ih d (List.mem_of_mem_take hd)
      · exact ih e (List.mem_of_mem_drop z)
theorem unsnoc {K : PySem.W.Frag} {H : Hp} : ∀ {ys : List V} {A : List PyData} {e : PyData}, DpAll K H ys (A ++ [e]) → ∃ ys' y, ys = ys' ++ [y] ∧ DpAll K H ys' A ∧ Dp K H y e
  | _, [], e, h => by
    cases h with
    | cons h1 h2 =>
    cases h2
    exact ⟨[], _, rfl, .nil, h1⟩
  | _, a :: A, e, h => by
    cases h with
    | cons h1 h2 =>
    obtain ⟨ys', y, rfl, h3, h4⟩ := unsnoc h2
    exact ⟨_ :: ys', y, rfl, .cons h1 h3, h4⟩
theorem cls_suf : ∀ {ds : List PyData} {m : Nat}, Cls m ds → ∀ i, ∃ k, Cls k (ds.drop i)
  | ds, m, h, 0 => ⟨m, h⟩
  | [], m, h, i + 1 => ⟨0, rfl⟩
  | d :: r, m, h, i + 1 => cls_suf h.2 i
theorem rtl_le : ∀ ds : List PyData, (rtl ds).length ≤ ds.length
  | [] => Nat.le_refl _
  | d :: r => by
    have ih := rtl_le r
    have h : (stepN d (rtl r)).length ≤ (rtl r).length + 1 := by
      unfold stepN
      split <;> (try simp only [List.length_cons, List.length_drop]) <;> omega
    show (stepN d (rtl r)).length ≤ r.length + 1
    omega
theorem row_any {K : PySem.W.Frag} {d : PyData} (h : RowOk d) : PySem.W.kitAny K (.type (tyN d)) [.type "int", .type "tuple"] = some true := by
  rcases h with ⟨z, rfl, _⟩ | ⟨_, es, rfl, _⟩
  · exact kitAny_cons (b := true) (kit_ty (kitI (.int z))) (fun h => by cases h) (fun _ => rfl)
  · exact kitAny_cons (b := false) (kit_ty (kitI (.tuple es))) (fun _ => kitAny_cons (b := true) (kit_ty (kitT (.tuple es))) (fun h => by cases h) (fun _ => rfl)) (fun h => by cases h)
theorem row_bool {d : PyData} (h : RowOk d) : isB d = false := by
  rcases h with ⟨z, rfl, _⟩ | ⟨_, es, rfl, _⟩ <;> rfl
/-! ### the promises -/
def sp_is_variable (K : PySem.W.Frag) : Sp := fun vs H Q _ => ∃ (x : V) (d : PyData), vs = [x] ∧ Dp K H x d ∧ NdA d ∧ Q (.bl (isVarN d)) H
def CalcOk (x : Str) (vals : List Int) : Prop := evB x vals.length = true ∧ (∀ z ∈ vals, z.natAbs < 10 ^ 40) ∧ (divB x = true → vals.getD 1 0 ≠ 0)
def sp_symbol_error (K : PySem.W.Frag) : Sp := fun vs H Q _ => ∃ (x : V) (d : PyData), vs = [x] ∧ Dp K H x d ∧ NdA d ∧ isErr d = true ∧ ∀ v H', Same H H' → Dp K H' v (errD d) → Q v H'
def sp_calculate (K : PySem.W.Frag) : Sp := fun vs H Q _ => ∃ (x : Str) (r : Addr) (vals : List Int), vs = [.str x, .ref r] ∧ H r = some (.lst (vals.map V.int)) ∧ CalcOk x vals ∧ Q (.int (calcN x vals)) H
def sp_result (K : PySem.W.Frag) : Sp := fun vs H Q _ => ∃ (x : Str) (r : Addr) (vals : List Int), vs = [.str x, .ref r] ∧ H r = some (.lst (vals.map V.int)) ∧ evB x vals.length = true ∧ (∀ z ∈ vals, z.natAbs < 10 ^ 40) ∧ ∀ v H', Same H H' → Dp K H' v (resD x vals) → Q v H'
def sp_evaluate (K : PySem.W.Frag) : Sp := fun vs H Q _ => ∃ (t : V) (ds : List PyData), vs = [t] ∧ Dp K H t (.tuple ds) ∧ Cls 1 ds ∧ (∀ d ∈ ds, NdA d) ∧ ds.length ≤ 1000 ∧ ∀ v H', Same H H' → Dp K H' v ((rtl ds).headD .none) → Q v H'
def sp__law_f (K : PySem.W.Frag) : Sp := fun vs H Q _ => ∃ (x : Str) (p : V) (rs : List (List PyData)), vs = [.str x, p] ∧ Dp K H p (.list (rs.map PyData.tuple)) ∧ rs.length ≤ 8 ∧ (∀ r ∈ rs, r.length ≤ 50) ∧ ∀ v H', Same H H' → Dp K H' v (.tuple (syD x rs.length :: rs.flatten)) → Q v H'
def sp__law_number (K : PySem.W.Frag) : Sp := fun vs H Q _ => ∃ (s l : Addr), vs = [.ref s] ∧ Stm H s l ∧ ∀ (z : Int) H', z.natAbs < 10 ^ 40 → But s H H' → Stm H' s l → Q (.int z) H'
def sp__law_combined (K : PySem.W.Frag) : Sp := fun vs H Q _ => ∃ (x : Str) (r : Addr) (vals : List Int), vs = [.str x, .ref r] ∧ H r = some (.lst (vals.map V.int)) ∧ evB x vals.length = true ∧ (∀ z ∈ vals, z.natAbs < 10 ^ 40) ∧ ((divB x = true ∧ vals.getD 1 0 = 0) → Q .non H) ∧ (¬ (divB x = true ∧ vals.getD 1 0 = 0) → Q (.int (calcN x vals)) H)
def sp__law_due (K : PySem.W.Frag) : Sp := fun vs H Q _ => ∃ (x : Str) (r : Addr) (ys : List V) (ds : List PyData), vs = [.str x, .ref r] ∧ okName x = true ∧ H r = some (.lst ys) ∧ DpAll K H ys ds ∧ (∀ d ∈ ds, RowOk d) ∧ ds.length ≤ 8 ∧ ∀ v H', Same H H' → Dp K H' v (dueN x ds) → Q v H'
def sp__law_expression (K : PySem.W.Frag) : Sp := fun vs H Q _ => ∃ (s l : Addr) (n : Int) (w : Bool), vs = [.ref s, .int n, .bl w] ∧ Stm H s l ∧ 0 < n ∧ n ≤ 20 ∧ ∀ v ds H', Cls 1 ds → (∀ d ∈ ds, NdA d) → (ds.length : Int) ≤ n → But s H H' → Stm H' s l → Im K (fun b => H b = Option.none) H' v (.tuple ds) → Q v H'
def sp__law_deep (K : PySem.W.Frag) : Sp := fun vs H Q _ => ∃ (s l : Addr), vs = [.ref s] ∧ Stm H s l ∧ ∀ p t v ds H', H' p = some (.tup [t, v]) → Dp K H' t (.tuple ds) → Dp K H' v ((rtl ds).headD .none) → Cls 1 ds → (∀ d ∈ ds, NdA d) → ds.length ≤ 1000 → RowOk ((rtl ds).headD .none) → Q (.ref p) H'

local macro_rules | `(tactic| walk_at "lits") => `(tactic| repeat' (first | exact lit_int | exact lit_str | exact lit_bl | exact lit_non | exact litA_nil | refine litA_cons ?_ ?_ | refine lit_tup ?_ (by decide) | refine lit_lst ?_ (by decide) | refine lit_neg ?_ | refine lit_sub ?_ ?_ | refine lit_pow ?_ ?_ ⟨by decide, by decide, by decide⟩ | refine lit_mulS ?_ ?_ ⟨by decide, by decide, by decide⟩))
section
variable {P : Program} {w : World} {K : PySem.W.Frag} {mg : Str → Option Value} {base : Heap}
theorem ok_is_integer {f : Addr} {fd : FuncData} (F : Fun K "is_integer" "is_integer" s_is_integer f fd) (E : Bi K mg)  : FnOk P w K mg base CX0 1 f fd ["value"] (sp_is_integer K) := by
  refine F.ok sc_is_integer (fun vs H Q E h => ?_) (fun cdv A outer s H vs Q E' hr h => ?_)
  · obtain ⟨x, d, rfl, _⟩ := h
    rfl
  · obtain ⟨x, d, rfl, hd, q⟩ := h
    refine ⟨_, (pss_one (ps_ret (pe_and (pe_callB call_isi (by rfl) E.b_isinstance (by decide +kernel) (pa_cons (pv 0) (pa_cons (pe_ty "int" (by rfl) E.b_int (by decide +kernel)) pa_nil))) (pe_one (pe_not (pe_callB call_isi (by rfl) E.b_isinstance (by decide +kernel) (pa_cons (pv 0) (pa_cons (pe_ty "bool" (by rfl) E.b_bool (by decide +kernel)) pa_nil)))))))), ?_⟩
    refine ⟨x, rfl, _, _, _, _, _, rfl, .ty _, tyx_of hd, kit_ty (kitI _), _, rfl, ite2 (fun e => ?_) (fun e => ?_)⟩
    · refine ⟨x, rfl, _, _, _, _, _, rfl, .ty _, tyx_of hd, kit_ty (kitBo _), _, rfl, ?_⟩
      have e2 : isInteger d = (!isB d) := by cases d <;> first | rfl | cases e
      rw [e2] at q
      exact q
    · have e2 : isInteger d = false := by cases d <;> first | rfl | exact absurd rfl e
      rw [e2] at q
      exact q

theorem ok_is_name {f : Addr} {fd : FuncData} (F : Fun K "is_name" "is_name" s_is_name f fd) (E : Bi K mg)  : FnOk P w K mg base CX0 1 f fd ["value"] (sp_is_name K) := by
  refine F.ok sc_is_name (fun vs H Q E h => ?_) (fun cdv A outer s H vs Q E' hr h => ?_)
  · obtain ⟨x, d, rfl, _⟩ := h
    rfl
  · obtain ⟨x, d, rfl, hd, hz, q⟩ := h
    refine ⟨_, (pss_cons (ps_if (pw_or (pt_not (pt_val (pe_callB call_isi (by rfl) E.b_isinstance (by decide +kernel) (pa_cons (pv 0) (pa_cons (pe_ty "str" (by rfl) E.b_str (by decide +kernel)) pa_nil))))) (pw_or1 (pt_not (pt_chain op_le op_le pe_int (pe_callB call_len_str (by rfl) E.b_len PySem.boot_len (pa_cons (pv 0) pa_nil)) (pe_gC (by rfl) E.c_MOST_NAME))))).pt (pss_one (ps_ret pe_bl)) pss_nil)
      (pss_one (ps_ret (pe_callB (cr_all rfl) (by rfl) E.b_all (by decide +kernel) (pa_cons (pe_lc (own := [("letter", 1)]) (g := gName 1) (tt := tYes) rfl sc_is_name.nd (pi_str (pv 0)) (blkOk_by (N := N_is_name) (sc := defScope s_is_name) (by decide +kernel)) (fun _ _ _ _ _ => pg_name (i := 1) sc_is_name.nd rfl (Or.inl rfl)) (fun _ _ _ _ _ => pts_nil) (fun _ _ _ _ _ => (pe_and (pe_chain op_le_str op_le_str pe_str (pv 1) pe_str) (pe_one (pe_cmpR op_ne (pe_callB call_ord (by rfl) E.b_ord (by decide +kernel) (pa_cons (pv 1) pa_nil)) (pe_gC (by rfl) E.c_PERCENT) (nomark _)))))) pa_nil))))), ?_⟩
    refine ⟨x, rfl, _, _, _, _, _, rfl, .ty _, tyx_of hd, kit_ty (kitS _), _, rfl, ?_⟩
    by_cases es : isS d = true
    · obtain ⟨z, rfl⟩ : ∃ z, d = .str z := by cases d <;> first | exact ⟨_, rfl⟩ | cases es
      cases hd
      have hz100 := hz z rfl
      have h32 : (Str.ofString " ").cps.toList = [32] := by decide +kernel
      have h126 : (Str.ofString "~").cps.toList = [126] := by decide +kernel
      have en : isName (.str z) = (decide ((1 : Int) ≤ z.length) && decide ((z.length : Int) ≤ 40) && z.cps.toList.all okS2) := rfl
      refine iteF ⟨_, rfl, _, rfl, Nat.le_of_lt (small9k (by omega)), _, _, rfl, rfl, _, rfl, ite2 (fun e => ?_) (fun e => ?_)⟩
      · refine ⟨_, _, rfl, rfl, _, rfl, ?_⟩
        by_cases e1 : decide ((z.length : Int) ≤ 40) = true
        · rw [e1]
          refine iteF ⟨_, rfl, z, rfl, fun D hD => lc_it walk_str (fun i H' => H' = upd H D (.lst ((z.cps.toList.take i).map fun c => V.bl (okS2 c)))) rfl (fun _ _ _ _ => trivial) ?_ ?_⟩
          · rintro i x H1 H2 hi rfl ⟨rfl, c, hc, rfl⟩
            have hlt : i < z.cps.toList.length := by simpa using hi
            have hget : z.cps.toList[i]? = some c := by simpa using hc
            have fin : ∀ b : Bool, b = okS2 c → ∃ acc, (upd H D (.lst ((z.cps.toList.take i).map fun c => V.bl (okS2 c)))) D = some (.lst acc) ∧ acc.length < sizeLine ∧
                upd (upd H D (.lst ((z.cps.toList.take i).map fun c => V.bl (okS2 c)))) D (.lst (acc ++ [V.bl b])) = upd H D (.lst ((z.cps.toList.take (i + 1)).map fun c => V.bl (okS2 c))) := by
              intro b hb
              refine ⟨_, upd_same, ?_, ?_⟩
              · rw [List.length_map, List.length_take]
                exact Nat.lt_of_le_of_lt (Nat.min_le_right _ _) (small9k (by simpa using (show z.cps.size ≤ 9000 from by have : z.length = z.cps.size := rfl; omega)))
              · rw [upd_upd, List.take_add_one, hget, List.map_append, hb]
                rfl
            refine ⟨rfl, _, rfl, _, _, rfl, rfl, _, rfl, ite2 (fun e2 => ?_) (fun e2 => ?_)⟩
            · refine ⟨_, _, rfl, rfl, _, rfl, ite2 (fun e3 => ?_) (fun e3 => ?_)⟩
              · refine ⟨_, rfl, _, rfl, rfl, rfl, ?_⟩
                refine fin _ ?_
                unfold okS2
                rw [h32] at e2
                rw [h126] at e3
                rw [show (!decide ([c] < [32])) = true from e2, show (!decide ([126] < [c])) = true from e3, Bool.true_and, Bool.true_and]
                congr 1
                exact decide_eq_decide.mpr ⟨fun h => V.int.inj h, fun h => congrArg V.int h⟩
              · refine fin _ ?_
                unfold okS2
                rw [h126] at e3
                rw [show (!decide ([126] < [c])) = false from Bool.eq_false_iff.mpr e3, Bool.and_false]
                rfl
            · refine ⟨_, rfl, iteF (fin _ ?_)⟩
              unfold okS2
              rw [h32] at e2
              rw [show (!decide ([c] < [32])) = false from Bool.eq_false_iff.mpr e2]
              rfl
          · rintro H1 rfl
            refine ⟨D, z.cps.toList.map okS2, rfl, SqL.of (by rw [upd_same, List.take_of_length_le (by simp), List.map_map]; rfl), ?_⟩
            have q2 := q (upd H D (.lst ((z.cps.toList.take z.cps.size).map fun c => V.bl (okS2 c)))) (same_upd hD)
            rw [en, show decide ((1 : Int) ≤ z.length) = true from e, e1] at q2
            rw [List.all_map]
            exact q2
        · have q2 := q H (Same.refl H)
          rw [en, Bool.eq_false_iff.mpr e1, Bool.and_false] at q2
          rw [Bool.eq_false_iff.mpr e1]
          exact iteT q2
      · refine ⟨_, rfl, iteT ?_⟩
        have q2 := q H (Same.refl H)
        rw [en, show decide ((1 : Int) ≤ z.length) = false from Bool.eq_false_iff.mpr e] at q2
        exact q2
    · have e2 : isName d = false := by cases d <;> first | rfl | exact absurd rfl es
      have q2 := q H (Same.refl H)
      rw [e2] at q2
      rw [Bool.eq_false_iff.mpr es]
      exact iteT (iteT q2)

theorem ok_is_variable {f : Addr} {fd : FuncData} (F : Fun K "is_variable" "is_variable" s_is_variable f fd) (E : Bi K mg)  : FnOk P w K mg base CX0 1 f fd ["node"] (sp_is_variable K) := by
  refine F.ok sc_is_variable (fun vs H Q E h => ?_) (fun cdv A outer s H vs Q E' hr h => ?_)
  · obtain ⟨x, d, rfl, _⟩ := h
    rfl
  · obtain ⟨x, d, rfl, hd, ⟨wd, nd⟩, q⟩ := h
    refine ⟨_, (pss_one (ps_ret (pe_and (pe_callB call_isi (by rfl) E.b_isinstance (by decide +kernel) (pa_cons (pv 0) (pa_cons (pe_ty "tuple" (by rfl) E.b_tuple (by decide +kernel)) pa_nil))) (pe_one (pe_cmpR op_eq (pe_ix ix_tup (pv 0) pe_int (fun _ _ => rfl)) pe_str (nomark _)))))), ?_⟩
    refine ⟨x, rfl, _, _, _, _, _, rfl, .ty _, tyx_of hd, kit_ty (kitT _), _, rfl, ?_⟩
    cases nd with
    | v n h1 h2 =>
      cases hd with
      | tup hs ha =>
        obtain ⟨v, hv, hdv⟩ := DpAll.get (i := 0) ha rfl
        cases hdv
        refine iteT ⟨_, rfl, _, _, _, _, rfl, rfl, hs, atI_nat (j := 0) hv, rfl, ?_⟩
        rw [decide_eq_true rfl]
        exact q
    | i n h1 h2 => exact iteF q
    | f y n h1 h2 h3 =>
      cases hd with
      | tup hs ha =>
        obtain ⟨v, hv, hdv⟩ := DpAll.get (i := 0) ha rfl
        cases hdv
        refine iteT ⟨_, rfl, _, _, _, _, rfl, rfl, hs, atI_nat (j := 0) hv, rfl, ?_⟩
        rw [show decide (V.str (Str.ofString "f") = V.str (Str.ofString "v")) = false by decide +kernel]
        exact q

theorem ok_is_symbol {f : Addr} {fd : FuncData} (F : Fun K "is_symbol" "is_symbol" s_is_symbol f fd) (E : Bi K mg)  : FnOk P w K mg base CX0 1 f fd ["node"] (sp_is_symbol K) := by
  refine F.ok sc_is_symbol (fun vs H Q E h => ?_) (fun cdv A outer s H vs Q E' hr h => ?_)
  · obtain ⟨x, d, rfl, _⟩ := h
    rfl
  · obtain ⟨x, d, rfl, hd, hn, q⟩ := h
    refine ⟨_, (pss_one (ps_ret (pe_and (pe_callB call_isi (by rfl) E.b_isinstance (by decide +kernel) (pa_cons (pv 0) (pa_cons (pe_ty "tuple" (by rfl) E.b_tuple (by decide +kernel)) pa_nil))) (pe_one (pe_cmpR op_eq (pe_ix ix_tup (pv 0) pe_int (fun _ _ => rfl)) pe_str (nomark _)))))), ?_⟩
    refine ⟨x, rfl, _, _, _, _, _, rfl, .ty _, tyx_of hd, kit_ty (kitT _), _, rfl, ite2 (fun e => ?_) (fun e => ?_)⟩
    · obtain ⟨a, r, sg, rfl, rfl, q2⟩ := first_of hn e
      cases hd with
      | tup hs ha =>
        obtain ⟨v, hv, hdv⟩ := DpAll.get (i := 0) ha rfl
        cases hdv
        refine ⟨_, rfl, _, _, _, _, rfl, rfl, hs, atI_nat (j := 0) hv, rfl, ?_⟩
        rw [q2] at q
        exact q
    · have e2 : isSym d = false := by cases d <;> first | rfl | exact absurd rfl e
      rw [e2] at q
      exact q

theorem ok_calculate {f : Addr} {fd : FuncData} (F : Fun K "calculate" "calculate" s_calculate f fd) (E : Bi K mg)  : FnOk P w K mg base CX0 1 f fd ["name", "values"] (sp_calculate K) := by
  refine F.ok sc_calculate (fun vs H Q E h => ?_) (fun cdv A outer s H vs Q E' hr h => ?_)
  · obtain ⟨x, r, vals, rfl, _⟩ := h
    rfl
  · obtain ⟨x, r, vals, rfl, hq, ok, q⟩ := h
    refine ⟨_, (pss_cons (ps_if (pt_cmpR op_eq (pe_callB call_len_seq (by rfl) E.b_len PySem.boot_len (pa_cons (pv 1) pa_nil)) pe_int (nomark _)) (pss_one (ps_ret (pe_un un_neg (pe_ix ix_list (pv 1) pe_int (fun _ _ => rfl))))) pss_nil)
      (pss_cons (ps_asg (pv 1) (pg_lst rfl (pgs_cons (pg_name (i := 2) sc_calculate.nd rfl (Or.inl rfl)) (pgs_cons (pg_name (i := 3) sc_calculate.nd rfl (Or.inl rfl)) pgs_nil))))
      (pss_cons (ps_if (pt_cmpR op_eq (pv 0) pe_str (nomark _)) (pss_one (ps_ret (pe_op op_add (pv 2) (pv 3)))) pss_nil)
      (pss_cons (ps_if (pt_cmpR op_eq (pv 0) pe_str (nomark _)) (pss_one (ps_ret (pe_op op_sub (pv 2) (pv 3)))) pss_nil)
      (pss_cons (ps_if (pt_cmpR op_eq (pv 0) pe_str (nomark _)) (pss_one (ps_ret (pe_op op_mulW (pv 2) (pv 3)))) pss_nil)
      (pss_cons (ps_if (pt_cmpR op_eq (pv 0) pe_str (nomark _)) (pss_one (ps_ret (pe_op op_fdivNW (pv 2) (pv 3)))) pss_nil)
      (pss_one (ps_ret (pe_op op_modN (pv 2) (pv 3)))))))))), ?_⟩
    obtain ⟨ok1, ok2, ok3⟩ := ok
    refine seq_ifN ?_
    refine ⟨_, rfl, r, _, rfl, .inl (SqL.of hq), rfl, _, rfl, ?_⟩
    rcases ev_vals ok1 with ⟨a, b, rfl, hx⟩ | ⟨a, rfl, hx⟩
    · refine iteF ?_
      have ha := ok2 a (by simp)
      have hb := ok2 b (by simp)
      have hd := div_names hx
      refine seq_asg ?_
      refine ⟨_, rfl, r, _, rfl, SqL.of hq, rfl, _, _, rfl, gname ⟨_, [], rfl, gname ⟨rfl, ?_⟩⟩⟩
      have hq2 : calcN x [a, b] = if x = "+" then a + b else if x = "-" then a - b else if x = "*" then a * b else if x = "//" then a.fdiv b else a.fmod b := rfl
      rw [hq2] at q
      refine seq_ifN ?_
      refine ⟨_, rfl, rfl, _, rfl, ite2 (fun e => ?_) (fun e => ?_)⟩
      · rw [if_pos (str_dec.mp e)] at q
        exact ⟨_, rfl, _, rfl, _, _, rfl, rfl, q⟩
      rw [if_neg (fun z => e (str_dec.mpr z))] at q
      refine seq_ifN ?_
      refine ⟨_, rfl, rfl, _, rfl, ite2 (fun e => ?_) (fun e => ?_)⟩
      · rw [if_pos (str_dec.mp e)] at q
        exact ⟨_, rfl, _, rfl, _, _, rfl, rfl, q⟩
      rw [if_neg (fun z => e (str_dec.mpr z))] at q
      refine seq_ifN ?_
      refine ⟨_, rfl, rfl, _, rfl, ite2 (fun e => ?_) (fun e => ?_)⟩
      · rw [if_pos (str_dec.mp e)] at q
        exact ⟨_, rfl, _, rfl, _, _, rfl, rfl, wide_mul (wide40 ha) (wide40 hb) (by decide) (by decide) (by decide), q⟩
      rename_i e1 e2
      have n1 : ¬ x = "+" := fun z => e1 (str_dec.mpr z)
      have n2 : ¬ x = "-" := fun z => e2 (str_dec.mpr z)
      have n3 : ¬ x = "*" := fun z => e (str_dec.mpr z)
      have hdiv : divB x = true := hd.mpr (by
        rcases hx with z | z | z | z | z
        · exact absurd z n1
        · exact absurd z n2
        · exact absurd z n3
        · exact .inl z
        · exact .inr z)
      have hb0 : b ≠ 0 := ok3 hdiv
      rw [if_neg n3] at q
      refine seq_ifN ?_
      refine ⟨_, rfl, rfl, _, rfl, ite2 (fun e => ?_) (fun e => ?_)⟩
      · rw [if_pos (str_dec.mp e)] at q
        exact ⟨_, rfl, _, rfl, _, _, rfl, rfl, ⟨hb0, log40 hb0 hb⟩, q⟩
      rw [if_neg (fun z => e (str_dec.mpr z))] at q
      exact ⟨_, rfl, _, rfl, _, _, rfl, rfl, hb0, q⟩
    · refine iteT ?_
      exact ⟨_, rfl, _, _, _, _, rfl, rfl, SqL.of hq, atI_nat (j := 0) rfl, _, rfl, q⟩

theorem ok__law_stream {f : Addr} {fd : FuncData} (F : Fun K "_law_stream" "_law_stream" s__law_stream f fd) (E : Bi K mg)  : FnOk P w K mg base CX0 1 f fd ["script"] (sp__law_stream K) := by
  refine F.ok sc__law_stream (fun vs H Q E h => ?_) (fun cdv A outer s H vs Q E' hr h => ?_)
  · obtain ⟨a, ns, rfl, _⟩ := h
    rfl
  · obtain ⟨a, ns, rfl, hS, hl, q⟩ := h
    refine ⟨_, (pss_cons (ps_set (i := 1) sc__law_stream.nd rfl (Or.inl rfl) pe_int)
      (pss_cons (ps_for PassesOwn.never rfl (pi_list (pv 0)) (pg_name (i := 2) sc__law_stream.nd rfl (Or.inl rfl)) (pss_one (ps_set (i := 1) sc__law_stream.nd rfl (Or.inl rfl) (pe_op op_mod (pe_callTy call_int1 (by rfl) E.b_int (by decide +kernel) (pa_cons (pe_op op_add (pe_op op_add (pe_op op_mul (pv 1) pe_int) (pe_op op_mod (pe_callTy call_int1 (by rfl) E.b_int (by decide +kernel) (pa_cons (pv 2) pa_nil)) pe_int)) pe_int) pa_nil)) pe_int))))
      (pss_one (ps_ret (pe_lst (pa_cons (pe_callTy call_list_of (by rfl) E.b_list (by decide +kernel) (pa_cons (pv 0) pa_nil)) (pa_cons pe_int (pa_cons pe_int (pa_cons (pv 1) pa_nil))))))))), ?_⟩
    refine ⟨_, rfl, a, rfl, ⟨_, hS⟩, for_list (K := K) (a := a) (xs := ns.map V.int) (fun i σ H1 => ∃ (m : Int) (v : Option V), σ = [some (.ref a), some (.int m), v] ∧ H1 = H ∧ 0 ≤ m ∧ m < 2147483647)
      ⟨17, none, rfl, rfl, by decide, by decide⟩ (fun i σ H1 _ ⟨_, _, _, e, _⟩ => by rw [e]; exact hS) ?_ ?_⟩
    · rintro i y σ H1 hi ⟨m, v, rfl, rfl, h0, h1⟩
      obtain ⟨z, rfl⟩ : ∃ z, y = V.int z := by
        rw [List.getElem?_map] at hi
        cases e : ns[i]? with
        | none =>
          rw [e] at hi
          cases hi
        | some z =>
          rw [e] at hi
          exact ⟨z, (Option.some.inj hi).symm⟩
      refine ⟨_, rfl, _, _, rfl, rfl, .inr ⟨by decide, by decide⟩, _, rfl, .inl ⟨_, rfl, _, _, rfl, rfl, (by decide : (0 : Int) < 65521), _, _, rfl, rfl, _, _, rfl, rfl, .inl ⟨_, rfl, _, _, rfl, rfl, (by decide : (0 : Int) < 2147483647), ?_⟩⟩⟩
      exact ⟨_, _, rfl, rfl, Int.emod_nonneg _ (by decide), Int.emod_lt_of_pos _ (by decide)⟩
    · rintro σ H1 ⟨m, v, rfl, rfl, h0, h1⟩
      refine ⟨_, rfl, a, _, rfl, .inl hS, fun l hl2 => ⟨_, rfl, (by show 4 ≤ sizeLine; decide), fun p hp => ?_⟩⟩
      have npl : l ≠ p := fun z => by
        rw [← z, upd_same] at hp
        cases hp
      refine q p l _ ((same_upd hl2).free hp) hl2 ((same_upd hl2).trans (same_upd hp)) ⟨0, 0, m, ns, upd_same, ?_, hl, Int.le_refl 0, Int.le_refl 0, h0, h1⟩
      rw [upd_ne npl, upd_same]

theorem ok__law_draw {f : Addr} {fd : FuncData} (F : Fun K "_law_draw" "_law_draw" s__law_draw f fd) (E : Bi K mg)  : FnOk P w K mg base CX0 1 f fd ["stream", "many"] (sp__law_draw K) := by
  refine F.ok sc__law_draw (fun vs H Q E h => ?_) (fun cdv A outer s H vs Q E' hr h => ?_)
  · obtain ⟨s, l, n, rfl, _⟩ := h
    rfl
  · obtain ⟨p, l, n, rfl, hS, hn, hn2, q⟩ := h
    obtain ⟨a, b, m, ns, h1, h2, hlen, ha, hb, hm, hm2⟩ := hS.ex
    have nlp : l ≠ p := fun z => by
      rw [z, h1] at h2
      have h3 := HO.lst.inj (Option.some.inj h2)
      cases ns with
      | nil => cases h3
      | cons x r => cases (List.cons.inj h3).1
    refine ⟨_, (pss_cons (ps_if (pw_and (pt_cmpR op_eq (pe_ix ix_list (pv 0) pe_int (fun _ _ => rfl)) pe_int (nomark _)) (pw_and1 (pt_cmpR op_lt (pe_ix ix_list (pv 0) pe_int (fun _ _ => rfl)) (pe_callB call_len_seq (by rfl) E.b_len PySem.boot_len (pa_cons (pe_ix ix_list (pv 0) pe_int (fun _ _ => rfl)) pa_nil)) (nomark _)))).pt (pss_cons (ps_asg (pe_callB call_abs (by rfl) E.b_abs (by decide +kernel) (pa_cons (pe_callTy call_int1 (by rfl) E.b_int (by decide +kernel) (pa_cons (pe_ix ix_list (pe_ix ix_list (pv 0) pe_int (fun _ _ => rfl)) (pe_ix ix_list (pv 0) pe_int (fun _ _ => rfl)) (fun _ _ => rfl)) pa_nil)) pa_nil)) (pg_sub (pv 0) pe_int set_list))
      (pss_one (ps_asg (pe_op op_add (pe_ix ix_list (pv 0) pe_int (fun _ _ => rfl)) pe_int) (pg_sub (pv 0) pe_int set_list)))) pss_nil)
      (pss_cons (ps_if (pt_cmpR op_eq (pe_ix ix_list (pv 0) pe_int (fun _ _ => rfl)) pe_int (nomark _)) (pss_cons (ps_asg (pe_op op_mod (pe_callTy call_int1 (by rfl) E.b_int (by decide +kernel) (pa_cons (pe_op op_add (pe_op op_mul (pe_ix ix_list (pv 0) pe_int (fun _ _ => rfl)) pe_int) pe_int) pa_nil)) pe_int) (pg_sub (pv 0) pe_int set_list))
      (pss_one (ps_ret (pe_op op_mod (pe_callTy call_int1 (by rfl) E.b_int (by decide +kernel) (pa_cons (pe_op op_fdivW (pe_ix ix_list (pv 0) pe_int (fun _ _ => rfl)) pe_int) pa_nil)) (pv 1))))) pss_nil)
      (pss_cons (ps_set (i := 2) sc__law_draw.nd rfl (Or.inl rfl) (pe_op op_mod (pe_callTy call_int1 (by rfl) E.b_int (by decide +kernel) (pa_cons (pe_ix ix_list (pv 0) pe_int (fun _ _ => rfl)) pa_nil)) (pv 1)))
      (pss_cons (ps_asg (pe_op op_fdivW (pe_ix ix_list (pv 0) pe_int (fun _ _ => rfl)) (pv 1)) (pg_sub (pv 0) pe_int set_list))
      (pss_one (ps_ret (pv 2))))))), ?_⟩
    refine ⟨_, rfl, _, _, _, _, rfl, rfl, SqL.of h1, atI_nat (j := 1) rfl, rfl, _, rfl, ite2 (fun e => ?_) (fun e => ?_)⟩
    · refine ⟨_, rfl, _, _, _, _, rfl, rfl, SqL.of h1, atI_nat (j := 2) rfl, _, rfl, _, _, _, _, rfl, rfl, SqL.of h1, atI_nat (j := 0) rfl, _, _, rfl, .inl (SqL.of h2), _, _, rfl, rfl, _, rfl, ite2 (fun e1 => ?_) (fun e1 => ?_)⟩
      · have e2 : b < (ns.map V.int).length := of_decide_eq_true e1
        rw [List.length_map] at e2
        have hz : (ns.map V.int)[b.toNat]? = some (V.int (ns[b.toNat]'(by omega))) := by
          rw [List.getElem?_map, List.getElem?_eq_getElem (by omega)]
          rfl
        refine ⟨_, rfl, _, _, _, _, rfl, rfl, SqL.of h1, atI_nat (j := 0) rfl, _, rfl, _, _, _, _, rfl, rfl, SqL.of h1, atI_nat (j := 2) rfl, _, _, _, _, rfl, rfl, SqL.of h2, at_of (j := b.toNat) (by omega) hz, .inl ⟨_, rfl, _, rfl, _, rfl, _, _, _, _, rfl, rfl, h1, rfl, ?_⟩⟩
        refine ⟨_, rfl, _, _, _, _, rfl, rfl, SqL.of upd_same, atI_nat (j := 2) rfl, _, _, rfl, rfl, _, rfl, _, _, _, _, rfl, rfl, upd_same, rfl, ?_⟩
        generalize hH : upd _ p _ = H1
        have hX : ∃ a' b' : Int, H1 p = some (.lst [.ref l, .int a', .int b', .int m]) ∧ 0 ≤ a' ∧ 0 ≤ b' := ⟨_, _, by rw [← hH]; exact upd_same, by split <;> omega, by omega⟩
        have hB : But p H H1 := by rw [← hH]; exact But.put.trans But.put
        have hL : H1 l = some (.lst (ns.map V.int)) := hB l _ nlp h2
        clear hH
        obtain ⟨a', b', hX, ha', hb'⟩ := hX
        refine ⟨_, rfl, _, _, _, _, rfl, rfl, SqL.of hX, atI_nat (j := 1) rfl, rfl, _, rfl, ite2 (fun e3 => ?_) (fun e3 => ?_)⟩
        · refine ⟨_, rfl, _, _, _, _, rfl, rfl, SqL.of hX, atI_nat (j := 3) rfl, _, _, rfl, rfl, .inr ⟨by decide, by decide⟩, _, _, rfl, rfl, .inl ⟨_, rfl, _, _, rfl, rfl, (by decide : (0 : Int) < 2147483647), _, rfl, _, _, _, _, rfl, rfl, hX, rfl, ?_⟩⟩
          refine ⟨_, rfl, _, _, _, _, rfl, rfl, SqL.of upd_same, atI_nat (j := 3) rfl, _, _, rfl, rfl, wide_div (b := 64) (by decide) (by decide) (by decide) (by decide), .inl ⟨_, rfl, _, rfl, _, _, rfl, rfl, hn, ?_⟩⟩
          exact q _ _ (Int.emod_nonneg _ (by omega)) (Int.emod_lt_of_pos _ hn) (hB.trans But.put) ⟨a', b', _, ns, upd_same, by rw [upd_ne nlp]; exact hL, hlen, ha', hb', Int.emod_nonneg _ (by decide), Int.emod_lt_of_pos _ (by decide)⟩
        · refine ⟨_, rfl, _, _, _, _, rfl, rfl, SqL.of hX, atI_nat (j := 1) rfl, .inl ⟨_, rfl, _, rfl, _, _, rfl, rfl, hn, ?_⟩⟩
          refine ⟨_, rfl, _, _, _, _, rfl, rfl, SqL.of hX, atI_nat (j := 1) rfl, _, rfl, _, _, rfl, rfl, wide_div hn hn2 (by decide) (by decide), _, rfl, _, _, _, _, rfl, rfl, hX, rfl, ?_⟩
          refine ⟨_, rfl, ?_⟩
          exact q _ _ (Int.emod_nonneg _ (by omega)) (Int.emod_lt_of_pos _ hn) (hB.trans But.put) ⟨_, b', m, ns, upd_same, by rw [upd_ne nlp]; exact hL, hlen, Int.ediv_nonneg ha' (by omega), hb', hm, hm2⟩
      · have hX : ∃ a' b' : Int, H p = some (.lst [.ref l, .int a', .int b', .int m]) ∧ 0 ≤ a' ∧ 0 ≤ b' := ⟨_, _, h1, ha, hb⟩
        have hB : But p H H := But.refl p H
        have hL := h2
        obtain ⟨a', b', hX, ha', hb'⟩ := hX
        refine ⟨_, rfl, _, _, _, _, rfl, rfl, SqL.of hX, atI_nat (j := 1) rfl, rfl, _, rfl, ite2 (fun e3 => ?_) (fun e3 => ?_)⟩
        · refine ⟨_, rfl, _, _, _, _, rfl, rfl, SqL.of hX, atI_nat (j := 3) rfl, _, _, rfl, rfl, .inr ⟨by decide, by decide⟩, _, _, rfl, rfl, .inl ⟨_, rfl, _, _, rfl, rfl, (by decide : (0 : Int) < 2147483647), _, rfl, _, _, _, _, rfl, rfl, hX, rfl, ?_⟩⟩
          refine ⟨_, rfl, _, _, _, _, rfl, rfl, SqL.of upd_same, atI_nat (j := 3) rfl, _, _, rfl, rfl, wide_div (b := 64) (by decide) (by decide) (by decide) (by decide), .inl ⟨_, rfl, _, rfl, _, _, rfl, rfl, hn, ?_⟩⟩
          exact q _ _ (Int.emod_nonneg _ (by omega)) (Int.emod_lt_of_pos _ hn) (hB.trans But.put) ⟨a', b', _, ns, upd_same, by rw [upd_ne nlp]; exact hL, hlen, ha', hb', Int.emod_nonneg _ (by decide), Int.emod_lt_of_pos _ (by decide)⟩
        · refine ⟨_, rfl, _, _, _, _, rfl, rfl, SqL.of hX, atI_nat (j := 1) rfl, .inl ⟨_, rfl, _, rfl, _, _, rfl, rfl, hn, ?_⟩⟩
          refine ⟨_, rfl, _, _, _, _, rfl, rfl, SqL.of hX, atI_nat (j := 1) rfl, _, rfl, _, _, rfl, rfl, wide_div hn hn2 (by decide) (by decide), _, rfl, _, _, _, _, rfl, rfl, hX, rfl, ?_⟩
          refine ⟨_, rfl, ?_⟩
          exact q _ _ (Int.emod_nonneg _ (by omega)) (Int.emod_lt_of_pos _ hn) (hB.trans But.put) ⟨_, b', m, ns, upd_same, by rw [upd_ne nlp]; exact hL, hlen, Int.ediv_nonneg ha' (by omega), hb', hm, hm2⟩
    · have hX : ∃ a' b' : Int, H p = some (.lst [.ref l, .int a', .int b', .int m]) ∧ 0 ≤ a' ∧ 0 ≤ b' := ⟨_, _, h1, ha, hb⟩
      have hB : But p H H := But.refl p H
      have hL := h2
      obtain ⟨a', b', hX, ha', hb'⟩ := hX
      refine ⟨_, rfl, _, _, _, _, rfl, rfl, SqL.of hX, atI_nat (j := 1) rfl, rfl, _, rfl, ite2 (fun e3 => ?_) (fun e3 => ?_)⟩
      · refine ⟨_, rfl, _, _, _, _, rfl, rfl, SqL.of hX, atI_nat (j := 3) rfl, _, _, rfl, rfl, .inr ⟨by decide, by decide⟩, _, _, rfl, rfl, .inl ⟨_, rfl, _, _, rfl, rfl, (by decide : (0 : Int) < 2147483647), _, rfl, _, _, _, _, rfl, rfl, hX, rfl, ?_⟩⟩
        refine ⟨_, rfl, _, _, _, _, rfl, rfl, SqL.of upd_same, atI_nat (j := 3) rfl, _, _, rfl, rfl, wide_div (b := 64) (by decide) (by decide) (by decide) (by decide), .inl ⟨_, rfl, _, rfl, _, _, rfl, rfl, hn, ?_⟩⟩
        exact q _ _ (Int.emod_nonneg _ (by omega)) (Int.emod_lt_of_pos _ hn) (hB.trans But.put) ⟨a', b', _, ns, upd_same, by rw [upd_ne nlp]; exact hL, hlen, ha', hb', Int.emod_nonneg _ (by decide), Int.emod_lt_of_pos _ (by decide)⟩
      · refine ⟨_, rfl, _, _, _, _, rfl, rfl, SqL.of hX, atI_nat (j := 1) rfl, .inl ⟨_, rfl, _, rfl, _, _, rfl, rfl, hn, ?_⟩⟩
        refine ⟨_, rfl, _, _, _, _, rfl, rfl, SqL.of hX, atI_nat (j := 1) rfl, _, rfl, _, _, rfl, rfl, wide_div hn hn2 (by decide) (by decide), _, rfl, _, _, _, _, rfl, rfl, hX, rfl, ?_⟩
        refine ⟨_, rfl, ?_⟩
        exact q _ _ (Int.emod_nonneg _ (by omega)) (Int.emod_lt_of_pos _ hn) (hB.trans But.put) ⟨_, b', m, ns, upd_same, by rw [upd_ne nlp]; exact hL, hlen, Int.ediv_nonneg ha' (by omega), hb', hm, hm2⟩

theorem ok__law_f {f : Addr} {fd : FuncData} (F : Fun K "_law_f" "_law_f" s__law_f f fd) (E : Bi K mg)  : FnOk P w K mg base CX0 1 f fd ["name", "parts"] (sp__law_f K) := by
  refine F.ok sc__law_f (fun vs H Q E h => ?_) (fun cdv A outer s H vs Q E' hr h => ?_)
  · obtain ⟨x, p, rs, rfl, _⟩ := h
    rfl
  · obtain ⟨x, p, rs, rfl, hp, l8, l50, q⟩ := h
    refine ⟨_, (pss_cons (ps_set (i := 2) sc__law_f.nd rfl (Or.inl rfl) (pe_tup (pa_cons (pe_tup (pa_cons pe_str (pa_cons (pv 0) (pa_cons (pe_callB call_len_seq (by rfl) E.b_len PySem.boot_len (pa_cons (pv 1) pa_nil)) pa_nil)))) pa_nil)))
      (pss_cons (ps_for PassesOwn.never rfl (pi_list (pv 1)) (pg_name (i := 3) sc__law_f.nd rfl (Or.inl rfl)) (pss_one (ps_set (i := 2) sc__law_f.nd rfl (Or.inl rfl) (pe_op op_catA (pv 2) (pv 3)))))
      (pss_one (ps_ret (pv 2))))), ?_⟩
    cases id hp with
    | @lst a xs _ hs ha =>
    have hxl := DpAll.len ha
    rw [List.length_map] at hxl
    refine seq_asg ?_
    refine ⟨_, rfl, _, rfl, a, xs, rfl, .inl hs, (by show 3 ≤ sizeLine; decide), fun p1 np1 => ⟨(by show 1 ≤ sizeLine; decide), fun p2 np2 => ?_⟩⟩
    have s12 := (same_upd (o := .tup [.str "f", .str x, .int ((xs.length : Nat) : Int)]) np1).trans (same_upd (o := .tup [.ref p1]) np2)
    have d2 : Dp K (upd (upd H p1 (.tup [.str "f", .str x, .int ((xs.length : Nat) : Int)])) p2 (.tup [.ref p1])) (.ref p2) (.tuple [syD x rs.length]) := .tup (SqT.of upd_same) (.cons (.tup (SqT.of (same_upd np2 _ _ upd_same)) (.cons (.str _) (.cons (.str _) (.cons (by rw [hxl]; exact .int _) .nil)))) .nil)
    generalize upd (upd H p1 (.tup [.str "f", .str x, .int ((xs.length : Nat) : Int)])) p2 (.tup [.ref p1]) = H2 at s12 d2 ⊢
    refine gname (seq_any ?_)
    have fl : ∀ i, ((rs.take i).flatten).length ≤ 50 * i := fun i => by
      induction i with
      | zero => exact Nat.le_refl _
      | succ i ih =>
        rw [List.take_add_one, List.flatten_append, List.length_append]
        cases hr : rs[i]? with
        | none =>
          show _ + 0 ≤ _
          omega
        | some r =>
          have := l50 r (List.mem_of_getElem? hr)
          show _ + (r ++ []).length ≤ _
          rw [List.append_nil]
          omega
    refine ⟨_, rfl, a, rfl, ⟨_, s12.seq hs⟩, for_list (K := K) (a := a) (xs := xs) (fun i σ H' => ∃ v3 t, σ = [some (.str x), some (.ref a), some t, v3] ∧ Same H H' ∧ Dp K H' t (.tuple (syD x rs.length :: (rs.take i).flatten)))
      ⟨none, .ref p2, rfl, s12, d2⟩ (fun i σ H' _ ⟨_, _, _, e, _⟩ => e.seq hs) ?_ ?_⟩
    · rintro i y σ H3 hi ⟨v3, t, rfl, s3, d3⟩
      obtain ⟨dd, hd, dy0⟩ := DpAll.getV ha hi
      rw [List.getElem?_map] at hd
      obtain ⟨r, hr9, rfl⟩ : ∃ r, rs[i]? = some r ∧ PyData.tuple r = dd := by
        cases hr2 : rs[i]? with
        | none => rw [hr2] at hd; cases hd
        | some r => rw [hr2] at hd; exact ⟨r, rfl, Option.some.inj hd⟩
      have hil := (List.getElem?_eq_some_iff.mp hr9).1
      have h1 := fl i
      have h2 := l50 r (List.mem_of_getElem? hr9)
      have hT : (rs.take (i + 1)).flatten = (rs.take i).flatten ++ r := by rw [List.take_add_one, hr9, List.flatten_append]; show _ ++ (r ++ []) = _; rw [List.append_nil]
      refine gname (asg1 ?_)
      refine ⟨_, rfl, _, rfl, ?_⟩
      refine cat_dpA d3 (dp_same s3 _ _ dy0) (by rw [List.length_cons]; omega) fun v H4 s4 d4 => ?_
      refine gname ⟨_, v, rfl, s3.trans s4, ?_⟩
      rw [hT]
      exact d4
    · rintro σ H3 ⟨v3, t, rfl, s3, d3⟩
      rw [hxl, List.take_length] at d3
      exact nxp ⟨_, rfl, q t H3 s3 d3⟩

theorem ok__law_combined {f : Addr} {fd : FuncData} (F : Fun K "_law_combined" "_law_combined" s__law_combined f fd) (E : Bi K mg)  : FnOk P w K mg base CX0 1 f fd ["name", "values"] (sp__law_combined K) := by
  refine F.ok sc__law_combined (fun vs H Q E h => ?_) (fun cdv A outer s H vs Q E' hr h => ?_)
  · obtain ⟨x, r, vals, rfl, _⟩ := h
    rfl
  · obtain ⟨x, r, vals, rfl, hq, hev, hbd, q0, q1⟩ := h
    refine ⟨_, (pss_cons (ps_if (pt_cmpR op_eq (pe_callB call_len_seq (by rfl) E.b_len PySem.boot_len (pa_cons (pv 1) pa_nil)) pe_int (nomark _)) (pss_one (ps_ret (pe_un un_neg (pe_ix ix_list (pv 1) pe_int (fun _ _ => rfl))))) pss_nil)
      (pss_cons (ps_asg (pv 1) (pg_lst rfl (pgs_cons (pg_name (i := 2) sc__law_combined.nd rfl (Or.inl rfl)) (pgs_cons (pg_name (i := 3) sc__law_combined.nd rfl (Or.inl rfl)) pgs_nil))))
      (pss_cons (ps_if (pt_cmpR op_eq (pv 0) pe_str (nomark _)) (pss_one (ps_ret (pe_op op_add (pv 2) (pv 3)))) pss_nil)
      (pss_cons (ps_if (pt_cmpR op_eq (pv 0) pe_str (nomark _)) (pss_one (ps_ret (pe_op op_sub (pv 2) (pv 3)))) pss_nil)
      (pss_cons (ps_if (pt_cmpR op_eq (pv 0) pe_str (nomark _)) (pss_one (ps_ret (pe_op op_mulW (pv 2) (pv 3)))) pss_nil)
      (pss_cons (ps_if (pt_cmpR op_eq (pv 3) pe_int (nomark _)) (pss_one (ps_ret pe_non)) pss_nil)
      (pss_cons (ps_set (i := 4) sc__law_combined.nd rfl (Or.inl rfl) (pe_op op_fdivW (pe_callB call_abs (by rfl) E.b_abs (by decide +kernel) (pa_cons (pv 2) pa_nil)) (pe_callB call_abs (by rfl) E.b_abs (by decide +kernel) (pa_cons (pv 3) pa_nil))))
      (pss_cons (ps_if (pt_cmpR op_ne (pe_cmpR op_lt (pv 2) pe_int (nomark _)) (pe_cmpR op_lt (pv 3) pe_int (nomark _)) (nomark _)) (pss_cons (ps_set (i := 4) sc__law_combined.nd rfl (Or.inl rfl) (pe_un un_neg (pv 4)))
      (pss_one (ps_if (pt_cmpR op_ne (pe_op op_mulW (pv 4) (pv 3)) (pv 2) (nomark _)) (pss_one (ps_set (i := 4) sc__law_combined.nd rfl (Or.inl rfl) (pe_op op_sub (pv 4) pe_int))) pss_nil))) pss_nil)
      (pss_cons (ps_if (pt_cmpR op_eq (pv 0) pe_str (nomark _)) (pss_one (ps_ret (pv 4))) pss_nil)
      (pss_one (ps_ret (pe_op op_sub (pv 2) (pe_op op_mulW (pv 4) (pv 3)))))))))))))), ?_⟩
    refine seq_ifN ?_
    refine ⟨_, rfl, r, _, rfl, .inl (SqL.of hq), rfl, _, rfl, ?_⟩
    rcases ev_vals hev with ⟨a, b, rfl, hx⟩ | ⟨a, rfl, hx⟩
    · refine iteF ?_
      have ha := hbd a (by simp)
      have hb := hbd b (by simp)
      have hd := div_names hx
      refine seq_asg ?_
      refine ⟨_, rfl, r, _, rfl, SqL.of hq, rfl, _, _, rfl, gname ⟨_, [], rfl, gname ⟨rfl, ?_⟩⟩⟩
      have hq2 : calcN x [a, b] = if x = "+" then a + b else if x = "-" then a - b else if x = "*" then a * b else if x = "//" then a.fdiv b else a.fmod b := rfl
      rw [hq2] at q1
      refine seq_ifN ?_
      refine ⟨_, rfl, rfl, _, rfl, ite2 (fun e => ?_) (fun e => ?_)⟩
      · have ex := str_dec.mp e
        rw [if_pos ex] at q1
        exact ⟨_, rfl, _, rfl, _, _, rfl, rfl, q1 fun z => by rw [ex] at z; exact absurd z.1 (by decide +kernel)⟩
      rw [if_neg (fun z => e (str_dec.mpr z))] at q1
      refine seq_ifN ?_
      refine ⟨_, rfl, rfl, _, rfl, ite2 (fun e => ?_) (fun e => ?_)⟩
      · have ex := str_dec.mp e
        rw [if_pos ex] at q1
        exact ⟨_, rfl, _, rfl, _, _, rfl, rfl, q1 fun z => by rw [ex] at z; exact absurd z.1 (by decide +kernel)⟩
      rw [if_neg (fun z => e (str_dec.mpr z))] at q1
      refine seq_ifN ?_
      refine ⟨_, rfl, rfl, _, rfl, ite2 (fun e => ?_) (fun e => ?_)⟩
      · have ex := str_dec.mp e
        rw [if_pos ex] at q1
        exact ⟨_, rfl, _, rfl, _, _, rfl, rfl, wide_mul (wide40 ha) (wide40 hb) (by decide) (by decide) (by decide), q1 fun z => by rw [ex] at z; exact absurd z.1 (by decide +kernel)⟩
      rename_i e1 e2
      have n1 : ¬ x = "+" := fun z => e1 (str_dec.mpr z)
      have n2 : ¬ x = "-" := fun z => e2 (str_dec.mpr z)
      have n3 : ¬ x = "*" := fun z => e (str_dec.mpr z)
      rw [if_neg n3] at q1
      have hdiv : divB x = true := hd.mpr (by
        rcases hx with z | z | z | z | z
        · exact absurd z n1
        · exact absurd z n2
        · exact absurd z n3
        · exact .inl z
        · exact .inr z)
      refine seq_ifN ?_
      refine ⟨_, rfl, rfl, _, rfl, ite2 (fun e => ?_) (fun e => ?_)⟩
      · exact q0 ⟨hdiv, V.int.inj (of_decide_eq_true e)⟩
      have hb0 : b ≠ 0 := fun z => e (decide_eq_true (congrArg V.int z))
      have q1 := q1 fun z => hb0 z.2
      have hab := ab_div a b hb0
      have hna := ab_nat a
      have hnb := ab_nat b
      refine seq_asg ?_
      refine ⟨_, rfl, a, rfl, _, rfl, b, rfl, _, _, rfl, rfl, ⟨by show 0 < ab b; omega, (Nat.log2_lt (by show (ab b).natAbs ≠ 0; omega)).mpr (Nat.lt_of_lt_of_le (wide40 (by show (ab b).natAbs < _; omega)) (Nat.pow_le_pow_right (by decide) (by decide)))⟩, gname ?_⟩
      show tSeq _ _ _ [some (V.str x), some (.ref r), some (.int a), some (.int b), some (.int (ab a / ab b))] H
      have hw : ∀ k : Int, k.natAbs ≤ (ab a / ab b).natAbs + 1 → CMulW k b := fun k hk => wide_mul (a := 140) (b := 140) (by
        have : k.natAbs ≤ 10 ^ 40 := by omega
        exact Nat.lt_of_le_of_lt this (by decide)) (wide40 hb) (by decide) (by decide) (by decide)
      refine seq_via (fun σ H' => σ = [some (V.str x), some (.ref r), some (.int a), some (.int b), some (.int (a.fdiv b))] ∧ H' = H ∧ (a.fdiv b).natAbs ≤ (ab a / ab b).natAbs + 1) ?_ (fun go => ?_)
      · rintro σ H' ⟨rfl, rfl, hfd⟩
        refine seq_ifN ?_
        refine ⟨_, rfl, rfl, _, rfl, ite2 (fun e => ?_) (fun e => ?_)⟩
        · rw [if_pos (str_dec.mp e)] at q1
          exact ⟨_, rfl, q1⟩
        · rw [if_neg (fun z => e (str_dec.mpr z)), ← fm_eq] at q1
          exact ⟨_, rfl, _, rfl, _, rfl, _, _, rfl, rfl, hw _ hfd, _, _, rfl, rfl, q1⟩
      · refine ⟨_, rfl, _, _, rfl, rfl, _, rfl, _, _, rfl, rfl, rfl, _, rfl, ite2 (fun e => ?_) (fun e => ?_)⟩
        · have e : (!decide (V.bl (decide (a < 0)) = V.bl (decide (b < 0)))) = true := e
          have hne : decide (a < 0) ≠ decide (b < 0) := fun z => by
            rw [z, decide_eq_true rfl] at e
            exact absurd e Bool.false_ne_true
          obtain ⟨f1, f2⟩ := fd_diff hb0 hne
          refine seq_asg ⟨_, rfl, _, rfl, gname ?_⟩
          refine ⟨_, rfl, _, rfl, _, _, rfl, rfl, hw _ (by omega), _, rfl, rfl, _, rfl, ite2 (fun e2 => ?_) (fun e2 => ?_)⟩
          · have e2 : (!decide (V.int (-(ab a / ab b) * b) = V.int a)) = true := e2
            have e3 : -(ab a / ab b) * b ≠ a := fun z => by
              rw [decide_eq_true (congrArg V.int z)] at e2
              exact absurd e2 Bool.false_ne_true
            have e4 := f2 e3
            refine asg1 ⟨_, rfl, _, _, rfl, rfl, gname (go _ _ ⟨?_, rfl, by omega⟩)⟩
            rw [e4]
            rfl
          · have e3 : -(ab a / ab b) * b = a := Classical.byContradiction fun z => e2 (by show (!decide (V.int (-(ab a / ab b) * b) = V.int a)) = true; rw [decide_eq_false (fun y => z (V.int.inj y))]; rfl)
            have e4 := f1 e3
            refine go _ _ ⟨?_, rfl, by omega⟩
            rw [e4]
            rfl
        · have hs : decide (a < 0) = decide (b < 0) := Classical.byContradiction fun z => e (by show (!decide (V.bl (decide (a < 0)) = V.bl (decide (b < 0)))) = true; rw [decide_eq_false (fun y => z (V.bl.inj y))]; rfl)
          have e4 := fd_same hb0 hs
          exact go _ _ ⟨by rw [← e4], rfl, by rw [← e4]; omega⟩
    · refine iteT ?_
      have q1 := q1 fun z => by rw [hx] at z; exact absurd z.1 (by decide +kernel)
      exact ⟨_, rfl, r, _, _, _, rfl, rfl, SqL.of hq, atI_nat (j := 0) rfl, a, rfl, q1⟩

theorem ok_is_bounded {f : Addr} {fd : FuncData} (F : Fun K "is_bounded" "is_bounded" s_is_bounded f fd) (E : Bi K mg) (D_is_integer : Has P w K mg base 1 "is_integer" ["value"] (sp_is_integer K)) : FnOk P w K mg base CX0 2 f fd ["value"] (sp_is_bounded K) := by
  obtain ⟨f_is_integer, fd_is_integer, G_is_integer, g_is_integer, kp_is_integer, b_is_integer⟩ := D_is_integer
  refine F.ok sc_is_bounded (fun vs H Q E h => ?_) (fun cdv A outer s H vs Q E' hr h => ?_)
  · obtain ⟨x, d, rfl, _⟩ := h
    rfl
  · obtain ⟨x, d, rfl, hd, q⟩ := h
    refine ⟨_, (pss_one (ps_ret (pe_and (pe_call G_is_integer (hr.mono (by decide)) (by rfl) g_is_integer kp_is_integer b_is_integer .nil pass0 (pa_cons (pv 0) pa_nil)) (pe_one (pe_cmpR op_lt (pe_callB call_abs (by rfl) E.b_abs (by decide +kernel) (pa_cons (pv 0) pa_nil)) (pe_gC (by rfl) E.c_INTEGER_BOUND) (nomark _)))))), ?_⟩
    refine ⟨x, rfl, x, d, rfl, hd, _, rfl, ite2 (fun e => ?_) (fun e => ?_)⟩
    · obtain ⟨i, rfl⟩ : ∃ i, d = .int i := by cases d <;> first | exact ⟨_, rfl⟩ | cases e
      cases hd
      refine ⟨_, rfl, _, rfl, _, _, rfl, rfl, ?_⟩
      exact q
    · have e2 : isBounded d = false := by cases d <;> first | rfl | exact absurd rfl e
      rw [e2] at q
      exact q

theorem ok_is_arity {f : Addr} {fd : FuncData} (F : Fun K "is_arity" "is_arity" s_is_arity f fd) (E : Bi K mg) (D_is_integer : Has P w K mg base 1 "is_integer" ["value"] (sp_is_integer K)) : FnOk P w K mg base CX0 2 f fd ["value"] (sp_is_arity K) := by
  obtain ⟨f_is_integer, fd_is_integer, G_is_integer, g_is_integer, kp_is_integer, b_is_integer⟩ := D_is_integer
  refine F.ok sc_is_arity (fun vs H Q E h => ?_) (fun cdv A outer s H vs Q E' hr h => ?_)
  · obtain ⟨x, d, rfl, _⟩ := h
    rfl
  · obtain ⟨x, d, rfl, hd, q⟩ := h
    refine ⟨_, (pss_one (ps_ret (pe_and (pe_call G_is_integer (hr.mono (by decide)) (by rfl) g_is_integer kp_is_integer b_is_integer .nil pass0 (pa_cons (pv 0) pa_nil)) (pe_one (pe_chain op_le op_le pe_int (pv 0) (pe_gC (by rfl) E.c_MOST_ARITY)))))), ?_⟩
    refine ⟨x, rfl, x, d, rfl, hd, _, rfl, ite2 (fun e => ?_) (fun e => ?_)⟩
    · obtain ⟨i, rfl⟩ : ∃ i, d = .int i := by cases d <;> first | exact ⟨_, rfl⟩ | cases e
      cases hd
      refine ⟨_, rfl, _, _, rfl, rfl, _, rfl, ite2 (fun e1 => ?_) (fun e1 => ?_)⟩
      · refine ⟨_, _, rfl, rfl, ?_⟩
        have e2 : isArity (.int i) = decide (i ≤ 8) := by show (decide (0 ≤ i) && decide (i ≤ 8)) = _; rw [e1]; rfl
        rw [e2] at q
        exact q
      · have e2 : isArity (.int i) = false := by show (decide (0 ≤ i) && decide (i ≤ 8)) = _; rw [Bool.eq_false_iff.mpr e1]; rfl
        rw [e2] at q
        exact q
    · have e2 : isArity d = false := by cases d <;> first | rfl | exact absurd rfl e
      rw [e2] at q
      exact q

theorem ok_arity_of {f : Addr} {fd : FuncData} (F : Fun K "arity_of" "arity_of" s_arity_of f fd) (E : Bi K mg) (D_is_symbol : Has P w K mg base 1 "is_symbol" ["node"] (sp_is_symbol K)) : FnOk P w K mg base CX0 2 f fd ["node"] (sp_arity_of K) := by
  obtain ⟨f_is_symbol, fd_is_symbol, G_is_symbol, g_is_symbol, kp_is_symbol, b_is_symbol⟩ := D_is_symbol
  refine F.ok sc_arity_of (fun vs H Q E h => ?_) (fun cdv A outer s H vs Q E' hr h => ?_)
  · obtain ⟨x, d, rfl, _⟩ := h
    rfl
  · obtain ⟨x, d, rfl, hd, hn, q⟩ := h
    refine ⟨_, (pss_one (ps_ret (pe_ifExp (pt_val (pe_call G_is_symbol (hr.mono (by decide)) (by rfl) g_is_symbol kp_is_symbol b_is_symbol .nil pass0 (pa_cons (pv 0) pa_nil))) (pe_ix ix_tup (pv 0) pe_int (fun _ _ => rfl)) pe_int))), ?_⟩
    refine ⟨x, rfl, x, d, rfl, hd, hn, _, rfl, ite2 (fun e => ?_) (fun e => ?_)⟩
    · obtain ⟨a, b, n, rfl⟩ := third_of hn e
      cases hd with
      | tup hs ha =>
        obtain ⟨v, hv, hdv⟩ := DpAll.get (i := 2) ha rfl
        cases hdv
        exact ⟨_, rfl, _, _, _, _, rfl, rfl, hs, atI_nat (j := 2) hv, q⟩
    · have e2 : arityOf d = 0 := arity0 e
      rw [e2] at q
      exact q

theorem ok_atom {f : Addr} {fd : FuncData} (F : Fun K "atom" "atom" s_atom f fd) (E : Bi K mg) (D_is_name : Has P w K mg base 1 "is_name" ["value"] (sp_is_name K)) : FnOk P w K mg base (L2.CX P w) 2 f fd ["name"] (sp_atom K) := by
  obtain ⟨f_is_name, fd_is_name, G_is_name, g_is_name, kp_is_name, b_is_name⟩ := D_is_name
  refine F.okX sc_atom (fun vs H Q E h => ?_) (fun cdv A outer s H vs Q E' hr h => ?_)
  · obtain ⟨x, rfl, _⟩ := h
    rfl
  · obtain ⟨x, rfl, hx, q1, q2⟩ := h
    refine ⟨_, (pss_cons (ps_if (pt_not (pt_val (pe_call G_is_name (hr.mono (by decide)) (by rfl) g_is_name kp_is_name b_is_name .nil pass0 (pa_cons (pv 0) pa_nil)))) (pss_one (ps_raise rfl (takes_of rfl rfl rfl rfl) (pmk_own PySem.F.excBase_ValueError E.x_BadTerm.xC E.x_BadTerm.gC E.x_BadTerm.kC (raises_own E.x_BadTerm.bC E.x_BadTerm.tC) rfl))) pss_nil)
      (pss_one (ps_ret (pe_tup (pa_cons (pe_tup (pa_cons pe_str (pa_cons (pv 0) (pa_cons pe_int pa_nil)))) pa_nil))))), ?_⟩
    refine seq_ifN ?_
    refine ⟨_, rfl, .str x, _, rfl, .str x, (fun z e => by cases e; exact hx), fun H1 s1 => ⟨_, rfl, ?_⟩⟩
    cases hb : isName (.str x) with
    | false => exact iteT (q2 (by rw [hb]; exact Bool.false_ne_true) H1 s1)
    | true =>
      refine iteF ?_
      refine ⟨_, rfl, (by show 3 ≤ sizeLine; decide), fun a na => ⟨(by show 1 ≤ sizeLine; decide), fun b nb => ?_⟩⟩
      have sa := same_upd (o := .tup [.str "f", .str x, .int 0]) na
      have sb := same_upd (o := .tup [.ref a]) nb
      exact q1 hb _ _ (s1.trans (sa.trans sb)) (.tup (SqT.of upd_same) (.cons (.tup (SqT.of (sb _ _ upd_same)) (.cons (.str _) (.cons (.str _) (.cons (.int _) .nil)))) .nil))

theorem ok__law_number {f : Addr} {fd : FuncData} (F : Fun K "_law_number" "_law_number" s__law_number f fd) (E : Bi K mg) (D__law_draw : Has P w K mg base 1 "_law_draw" ["stream", "many"] (sp__law_draw K)) : FnOk P w K mg base CX0 2 f fd ["stream"] (sp__law_number K) := by
  obtain ⟨f__law_draw, fd__law_draw, G__law_draw, g__law_draw, kp__law_draw, b__law_draw⟩ := D__law_draw
  refine F.ok sc__law_number (fun vs H Q E h => ?_) (fun cdv A outer s H vs Q E' hr h => ?_)
  · obtain ⟨s, l, rfl, _⟩ := h
    rfl
  · obtain ⟨s, l, rfl, hS, q⟩ := h
    have n9 : (2 : Nat) ^ 140 ≤ 2 ^ 9000 := Nat.pow_le_pow_right (by decide) (by decide)
    refine ⟨_, (pss_cons (ps_set (i := 1) sc__law_number.nd rfl (Or.inl rfl) (pe_call G__law_draw (hr.mono (by decide)) (by rfl) g__law_draw kp__law_draw b__law_draw .nil pass0 (pa_cons (pv 0) (pa_cons pe_int pa_nil))))
      (pss_cons (ps_if (pt_cmpR op_lt (pv 1) pe_int (nomark _)) (pss_one (ps_ret (pe_op op_sub (pe_call G__law_draw (hr.mono (by decide)) (by rfl) g__law_draw kp__law_draw b__law_draw .nil pass0 (pa_cons (pv 0) (pa_cons pe_int pa_nil))) pe_int))) pss_nil)
      (pss_cons (ps_if (pt_cmpR op_eq (pv 1) pe_int (nomark _)) (pss_one (ps_ret (pe_op op_sub (pe_call G__law_draw (hr.mono (by decide)) (by rfl) g__law_draw kp__law_draw b__law_draw .nil pass0 (pa_cons (pv 0) (pa_cons (pe_op op_pow pe_int pe_int) pa_nil))) (pe_call G__law_draw (hr.mono (by decide)) (by rfl) g__law_draw kp__law_draw b__law_draw .nil pass0 (pa_cons (pv 0) (pa_cons (pe_op op_pow pe_int pe_int) pa_nil)))))) pss_nil)
      (pss_cons (ps_if (pt_cmpR op_eq (pv 1) pe_int (nomark _)) (pss_one (ps_ret (pe_op op_sub (pe_call G__law_draw (hr.mono (by decide)) (by rfl) g__law_draw kp__law_draw b__law_draw .nil pass0 (pa_cons (pv 0) (pa_cons (pe_op op_pow pe_int pe_int) pa_nil))) (pe_call G__law_draw (hr.mono (by decide)) (by rfl) g__law_draw kp__law_draw b__law_draw .nil pass0 (pa_cons (pv 0) (pa_cons (pe_op op_pow pe_int pe_int) pa_nil)))))) pss_nil)
      (pss_one (ps_ret (pe_op op_sub (pe_op op_sub (pe_op op_pow pe_int pe_int) pe_int) (pe_call G__law_draw (hr.mono (by decide)) (by rfl) g__law_draw kp__law_draw b__law_draw .nil pass0 (pa_cons (pv 0) (pa_cons pe_int pa_nil)))))))))), ?_⟩
    have h20 : (10 : Int) ^ (20 : Int).toNat = 10 ^ 20 := rfl
    have h40 : (10 : Int) ^ (40 : Int).toNat = 10 ^ 40 := rfl
    refine seq_asg ?_
    refine ⟨_, rfl, s, l, 8, rfl, hS, by decide, Nat.lt_of_lt_of_le (by decide) n9, fun p H1 _ _ b1 S1 => ?_⟩
    refine gname (seq_ifN ?_)
    refine ⟨_, rfl, _, _, rfl, rfl, _, rfl, ite2 (fun e => ?_) (fun e => ?_)⟩
    · refine ⟨_, rfl, s, l, 12, rfl, S1, by decide, Nat.lt_of_lt_of_le (by decide) n9, fun r H2 r0 r1 b2 S2 => ⟨_, _, rfl, rfl, ?_⟩⟩
      exact q _ _ (by omega) (b1.trans b2) S2
    refine seq_ifN ?_
    refine ⟨_, rfl, rfl, _, rfl, ite2 (fun e1 => ?_) (fun e1 => ?_)⟩
    · refine ⟨_, rfl, _, _, rfl, rfl, ⟨by decide, by decide, by decide⟩, s, l, _, rfl, S1, by decide, Nat.lt_of_lt_of_le (by decide) n9, fun r H2 r0 r1 b2 S2 => ?_⟩
      refine ⟨_, rfl, _, _, rfl, rfl, ⟨by decide, by decide, by decide⟩, s, l, _, rfl, S2, by decide, Nat.lt_of_lt_of_le (by decide) n9, fun r2 H3 r20 r21 b3 S3 => ⟨_, _, rfl, rfl, ?_⟩⟩
      rw [h20] at r1 r21
      exact q _ _ (by omega) ((b1.trans b2).trans b3) S3
    refine seq_ifN ?_
    refine ⟨_, rfl, rfl, _, rfl, ite2 (fun e2 => ?_) (fun e2 => ?_)⟩
    · refine ⟨_, rfl, _, _, rfl, rfl, ⟨by decide, by decide, by decide⟩, s, l, _, rfl, S1, by decide, Nat.lt_of_lt_of_le (by decide) n9, fun r H2 r0 r1 b2 S2 => ?_⟩
      refine ⟨_, rfl, _, _, rfl, rfl, ⟨by decide, by decide, by decide⟩, s, l, _, rfl, S2, by decide, Nat.lt_of_lt_of_le (by decide) n9, fun r2 H3 r20 r21 b3 S3 => ⟨_, _, rfl, rfl, ?_⟩⟩
      rw [h40] at r1 r21
      exact q _ _ (by omega) ((b1.trans b2).trans b3) S3
    refine ⟨_, _, rfl, rfl, ⟨by decide, by decide, by decide⟩, _, _, rfl, rfl, _, rfl, s, l, 3, rfl, S1, by decide, Nat.lt_of_lt_of_le (by decide) n9, fun r H2 r0 r1 b2 S2 => ⟨_, _, rfl, rfl, ?_⟩⟩
    rw [h40]
    exact q _ _ (by omega) (b1.trans b2) S2

theorem ok__law_due {f : Addr} {fd : FuncData} (F : Fun K "_law_due" "_law_due" s__law_due f fd) (E : Bi K mg) (D__law_f : Has P w K mg base 1 "_law_f" ["name", "parts"] (sp__law_f K)) (D__law_combined : Has P w K mg base 1 "_law_combined" ["name", "values"] (sp__law_combined K)) : FnOk P w K mg base CX0 2 f fd ["name", "rows"] (sp__law_due K) := by
  obtain ⟨f__law_f, fd__law_f, G__law_f, g__law_f, kp__law_f, b__law_f⟩ := D__law_f
  obtain ⟨f__law_combined, fd__law_combined, G__law_combined, g__law_combined, kp__law_combined, b__law_combined⟩ := D__law_combined
  refine F.ok sc__law_due (fun vs H Q E h => ?_) (fun cdv A outer s H vs Q E' hr h => ?_)
  · obtain ⟨x, r, ys, ds, rfl, _⟩ := h
    rfl
  · obtain ⟨x, r, ys, ds, rfl, hx, hq, hys, hds, hl, q⟩ := h
    refine ⟨_, (pss_cons (ps_set (i := 2) sc__law_due.nd rfl (Or.inl rfl) (pe_lst (pa_cons (pe_tup (pa_cons pe_str (pa_cons pe_int pa_nil))) (pa_cons (pe_tup (pa_cons pe_str (pa_cons pe_int pa_nil))) (pa_cons (pe_tup (pa_cons pe_str (pa_cons pe_int pa_nil))) (pa_cons (pe_tup (pa_cons pe_str (pa_cons pe_int pa_nil))) (pa_cons (pe_tup (pa_cons pe_str (pa_cons pe_int pa_nil))) (pa_cons (pe_tup (pa_cons pe_str (pa_cons pe_int pa_nil))) pa_nil))))))))
      (pss_cons (ps_if (pt_cmpR (op_notInD (units65 hr)) (pe_tup (pa_cons (pv 0) (pa_cons (pe_callB call_len_seq (by rfl) E.b_len PySem.boot_len (pa_cons (pv 1) pa_nil)) pa_nil))) (pv 2) (by rfl)) (pss_one (ps_ret (pe_call G__law_f (hr.mono (by decide)) (by rfl) g__law_f kp__law_f b__law_f .nil pass0 (pa_cons pe_str (pa_cons (pe_lst (pa_cons (pe_call G__law_f (hr.mono (by decide)) (by rfl) g__law_f kp__law_f b__law_f .nil pass0 (pa_cons pe_str (pa_cons (pe_lst pa_nil) pa_nil))) (pa_cons (pe_call G__law_f (hr.mono (by decide)) (by rfl) g__law_f kp__law_f b__law_f .nil pass0 (pa_cons pe_str (pa_cons (pe_lst (pa_cons (pe_call G__law_f (hr.mono (by decide)) (by rfl) g__law_f kp__law_f b__law_f .nil pass0 (pa_cons (pv 0) (pa_cons (pe_lst pa_nil) pa_nil))) (pa_cons (pe_tup (pa_cons (pe_callB call_len_seq (by rfl) E.b_len PySem.boot_len (pa_cons (pv 1) pa_nil)) pa_nil)) pa_nil))) pa_nil))) pa_nil))) pa_nil))))) pss_nil)
      (pss_cons (ps_for PassesOwn.never rfl (pi_list (pv 1)) (pg_name (i := 3) sc__law_due.nd rfl (Or.inl rfl)) (pss_one (ps_if (pt_val (pe_callB call_isi (by rfl) E.b_isinstance (by decide +kernel) (pa_cons (pv 3) (pa_cons (pe_ty "tuple" (by rfl) E.b_tuple (by decide +kernel)) pa_nil)))) (pss_one (ps_ret (pv 3))) pss_nil)))
      (pss_cons (ps_set (i := 4) sc__law_due.nd rfl (Or.inl rfl) (pe_call G__law_combined (hr.mono (by decide)) (by rfl) g__law_combined kp__law_combined b__law_combined .nil pass0 (pa_cons (pv 0) (pa_cons (pv 1) pa_nil))))
      (pss_cons (ps_if (pt_cmpR op_isN (pv 4) pe_non (nomark _)) (pss_one (ps_ret (pe_call G__law_f (hr.mono (by decide)) (by rfl) g__law_f kp__law_f b__law_f .nil pass0 (pa_cons pe_str (pa_cons (pe_lst (pa_cons (pe_call G__law_f (hr.mono (by decide)) (by rfl) g__law_f kp__law_f b__law_f .nil pass0 (pa_cons pe_str (pa_cons (pe_lst pa_nil) pa_nil))) pa_nil)) pa_nil))))) pss_nil)
      (pss_cons (ps_if (pt_cmpR op_ge (pe_callB call_abs (by rfl) E.b_abs (by decide +kernel) (pa_cons (pv 4) pa_nil)) (pe_op op_pow pe_int pe_int) (nomark _)) (pss_one (ps_ret (pe_call G__law_f (hr.mono (by decide)) (by rfl) g__law_f kp__law_f b__law_f .nil pass0 (pa_cons pe_str (pa_cons (pe_lst (pa_cons (pe_call G__law_f (hr.mono (by decide)) (by rfl) g__law_f kp__law_f b__law_f .nil pass0 (pa_cons pe_str (pa_cons (pe_lst pa_nil) pa_nil))) pa_nil)) pa_nil))))) pss_nil)
      (pss_one (ps_ret (pv 4))))))))), ?_⟩
    have hyl := DpAll.len hys
    have lf : ∀ (z : Str) (H1 : Hp) (Q1 : VK), (∀ v H', Same H1 H' → Dp K H' v (.tuple [atD z]) → Q1 v H') → ∀ p, H1 p = Option.none → sp__law_f K [.str z, .ref p] (upd H1 p (.lst [])) Q1 E0 := fun z H1 Q1 q1 p np => ⟨z, .ref p, [], rfl, .lst (SqL.of upd_same) .nil, by decide, fun r h => (nomatch h), fun v H' s d => q1 v H' ((same_upd np).trans s) d⟩
    refine seq_asg ?_
    refine lit_lst (K := K) (ds := signs6) ?_ (by decide) H _ fun v0 H0 t0 i0 => ?_
    · unfold signs6
      walk_at "lits"
    refine gname (seq_ifN ?_)
    refine ⟨_, rfl, _, rfl, r, _, rfl, .inl (SqL.of (t0 _ _ hq)), (by show 2 ≤ sizeLine; decide), fun p np => ?_⟩
    rw [hyl]
    have sp := (same_upd (o := .tup [.str x, .int ds.length]) np)
    refine ⟨_, rfl, .tuple [.str x, .int ds.length], signs6, .tup (SqT.of upd_same) (.cons (.str _) (.cons (.int _) .nil)), dp_same sp _ _ (Im.dp _ _ i0), pair_shaped (okName_cps hx), by decide +kernel, _, rfl, ?_⟩
    show (if (!evB x ds.length) = true then _ else _)
    generalize upd H0 p (.tup [.str x, .int ds.length]) = H1 at sp ⊢
    have s1 := t0.trans sp
    have hr1 := s1 _ _ hq
    cases hev : evB x ds.length with
    | false =>
      have hq1 : dueN x ds = typE x ds.length := by
        unfold dueN
        rw [hev, if_neg Bool.false_ne_true]
      rw [hq1] at q
      refine iteT ?_
      refine ⟨(by show 0 ≤ sizeLine; decide), fun p1 np1 => lf "evaluable" _ _ (fun v1 J1 u1 d1 => ?_) p1 np1⟩
      refine ⟨_, rfl, (by show 0 ≤ sizeLine; decide), fun p2 np2 => lf x _ _ (fun v2 J2 u2 d2 => ?_) p2 np2⟩
      refine ⟨_, rfl, r, _, rfl, .inl (SqL.of (u2 _ _ (u1 _ _ hr1))), (by show 1 ≤ sizeLine; decide), fun p3 np3 => ?_⟩
      have u3 := (same_upd (o := .tup [.int ys.length]) np3)
      refine ⟨(by show 2 ≤ sizeLine; decide), fun p4 np4 => ?_⟩
      have u4 := (same_upd (o := .lst [v2, .ref p3]) np4)
      refine ⟨"/", .ref p4, [[atD x], [.int ds.length]], rfl, .lst (SqL.of upd_same) (.cons (dp_same (u3.trans u4) _ _ d2) (.cons (.tup (SqT.of (u4 _ _ upd_same)) (.cons (by rw [hyl]; exact .int _) .nil)) .nil)), (by show 2 ≤ 8; decide), fun z hz => ?_, fun v5 J5 u5 d5 => ?_⟩
      · simp only [List.mem_cons, List.not_mem_nil, or_false] at hz
        rcases hz with z | z <;> rw [z] <;> exact (by decide : 1 ≤ 50)
      refine ⟨(by show 2 ≤ sizeLine; decide), fun p6 np6 => ?_⟩
      have u6 := (same_upd (o := .lst [v1, v5]) np6)
      refine ⟨"type_error", .ref p6, [[atD "evaluable"], [syD "/" 2, atD x, .int ds.length]], rfl, .lst (SqL.of upd_same) (.cons (dp_same (u2.trans (u3.trans (u4.trans (u5.trans u6)))) _ _ d1) (.cons (dp_same u6 _ _ d5) .nil)), (by show 2 ≤ 8; decide), fun z hz => ?_, fun v7 J7 u7 d7 => ?_⟩
      · simp only [List.mem_cons, List.not_mem_nil, or_false] at hz
        rcases hz with z | z <;> rw [z]
        · exact (by decide : 1 ≤ 50)
        · exact (by decide : 3 ≤ 50)
      exact q v7 J7 (s1.trans (u1.trans (u2.trans (u3.trans (u4.trans (u5.trans (u6.trans u7))))))) d7
    | true =>
      refine iteF ?_
      refine seq_any ?_
      refine ⟨_, rfl, r, rfl, ⟨_, SqL.of hr1⟩, for_list (K := K) (a := r) (xs := ys) (fun i σ H' => ∃ (vr : Option V), σ = [some (.str x), some (.ref r), some v0, vr, none] ∧ H' = H1 ∧ (ds.take i).find? isErr = Option.none) ⟨none, rfl, rfl, by rw [List.take_zero]; rfl⟩ (fun i σ H' _ ⟨_, _, e, _⟩ => by rw [e]; exact SqL.of hr1) ?_ ?_⟩
      · rintro i y σ H' hi ⟨vr, rfl, rfl, hno⟩
        obtain ⟨d, hdi⟩ : ∃ d, ds[i]? = some d := by
          have := (List.getElem?_eq_some_iff.mp hi).1
          exact ⟨ds[i]'(by omega), List.getElem?_eq_getElem _⟩
        obtain ⟨y', hy', hyd⟩ := DpAll.get hys hdi
        have ey : y' = y := Option.some.inj (hy'.symm.trans hi)
        subst ey
        have hdrop : ds.drop i = d :: ds.drop (i + 1) := by
          obtain ⟨h1, h2⟩ := List.getElem?_eq_some_iff.mp hdi
          rw [List.drop_eq_getElem_cons h1, h2]
        have hyd1 := dp_same s1 _ _ hyd
        refine gname ?_
        refine ⟨_, rfl, _, _, _, _, _, rfl, .ty _, tyx_of hyd1, kit_ty (kitT _), _, rfl, ?_⟩
        rcases hds d (List.mem_of_getElem? hdi) with ⟨z, rfl, hz⟩ | ⟨he, es, rfl, hes⟩
        · refine iteF ?_
          refine ⟨_, rfl, rfl, ?_⟩
          rw [List.take_add_one, hdi, List.find?_append, hno]
          rfl
        · refine iteT ⟨_, rfl, q _ _ s1 ?_⟩
          have hf : (ds.take i ++ ds.drop i).find? isErr = some (.tuple es) := by
            rw [List.find?_append, hno, hdrop, List.find?_cons_of_pos he]
            rfl
          rw [List.take_append_drop] at hf
          have : dueN x ds = .tuple es := by
            unfold dueN
            rw [hev, if_pos rfl, hf]
          rw [this]
          exact hyd1
      · rintro σ H' ⟨vr, rfl, rfl, hno⟩
        rw [List.take_of_length_le (by omega)] at hno
        obtain ⟨L, rfl, hL⟩ := ints_of hds hno
        have hysL := dp_ints_of hys
        subst hysL
        have hlen : (iDs L).length = L.length := List.length_map ..
        rw [hlen] at hev
        rw [due_ints hev] at q
        have er : ∀ (z : Str) (J : Hp), Same H J → (∀ v J', Same J J' → Dp K J' v (evE z) → Q v J') → ∀ p1, J p1 = Option.none → sp__law_f K [.str z, .ref p1] (upd J p1 (.lst [])) (fun v1 J1 => 1 ≤ sizeLine ∧ ∀ p2, J1 p2 = Option.none → sp__law_f K [.str "evaluation_error", .ref p2] (upd J1 p2 (.lst [v1])) Q E0) E0 := by
          intro z J sj qq p1 np1
          refine lf z J (fun v1 J1 => 1 ≤ sizeLine ∧ ∀ p2, J1 p2 = Option.none → sp__law_f K [.str "evaluation_error", .ref p2] (upd J1 p2 (.lst [v1])) Q E0) (fun v1 J1 u1 d1 => ⟨by decide, fun p2 np2 => ?_⟩) p1 np1
          have u2 := (same_upd (o := .lst [v1]) np2)
          refine ⟨"evaluation_error", .ref p2, [[atD z]], rfl, .lst (SqL.of upd_same) (.cons (dp_same u2 _ _ d1) .nil), (by show 1 ≤ 8; decide), fun z hz => ?_, fun v3 J3 u3 d3 => qq v3 J3 (u1.trans (u2.trans u3)) d3⟩
          rw [List.mem_singleton.mp hz]
          exact (by decide : 1 ≤ 50)
        refine nxp (seq_asg ?_)
        refine ⟨_, rfl, _, rfl, x, r, L, rfl, hr1, hev, hL, fun hz => gname ?_, fun hz => gname ?_⟩
        · refine seq_ifN ?_
          refine ⟨_, rfl, rfl, _, rfl, iteT ⟨(by show 0 ≤ sizeLine; decide), fun p1 np1 => er "zero_divisor" _ s1 (fun v J sj dj => q v J (s1.trans sj) ?_) p1 np1⟩⟩
          unfold resD
          rw [if_pos hz]
          exact dj
        · have hres : resD x L = if 10 ^ 40 ≤ (calcN x L).natAbs then evE "overflow" else .int (calcN x L) := by
            unfold resD
            rw [if_neg hz]
          refine seq_ifN ?_
          refine ⟨_, rfl, rfl, _, rfl, iteF ?_⟩
          refine seq_ifN ?_
          refine ⟨_, rfl, _, rfl, _, _, rfl, rfl, ⟨by decide, by decide, by decide⟩, _, _, rfl, rfl, _, rfl, ite2 (fun e => ?_) (fun e => ?_)⟩
          · have e := of_decide_eq_true e
            have h40 : (10 : Int) ^ (40 : Int).toNat = 10 ^ 40 := rfl
            rw [h40] at e
            refine ⟨(by show 0 ≤ sizeLine; decide), fun p1 np1 => er "overflow" _ s1 (fun v J sj dj => q v J (s1.trans sj) ?_) p1 np1⟩
            rw [hres, if_pos]
            · exact dj
            · split at e <;> omega
          · have e : ¬ _ := fun z => e (decide_eq_true z)
            have h40 : (10 : Int) ^ (40 : Int).toNat = 10 ^ 40 := rfl
            rw [h40] at e
            refine ⟨_, rfl, q _ _ s1 ?_⟩
            rw [hres, if_neg]
            · exact .int _
            · split at e <;> omega

theorem ok__law_deep {f : Addr} {fd : FuncData} (F : Fun K "_law_deep" "_law_deep" s__law_deep f fd) (E : Bi K mg) (D__law_draw : Has P w K mg base 1 "_law_draw" ["stream", "many"] (sp__law_draw K)) (D__law_f : Has P w K mg base 1 "_law_f" ["name", "parts"] (sp__law_f K)) : FnOk P w K mg base CX0 2 f fd ["stream"] (sp__law_deep K) := by
  obtain ⟨f__law_draw, fd__law_draw, G__law_draw, g__law_draw, kp__law_draw, b__law_draw⟩ := D__law_draw
  obtain ⟨f__law_f, fd__law_f, G__law_f, g__law_f, kp__law_f, b__law_f⟩ := D__law_f
  refine F.ok sc__law_deep (fun vs H Q E h => ?_) (fun cdv A outer s H vs Q E' hr h => ?_)
  · obtain ⟨s, l, rfl, _⟩ := h
    rfl
  · obtain ⟨s, l, rfl, hS, q⟩ := h
    have n9 : (2 : Nat) ^ 140 ≤ 2 ^ 9000 := Nat.pow_le_pow_right (by decide) (by decide)
    refine ⟨_, (pss_cons (ps_set (i := 1) sc__law_deep.nd rfl (Or.inl rfl) (pe_op op_add pe_int (pe_call G__law_draw (hr.mono (by decide)) (by rfl) g__law_draw kp__law_draw b__law_draw .nil pass0 (pa_cons (pv 0) (pa_cons pe_int pa_nil)))))
      (pss_cons (ps_set (i := 2) sc__law_deep.nd rfl (Or.inl rfl) (pe_call G__law_draw (hr.mono (by decide)) (by rfl) g__law_draw kp__law_draw b__law_draw .nil pass0 (pa_cons (pv 0) (pa_cons pe_int pa_nil))))
      (pss_cons (ps_if (pt_cmpR op_eq (pv 2) pe_int (nomark _)) (pss_one (ps_ret (pe_tup (pa_cons (pe_op op_catA (pe_op op_repT (pe_tup (pa_cons (pe_tup (pa_cons pe_str (pa_cons pe_str (pa_cons pe_int pa_nil)))) pa_nil)) (pe_op op_mul pe_int (pv 1))) (pe_tup (pa_cons pe_int pa_nil))) (pa_cons pe_int pa_nil))))) pss_nil)
      (pss_cons (ps_if (pt_cmpR op_eq (pv 2) pe_int (nomark _)) (pss_one (ps_ret (pe_tup (pa_cons (pe_op op_catA (pe_op op_repT (pe_tup (pa_cons (pe_tup (pa_cons pe_str (pa_cons pe_str (pa_cons pe_int pa_nil)))) (pa_cons pe_int pa_nil))) (pv 1)) (pe_tup (pa_cons pe_int pa_nil))) (pa_cons (pv 1) pa_nil))))) pss_nil)
      (pss_cons (ps_if (pt_cmpR op_eq (pv 2) pe_int (nomark _)) (pss_one (ps_ret (pe_tup (pa_cons (pe_op op_catA (pe_op op_repT (pe_tup (pa_cons (pe_tup (pa_cons pe_str (pa_cons pe_str (pa_cons pe_int pa_nil)))) pa_nil)) (pv 1)) (pe_op op_repT (pe_tup (pa_cons pe_int pa_nil)) (pe_op op_add (pv 1) pe_int))) (pa_cons (pe_op op_sub pe_int (pv 1)) pa_nil))))) pss_nil)
      (pss_one (ps_ret (pe_tup (pa_cons (pe_op op_catA (pe_op op_repT (pe_tup (pa_cons (pe_tup (pa_cons pe_str (pa_cons pe_str (pa_cons pe_int pa_nil)))) (pa_cons pe_int pa_nil))) (pv 1)) (pe_tup (pa_cons (pe_tup (pa_cons pe_str (pa_cons pe_int pa_nil))) pa_nil))) (pa_cons (pe_call G__law_f (hr.mono (by decide)) (by rfl) g__law_f kp__law_f b__law_f .nil pass0 (pa_cons pe_str (pa_cons (pe_lst pa_nil) pa_nil))) pa_nil)))))))))), ?_⟩
    refine seq_asg ?_
    refine ⟨_, rfl, s, l, 290, rfl, hS, by decide, Nat.lt_of_lt_of_le (by decide) n9, fun r H1 r0 r1 b1 S1 => ⟨_, _, rfl, rfl, gname ?_⟩⟩
    refine seq_asg ?_
    refine ⟨_, rfl, s, l, 4, rfl, S1, by decide, Nat.lt_of_lt_of_le (by decide) n9, fun pk H2 _ _ b2 S2 => gname ?_⟩
    obtain ⟨m, hm⟩ : ∃ m : Nat, 200 + r = (m : Int) := ⟨(200 + r).toNat, by omega⟩
    show tSeq _ _ _ [some (.ref s), some (.int (200 + r)), some (.int pk)] H2
    rw [hm]
    have m1 : 200 ≤ m := by omega
    have m2 : m ≤ 489 := by omega
    have em : (m : Int).toNat = m := by omega
    have em2 : (2 * (m : Int)).toNat = 2 * m := by omega
    have em1 : ((m : Int) + 1).toNat = m + 1 := by omega
    refine seq_ifN ?_
    refine ⟨_, rfl, rfl, _, rfl, ite2 (fun _ => ?_) (fun _ => ?_)⟩
    · have dA : Deep (rep (2 * (m : Int)).toNat [ndA] ++ [.int 3]) (.int 3) := by rw [em2]; exact deep_A m m2
      refine ⟨(by show 3 ≤ sizeLine; decide), fun p1 np1 => ⟨(by show 1 ≤ sizeLine; decide), fun p2 np2 => ⟨_, rfl, 2, (m : Int), rfl, rfl, .inl (by decide), p2, 2 * (m : Int), [.ref p1], rfl, rfl, SqT.of upd_same, by simp, by omega, by omega, (by show 1 ≤ 1000; decide), fun p3 np3 => ⟨(by show 1 ≤ sizeLine; decide), fun p4 np4 => ?_⟩⟩⟩⟩
      have u2 := same_upd (o := .tup [.ref p1]) np2
      have u3 := same_upd (o := .tup (List.replicate (2 * (m : Int)).toNat [V.ref p1]).flatten) np3
      have u4 := same_upd (o := .tup [.int 3]) np4
      refine cat_dpA (ds := rep (2 * (m : Int)).toNat [ndA]) (es := [.int 3]) (.tup (SqT.of (u4 _ _ upd_same)) (dp_rep (.cons (.tup (SqT.of (u4 _ _ (u3 _ _ (u2 _ _ upd_same)))) (.cons (.str _) (.cons (.str _) (.cons (.int _) .nil)))) .nil) _)) (.tup (SqT.of upd_same) (.cons (.int _) .nil)) (by have := dA.l; rw [List.length_append] at this; exact this) fun v H' s' d' => ?_
      refine ⟨(by show 2 ≤ sizeLine; decide), fun p5 np5 => ?_⟩
      exact q p5 v (.int 3) _ _ upd_same (dp_same (same_upd np5) _ _ d') (by rw [dA.r]; exact .int 3) dA.c dA.n dA.l (by rw [dA.r]; exact .inl ⟨3, rfl, by decide⟩)
    refine seq_ifN ?_
    refine ⟨_, rfl, rfl, _, rfl, ite2 (fun _ => ?_) (fun _ => ?_)⟩
    · have dP : Deep (rep (m : Int).toNat [ndP, .int 1] ++ [.int 0]) (.int m) := by rw [em]; exact deep_P m m2
      refine ⟨(by show 3 ≤ sizeLine; decide), fun p1 np1 => ⟨(by show 2 ≤ sizeLine; decide), fun p2 np2 => ⟨_, rfl, p2, (m : Int), [.ref p1, .int 1], rfl, rfl, SqT.of upd_same, by simp, by omega, by omega, (by show 2 ≤ 1000; decide), fun p3 np3 => ⟨(by show 1 ≤ sizeLine; decide), fun p4 np4 => ?_⟩⟩⟩⟩
      have u2 := same_upd (o := .tup [.ref p1, .int 1]) np2
      have u3 := same_upd (o := .tup (List.replicate (m : Int).toNat [V.ref p1, .int 1]).flatten) np3
      have u4 := same_upd (o := .tup [.int 0]) np4
      refine cat_dpA (ds := rep (m : Int).toNat [ndP, .int 1]) (es := [.int 0]) (.tup (SqT.of (u4 _ _ upd_same)) (dp_rep (.cons (.tup (SqT.of (u4 _ _ (u3 _ _ (u2 _ _ upd_same)))) (.cons (.str _) (.cons (.str _) (.cons (.int _) .nil)))) (.cons (.int _) .nil)) _)) (.tup (SqT.of upd_same) (.cons (.int _) .nil)) (by have := dP.l; rw [List.length_append] at this; exact this) fun v H' s' d' => ?_
      refine ⟨_, rfl, (by show 2 ≤ sizeLine; decide), fun p5 np5 => ?_⟩
      exact q p5 v (.int m) _ _ upd_same (dp_same (same_upd np5) _ _ d') (by rw [dP.r]; exact .int m) dP.c dP.n dP.l (by rw [dP.r]; exact .inl ⟨m, rfl, by omega⟩)
    refine seq_ifN ?_
    refine ⟨_, rfl, rfl, _, rfl, ite2 (fun _ => ?_) (fun _ => ?_)⟩
    · have dM : Deep (rep (m : Int).toNat [ndM] ++ rep ((m : Int) + 1).toNat [.int 1]) (.int (1 - m)) := by rw [em, em1]; exact deep_M m m2
      refine ⟨(by show 3 ≤ sizeLine; decide), fun p1 np1 => ⟨(by show 1 ≤ sizeLine; decide), fun p2 np2 => ⟨_, rfl, p2, (m : Int), [.ref p1], rfl, rfl, SqT.of upd_same, by simp, by omega, by omega, (by show 1 ≤ 1000; decide), fun p3 np3 => ⟨(by show 1 ≤ sizeLine; decide), fun p4 np4 => ⟨_, rfl, _, _, rfl, rfl, p4, (m : Int) + 1, [.int 1], rfl, rfl, SqT.of upd_same, by simp, by omega, by omega, (by show 1 ≤ 1000; decide), fun p6 np6 => ?_⟩⟩⟩⟩⟩
      have u2 := same_upd (o := .tup [.ref p1]) np2
      have u3 := same_upd (o := .tup (List.replicate (m : Int).toNat [V.ref p1]).flatten) np3
      have u4 := same_upd (o := .tup [.int 1]) np4
      have u6 := same_upd (o := .tup (List.replicate ((m : Int) + 1).toNat [V.int 1]).flatten) np6
      refine cat_dpA (ds := rep (m : Int).toNat [ndM]) (es := rep ((m : Int) + 1).toNat [.int 1]) (.tup (SqT.of (u6 _ _ (u4 _ _ upd_same))) (dp_rep (.cons (.tup (SqT.of (u6 _ _ (u4 _ _ (u3 _ _ (u2 _ _ upd_same))))) (.cons (.str _) (.cons (.str _) (.cons (.int _) .nil)))) .nil) _)) (.tup (SqT.of upd_same) (dp_rep (.cons (.int _) .nil) _)) (by have := dM.l; rw [List.length_append] at this; exact this) fun v H' s' d' => ?_
      refine ⟨_, rfl, _, _, rfl, rfl, (by show 2 ≤ sizeLine; decide), fun p5 np5 => ?_⟩
      exact q p5 v (.int (1 - m)) _ _ upd_same (dp_same (same_upd np5) _ _ d') (by rw [dM.r]; exact .int _) dM.c dM.n dM.l (by rw [dM.r]; exact .inl ⟨_, rfl, by omega⟩)
    · have dE : Deep (rep (m : Int).toNat [ndP, .int 1] ++ [.tuple [.str "v", .int 0]]) instE := by rw [em]; exact deep_E m m2
      refine ⟨(by show 3 ≤ sizeLine; decide), fun p1 np1 => ⟨(by show 2 ≤ sizeLine; decide), fun p2 np2 => ⟨_, rfl, p2, (m : Int), [.ref p1, .int 1], rfl, rfl, SqT.of upd_same, by simp, by omega, by omega, (by show 2 ≤ 1000; decide), fun p3 np3 => ⟨(by show 2 ≤ sizeLine; decide), fun p4 np4 => ⟨(by show 1 ≤ sizeLine; decide), fun p6 np6 => ?_⟩⟩⟩⟩⟩
      have u2 := same_upd (o := .tup [.ref p1, .int 1]) np2
      have u3 := same_upd (o := .tup (List.replicate (m : Int).toNat [V.ref p1, .int 1]).flatten) np3
      have u4 := same_upd (o := .tup [.str "v", .int 0]) np4
      have u6 := same_upd (o := .tup [.ref p4]) np6
      refine cat_dpA (ds := rep (m : Int).toNat [ndP, .int 1]) (es := [.tuple [.str "v", .int 0]]) (.tup (SqT.of (u6 _ _ (u4 _ _ upd_same))) (dp_rep (.cons (.tup (SqT.of (u6 _ _ (u4 _ _ (u3 _ _ (u2 _ _ upd_same))))) (.cons (.str _) (.cons (.str _) (.cons (.int _) .nil)))) (.cons (.int _) .nil)) _)) (.tup (SqT.of upd_same) (.cons (.tup (SqT.of (u6 _ _ upd_same)) (.cons (.str _) (.cons (.int _) .nil))) .nil)) (by have := dE.l; rw [List.length_append] at this; exact this) fun v H' s' d' => ?_
      refine ⟨(by show 0 ≤ sizeLine; decide), fun p7 np7 => ?_⟩
      have u7 := same_upd (o := .lst []) np7
      refine ⟨"instantiation_error", .ref p7, [], rfl, .lst (SqL.of upd_same) .nil, by decide, fun r h => (nomatch h), fun v8 J8 u8 d8 => ?_⟩
      refine ⟨(by show 2 ≤ sizeLine; decide), fun p5 np5 => ?_⟩
      have u5 := same_upd (o := .tup [v, v8]) np5
      exact q p5 v v8 _ _ upd_same (dp_same (u7.trans (u8.trans u5)) _ _ d') (by rw [dE.r]; exact dp_same u5 _ _ d8) dE.c dE.n dE.l (by rw [dE.r]; exact .inr ⟨rfl, _, rfl, one_all (at_nd (by decide +kernel))⟩)

theorem ok_is_node {f : Addr} {fd : FuncData} (F : Fun K "is_node" "is_node" s_is_node f fd) (E : Bi K mg) (D_is_integer : Has P w K mg base 1 "is_integer" ["value"] (sp_is_integer K)) (D_is_bounded : Has P w K mg base 2 "is_bounded" ["value"] (sp_is_bounded K)) (D_is_arity : Has P w K mg base 2 "is_arity" ["value"] (sp_is_arity K)) (D_is_name : Has P w K mg base 1 "is_name" ["value"] (sp_is_name K)) : FnOk P w K mg base CX0 3 f fd ["value"] (sp_is_node K) := by
  obtain ⟨f_is_integer, fd_is_integer, G_is_integer, g_is_integer, kp_is_integer, b_is_integer⟩ := D_is_integer
  obtain ⟨f_is_bounded, fd_is_bounded, G_is_bounded, g_is_bounded, kp_is_bounded, b_is_bounded⟩ := D_is_bounded
  obtain ⟨f_is_arity, fd_is_arity, G_is_arity, g_is_arity, kp_is_arity, b_is_arity⟩ := D_is_arity
  obtain ⟨f_is_name, fd_is_name, G_is_name, g_is_name, kp_is_name, b_is_name⟩ := D_is_name
  refine F.ok sc_is_node (fun vs H Q E h => ?_) (fun cdv A outer s H vs Q E' hr h => ?_)
  · obtain ⟨x, d, rfl, _⟩ := h
    rfl
  · obtain ⟨x, d, rfl, hd, hk, q⟩ := h
    refine ⟨_, (pss_cons (ps_if (pt_val (pe_call G_is_integer (hr.mono (by decide)) (by rfl) g_is_integer kp_is_integer b_is_integer .nil pass0 (pa_cons (pv 0) pa_nil))) (pss_one (ps_ret (pe_call G_is_bounded (hr.mono (by decide)) (by rfl) g_is_bounded kp_is_bounded b_is_bounded .nil pass0 (pa_cons (pv 0) pa_nil)))) pss_nil)
      (pss_cons (ps_if (pt_not (pt_val (pe_callB call_isi (by rfl) E.b_isinstance (by decide +kernel) (pa_cons (pv 0) (pa_cons (pe_ty "tuple" (by rfl) E.b_tuple (by decide +kernel)) pa_nil))))) (pss_one (ps_ret pe_bl)) pss_nil)
      (pss_cons (ps_if (pt_cmpR op_eq (pe_callB call_len_seq (by rfl) E.b_len PySem.boot_len (pa_cons (pv 0) pa_nil)) pe_int (nomark _)) (pss_one (ps_ret (pe_and (pe_cmpR (op_eqD hr.units) (pe_ix ix_tup (pv 0) pe_int (fun _ _ => rfl)) pe_str (nomark _)) (pe_and (pe_call G_is_integer (hr.mono (by decide)) (by rfl) g_is_integer kp_is_integer b_is_integer .nil pass0 (pa_cons (pe_ix ix_tup (pv 0) pe_int (fun _ _ => rfl)) pa_nil)) (pe_one (pe_cmpR op_ge (pe_ix ix_tup (pv 0) pe_int (fun _ _ => rfl)) pe_int (nomark _))))))) pss_nil)
      (pss_one (ps_ret (pe_and (pe_cmpR op_eq (pe_callB call_len_seq (by rfl) E.b_len PySem.boot_len (pa_cons (pv 0) pa_nil)) pe_int (nomark _)) (pe_and (pe_cmpR (op_eqD hr.units) (pe_ix ix_tup (pv 0) pe_int (fun _ _ => rfl)) pe_str (nomark _)) (pe_and (pe_call G_is_name (hr.mono (by decide)) (by rfl) g_is_name kp_is_name b_is_name .nil pass0 (pa_cons (pe_ix ix_tup (pv 0) pe_int (fun _ _ => rfl)) pa_nil)) (pe_one (pe_call G_is_arity (hr.mono (by decide)) (by rfl) g_is_arity kp_is_arity b_is_arity .nil pass0 (pa_cons (pe_ix ix_tup (pv 0) pe_int (fun _ _ => rfl)) pa_nil))))))))))), ?_⟩
    refine ⟨x, rfl, x, d, rfl, hd, _, rfl, ite2 (fun e => ?_) (fun e => ?_)⟩
    · obtain ⟨i, rfl⟩ : ∃ i, d = .int i := by cases d <;> first | exact ⟨_, rfl⟩ | cases e
      exact ⟨x, rfl, x, _, rfl, hd, q H (Same.refl H)⟩
    · refine ⟨x, rfl, _, _, _, _, _, rfl, .ty _, tyx_of hd, kit_ty (kitT _), _, rfl, ite2 (fun e1 => ?_) (fun e1 => ?_)⟩
      · have e2 : isNode d = false := by cases d <;> first | rfl | exact absurd rfl e | cases e1
        have q2 := q H (Same.refl H)
        rw [e2] at q2
        exact q2
      · obtain ⟨ds, rfl⟩ : ∃ ds, d = .tuple ds := by cases d <;> first | exact ⟨_, rfl⟩ | exact absurd rfl e1
        cases hd with
        | tup hs ha =>
          have hl := DpAll.len ha
          refine ⟨_, rfl, _, _, rfl, .inr hs, rfl, _, rfl, ite2 (fun e3 => ?_) (fun e3 => ?_)⟩
          · have hz : ds.length = 2 := by
              have := V.int.inj (of_decide_eq_true e3)
              omega
            obtain ⟨d1, d2, rfl⟩ : ∃ d1 d2, ds = [d1, d2] := by
              match ds, hz with
              | [a, b], _ => exact ⟨a, b, rfl⟩
            obtain ⟨v1, hv1, hd1⟩ := DpAll.get (i := 0) ha rfl
            obtain ⟨v2, hv2, hd2⟩ := DpAll.get (i := 1) ha rfl
            refine ⟨_, rfl, _, _, _, _, rfl, rfl, hs, atI_nat (j := 0) hv1, d1, .str "v", hd1, .str _, okD_at hk (i := 0) rfl, by decide +kernel, _, rfl, ite2 (fun e4 => ?_) (fun e4 => ?_)⟩
            · refine ⟨_, rfl, _, _, _, _, rfl, rfl, hs, atI_nat (j := 1) hv2, v2, d2, rfl, hd2, _, rfl, ite2 (fun e5 => ?_) (fun e5 => ?_)⟩
              · obtain ⟨i, rfl⟩ : ∃ i, d2 = .int i := by cases d2 <;> first | exact ⟨_, rfl⟩ | cases e5
                cases hd2
                refine ⟨_, rfl, _, _, _, _, rfl, rfl, hs, atI_nat (j := 1) hv2, _, _, rfl, rfl, ?_⟩
                have e6 : isNode (.tuple [d1, .int i]) = decide (0 ≤ i) := by
                  show (d1.eqv (.str "v") && true && decide (0 ≤ i)) = _
                  rw [e4]; rfl
                have q2 := q H (Same.refl H)
                rw [e6] at q2
                exact q2
              · have e6 : isNode (.tuple [d1, d2]) = false := by
                  show (d1.eqv (.str "v") && isInteger d2 && geZ d2) = _
                  rw [Bool.eq_false_iff.mpr e5, Bool.and_false]; rfl
                have q2 := q H (Same.refl H)
                rw [e6] at q2
                exact q2
            · have e6 : isNode (.tuple [d1, d2]) = false := by
                show (d1.eqv (.str "v") && isInteger d2 && geZ d2) = _
                rw [Bool.eq_false_iff.mpr e4]; rfl
              have q2 := q H (Same.refl H)
              rw [e6] at q2
              exact q2
          · refine ⟨_, rfl, _, _, rfl, .inr hs, rfl, _, rfl, ite2 (fun e4 => ?_) (fun e4 => ?_)⟩
            · have hz : ds.length = 3 := by
                have := V.int.inj (of_decide_eq_true e4)
                omega
              obtain ⟨d1, d2, d3, rfl⟩ : ∃ d1 d2 d3, ds = [d1, d2, d3] := by
                match ds, hz with
                | [a, b, c], _ => exact ⟨a, b, c, rfl⟩
              obtain ⟨v1, hv1, hd1⟩ := DpAll.get (i := 0) ha rfl
              obtain ⟨v2, hv2, hd2⟩ := DpAll.get (i := 1) ha rfl
              obtain ⟨v3, hv3, hd3⟩ := DpAll.get (i := 2) ha rfl
              have en : isNode (.tuple [d1, d2, d3]) = (d1.eqv (.str "f") && isName d2 && isArity d3) := rfl
              refine ⟨_, rfl, _, _, _, _, rfl, rfl, hs, atI_nat (j := 0) hv1, d1, .str "f", hd1, .str _, okD_at hk (i := 0) rfl, by decide +kernel, _, rfl, ite2 (fun e5 => ?_) (fun e5 => ?_)⟩
              · refine ⟨_, rfl, _, _, _, _, rfl, rfl, hs, atI_nat (j := 1) hv2, v2, d2, rfl, hd2, (fun z e => Nat.le_trans (okD_str hk (i := 1) rfl z e) (by decide)), fun H1 s1 => ⟨_, rfl, ite2 (fun e6 => ?_) (fun e6 => ?_)⟩⟩
                · refine ⟨_, rfl, _, _, _, _, rfl, rfl, same_sqT s1 hs, atI_nat (j := 2) hv3, v3, d3, rfl, dp_same s1 _ _ hd3, ?_⟩
                  have q2 := q H1 s1
                  rw [en, e5, e6] at q2
                  exact q2
                · have q2 := q H1 s1
                  rw [en, Bool.eq_false_iff.mpr e6, Bool.and_false] at q2
                  exact q2
              · have q2 := q H (Same.refl H)
                rw [en, Bool.eq_false_iff.mpr e5] at q2
                exact q2
            · have e5 : isNode (.tuple ds) = false := by
                match ds with
                | [] => rfl
                | [_] => rfl
                | [_, _] => exact absurd (decide_eq_true (congrArg (fun n : Nat => V.int (n : Int)) hl)) e3
                | [_, _, _] => exact absurd (decide_eq_true (congrArg (fun n : Nat => V.int (n : Int)) hl)) e4
                | _ :: _ :: _ :: _ :: _ => rfl
              have q2 := q H (Same.refl H)
              rw [e5] at q2
              exact q2

theorem ok_integer {f : Addr} {fd : FuncData} (F : Fun K "integer" "integer" s_integer f fd) (E : Bi K mg) (D_is_bounded : Has P w K mg base 2 "is_bounded" ["value"] (sp_is_bounded K)) : FnOk P w K mg base (L2.CX P w) 3 f fd ["value"] (sp_integer K) := by
  obtain ⟨f_is_bounded, fd_is_bounded, G_is_bounded, g_is_bounded, kp_is_bounded, b_is_bounded⟩ := D_is_bounded
  refine F.okX sc_integer (fun vs H Q E h => ?_) (fun cdv A outer s H vs Q E' hr h => ?_)
  · obtain ⟨n, rfl, _⟩ := h
    rfl
  · obtain ⟨n, rfl, q1, q2⟩ := h
    refine ⟨_, (pss_cons (ps_if (pt_not (pt_val (pe_call G_is_bounded (hr.mono (by decide)) (by rfl) g_is_bounded kp_is_bounded b_is_bounded .nil pass0 (pa_cons (pv 0) pa_nil)))) (pss_one (ps_raise rfl (takes_of rfl rfl rfl rfl) (pmk_own PySem.F.excBase_ValueError E.x_BadTerm.xC E.x_BadTerm.gC E.x_BadTerm.kC (raises_own E.x_BadTerm.bC E.x_BadTerm.tC) rfl))) pss_nil)
      (pss_one (ps_ret (pe_tup (pa_cons (pv 0) pa_nil))))), ?_⟩
    refine seq_ifN ?_
    refine ⟨_, rfl, .int n, _, rfl, .int n, _, rfl, ?_⟩
    cases hb : isBounded (.int n) with
    | false => exact iteT (q2 (by rw [hb]; exact Bool.false_ne_true) H (Same.refl H))
    | true =>
      refine iteF ?_
      refine ⟨_, rfl, (by show 1 ≤ sizeLine; decide), fun a na => ?_⟩
      exact q1 hb _ _ (same_upd na) (.tup (SqT.of upd_same) (.cons (.int _) .nil))

theorem ok__law_expression {f : Addr} {fd : FuncData} (F : Fun K "_law_expression" "_law_expression" s__law_expression f fd) (E : Bi K mg) (D__law_draw : Has P w K mg base 1 "_law_draw" ["stream", "many"] (sp__law_draw K)) (D__law_number : Has P w K mg base 2 "_law_number" ["stream"] (sp__law_number K)) : FnOk P w K mg base CX0 3 f fd ["stream", "size", "wrong"] (sp__law_expression K) := by
  obtain ⟨f__law_draw, fd__law_draw, G__law_draw, g__law_draw, kp__law_draw, b__law_draw⟩ := D__law_draw
  obtain ⟨f__law_number, fd__law_number, G__law_number, g__law_number, kp__law_number, b__law_number⟩ := D__law_number
  refine F.ok sc__law_expression (fun vs H Q E h => ?_) (fun cdv A outer s H vs Q E' hr h => ?_)
  · obtain ⟨s, l, n, w, rfl, _⟩ := h
    rfl
  · obtain ⟨s, l, n, w, rfl, hS0, hn, hn2, q⟩ := h
    have n9 : (2 : Nat) ^ 140 ≤ 2 ^ 9000 := Nat.pow_le_pow_right (by decide) (by decide)
    refine ⟨_, (pss_cons (ps_set (i := 3) sc__law_expression.nd rfl (Or.inl rfl) (pe_lst (pa_cons (pe_tup (pa_cons pe_str (pa_cons pe_int pa_nil))) (pa_cons (pe_tup (pa_cons pe_str (pa_cons pe_int pa_nil))) (pa_cons (pe_tup (pa_cons pe_str (pa_cons pe_int pa_nil))) (pa_cons (pe_tup (pa_cons pe_str (pa_cons pe_int pa_nil))) (pa_cons (pe_tup (pa_cons pe_str (pa_cons pe_int pa_nil))) (pa_cons (pe_tup (pa_cons pe_str (pa_cons pe_int pa_nil))) pa_nil))))))))
      (pss_cons (ps_set (i := 4) sc__law_expression.nd rfl (Or.inl rfl) (pe_lst (pa_cons (pe_tup (pa_cons pe_str (pa_cons pe_int pa_nil))) (pa_cons (pe_tup (pa_cons pe_str (pa_cons pe_int pa_nil))) (pa_cons (pe_tup (pa_cons pe_str (pa_cons pe_int pa_nil))) (pa_cons (pe_tup (pa_cons pe_str (pa_cons pe_int pa_nil))) (pa_cons (pe_tup (pa_cons pe_str (pa_cons pe_int pa_nil))) (pa_cons (pe_tup (pa_cons pe_str (pa_cons pe_int pa_nil))) (pa_cons (pe_tup (pa_cons pe_str (pa_cons pe_int pa_nil))) (pa_cons (pe_tup (pa_cons pe_str (pa_cons pe_int pa_nil))) pa_nil))))))))))
      (pss_cons (ps_set (i := 5) sc__law_expression.nd rfl (Or.inl rfl) (pe_lst pa_nil))
      (pss_cons (ps_set (i := 6) sc__law_expression.nd rfl (Or.inl rfl) pe_int)
      (pss_cons (ps_while PassesOwn.never (pt_cmpR op_gt (pv 6) pe_int (nomark _)) (pss_cons (ps_set (i := 6) sc__law_expression.nd rfl (Or.inl rfl) (pe_op op_sub (pv 6) pe_int))
      (pss_cons (ps_set (i := 7) sc__law_expression.nd rfl (Or.inl rfl) (pe_op op_sub (pe_op op_sub (pe_op op_sub (pv 1) (pe_callB call_len_seq (by rfl) E.b_len PySem.boot_len (pa_cons (pv 5) pa_nil))) (pv 6)) pe_int))
      (pss_cons (ps_asg (pe_ix ix_list (pv 3) (pe_call G__law_draw (hr.mono (by decide)) (by rfl) g__law_draw kp__law_draw b__law_draw .nil pass0 (pa_cons (pv 0) (pa_cons pe_int pa_nil))) (fun _ _ => rfl)) (pg_tup rfl (pgs_cons (pg_name (i := 8) sc__law_expression.nd rfl (Or.inl rfl)) (pgs_cons (pg_name (i := 9) sc__law_expression.nd rfl (Or.inl rfl)) pgs_nil))))
      (pss_cons (ps_if (pw_and (pt_val (pv 2)) (pw_and1 (pt_cmpR op_eq (pe_call G__law_draw (hr.mono (by decide)) (by rfl) g__law_draw kp__law_draw b__law_draw .nil pass0 (pa_cons (pv 0) (pa_cons pe_int pa_nil))) pe_int (nomark _)))).pt (pss_one (ps_asg (pe_ix ix_list (pv 4) (pe_call G__law_draw (hr.mono (by decide)) (by rfl) g__law_draw kp__law_draw b__law_draw .nil pass0 (pa_cons (pv 0) (pa_cons (pe_callB call_len_seq (by rfl) E.b_len PySem.boot_len (pa_cons (pv 4) pa_nil)) pa_nil))) (fun _ _ => rfl)) (pg_tup rfl (pgs_cons (pg_name (i := 8) sc__law_expression.nd rfl (Or.inl rfl)) (pgs_cons (pg_name (i := 9) sc__law_expression.nd rfl (Or.inl rfl)) pgs_nil))))) pss_nil)
      (pss_one (ps_if (pw_and (pt_cmpR op_le (pv 9) (pv 7) (nomark _)) (pw_and (pw_or (pt_cmpR op_gt (pv 9) pe_int (nomark _)) (pw_or1 (pt_val (pv 2)))).pt (pw_and1 (pt_cmpR op_gt (pe_call G__law_draw (hr.mono (by decide)) (by rfl) g__law_draw kp__law_draw b__law_draw .nil pass0 (pa_cons (pv 0) (pa_cons pe_int pa_nil))) pe_int (nomark _))))).pt (pss_cons (ps_expr (pe_bm PySem.F.plainAttrs_list PySem.F.slot_list_append PySem.F.type_list_append mt_append (pv 5) (pa_cons (pe_tup (pa_cons pe_str (pa_cons (pv 8) (pa_cons (pv 9) pa_nil)))) pa_nil)))
      (pss_one (ps_set (i := 6) sc__law_expression.nd rfl (Or.inl rfl) (pe_op op_add (pv 6) (pv 9))))) (pss_one (ps_if (pw_and (pt_val (pv 2)) (pw_and1 (pt_cmpR op_eq (pe_call G__law_draw (hr.mono (by decide)) (by rfl) g__law_draw kp__law_draw b__law_draw .nil pass0 (pa_cons (pv 0) (pa_cons pe_int pa_nil))) pe_int (nomark _)))).pt (pss_one (ps_expr (pe_bm PySem.F.plainAttrs_list PySem.F.slot_list_append PySem.F.type_list_append mt_append (pv 5) (pa_cons (pe_tup (pa_cons pe_str (pa_cons (pe_call G__law_draw (hr.mono (by decide)) (by rfl) g__law_draw kp__law_draw b__law_draw .nil pass0 (pa_cons (pv 0) (pa_cons pe_int pa_nil))) pa_nil))) pa_nil)))) (pss_one (ps_expr (pe_bm PySem.F.plainAttrs_list PySem.F.slot_list_append PySem.F.type_list_append mt_append (pv 5) (pa_cons (pe_call G__law_number (hr.mono (by decide)) (by rfl) g__law_number kp__law_number b__law_number .nil pass0 (pa_cons (pv 0) pa_nil)) pa_nil)))))))))))))
      (pss_one (ps_ret (pe_callTy call_tuple_of (by rfl) E.b_tuple (by decide +kernel) (pa_cons (pv 5) pa_nil))))))))), ?_⟩
    refine seq_asg ?_
    refine lit_lst (K := K) (ds := signs6) ?_ (by decide) H _ fun v3 H3 t3 i3 => ?_
    · unfold signs6
      walk_at "lits"
    refine gname (seq_asg ?_)
    refine lit_lst (K := K) (ds := others8) ?_ (by decide) H3 _ fun v4 H4 t4 i4 => ?_
    · unfold others8
      walk_at "lits"
    cases i3 with
    | @lst ga ws3 _ g3 h3a i3 =>
    cases i4 with
    | @lst gb ws4 _ g4 h4a i4 =>
    obtain ⟨os0, hos0⟩ := hS0.at_s
    have hS := hS0.keep (t3.trans t4)
    have hga : H4 ga = some (.lst ws3) := t4 _ _ h3a
    have sga : ga ≠ s := fun z => by rw [z, hos0] at g3; cases g3
    have sgb : gb ≠ s := fun z => by rw [z, t3 _ _ hos0] at g4; cases g4
    have j3 : ImAll K (fun b => b ≠ s) H4 ws3 signs6 := Im.monoAll (fun b o _ e => t4 b o e) (fun b e z => by rw [z, hos0] at e; cases e) _ _ i3
    have j4 : ImAll K (fun b => b ≠ s) H4 ws4 others8 := Im.monoAll (fun b o _ e => e) (fun b e z => by rw [z, t3 _ _ hos0] at e; cases e) _ _ i4
    have t34 := t3.trans t4
    replace q : ∀ (v : V) (ds : List PyData) (H' : Hp), Cls 1 ds → (∀ d ∈ ds, NdA d) → (ds.length : Int) ≤ n → But s H4 H' → Stm H' s l → Im K (fun b => H4 b = Option.none) H' v (.tuple ds) → Q v H' := fun v ds H' c1 c2 c3 c4 c5 c6 => q v ds H' c1 c2 c3 ((But.of t34).trans c4) c5 (Im.mono (fun _ _ _ e => e) (fun b e => t34.free e) _ _ c6)
    clear i3 i4 g3 g4 h3a t3 hos0 hS0 t34
    revert t4
    intro _
    generalize hHH : H4 = HH at *
    clear hHH
    refine gname (seq_asg ?_)
    refine ⟨Nat.zero_le _, fun r nr => ?_⟩
    refine gname (seq_asg (gname (seq_any ?_)))
    obtain ⟨os, hos⟩ := hS.at_s
    obtain ⟨ol, hol⟩ := hS.at_l
    have sr : s ≠ r := ne_of_none hos nr
    have lr : l ≠ r := ne_of_none hol nr
    refine ⟨fun k σ H' => ∃ (m : Nat) (va vb vc : Option V) (xs : List V) (ds : List PyData), σ = [some (.ref s), some (.int n), some (.bl w), some (.ref ga), some (.ref gb), some (.ref r), some (.int (m : Int)), va, vb, vc] ∧ H' r = some (.lst xs) ∧ ImAll K (fun b => HH b = Option.none ∧ b ≠ r) H' xs ds ∧ (∀ t, Cls m t → Cls 1 (ds ++ t)) ∧ (∀ d ∈ ds, NdA d) ∧ (ds.length : Int) + m ≤ n ∧ Stm H' s l ∧ But s HH H' ∧ k = n.toNat - ds.length,
      ⟨_, 1, _, _, _, [], [], rfl, upd_same, .nil, fun t h => h, (fun d hd => (nomatch hd)), by show (0 : Int) + 1 ≤ n; omega, hS.put sr lr, But.of (same_upd nr), rfl⟩, ?_⟩
    rintro k σ H1 ⟨m, va, vb, vc, xs, ds, rfl, h1, h2, h3, h4, h5, h6, h7, rfl⟩
    have hxl : xs.length = ds.length := h2.len
    refine ⟨_, rfl, _, _, rfl, rfl, _, rfl, ite2 (fun e => ?_) (fun e => ?_)⟩
    · have hm : 0 < m := by
        have := of_decide_eq_true e
        omega
      refine ⟨fun σ' H' => ∃ (m' : Nat) (va vb vc : Option V) (xs' : List V) (ds' : List PyData), σ' = [some (.ref s), some (.int n), some (.bl w), some (.ref ga), some (.ref gb), some (.ref r), some (.int (m' : Int)), va, vb, vc] ∧ H' r = some (.lst xs') ∧ ImAll K (fun b => HH b = Option.none ∧ b ≠ r) H' xs' ds' ∧ (∀ t, Cls m' t → Cls 1 (ds' ++ t)) ∧ (∀ d ∈ ds', NdA d) ∧ (ds'.length : Int) + m' ≤ n ∧ Stm H' s l ∧ But s HH H' ∧ ds'.length = ds.length + 1,
        fun σ' H' ⟨m', va', vb', vc', xs', ds', g1, g2, g3, g4, g5, g6, g7, g8, g9⟩ => ⟨n.toNat - ds'.length, by omega, m', va', vb', vc', xs', ds', g1, g2, g3, g4, g5, g6, g7, g8, rfl⟩, ?_⟩
      refine seq_asg ?_
      refine ⟨_, rfl, _, _, rfl, rfl, ?_⟩
      refine gname (seq_asg ?_)
      refine ⟨_, rfl, _, rfl, _, _, rfl, .inl (SqL.of h1), _, _, rfl, rfl, _, rfl, _, _, rfl, rfl, _, _, rfl, rfl, ?_⟩
      refine gname ?_
      -- a new node is put behind
      have put : ∀ (H2 : Hp) (v : V) (d : PyData), But s H1 H2 → Stm H2 s l → Im K (fun b => H1 b = Option.none) H2 v d → NdA d → ∀ (m' : Nat) (z : Int), z = (m' : Int) → m' = m - 1 + arN d → (ds.length : Int) + 1 + m' ≤ n → ∀ va vb vc,
          ∃ (m'' : Nat) (va' vb' vc' : Option V) (xs' : List V) (ds' : List PyData), [some (.ref s), some (.int n), some (.bl w), some (.ref ga), some (.ref gb), some (.ref r), some (.int z), va, vb, vc] = [some (.ref s), some (.int n), some (.bl w), some (.ref ga), some (.ref gb), some (.ref r), some (.int (m'' : Int)), va', vb', vc'] ∧ (upd H2 r (.lst (xs ++ [v]))) r = some (.lst xs') ∧ ImAll K (fun b => HH b = Option.none ∧ b ≠ r) (upd H2 r (.lst (xs ++ [v]))) xs' ds' ∧ (∀ t, Cls m'' t → Cls 1 (ds' ++ t)) ∧ (∀ d ∈ ds', NdA d) ∧ (ds'.length : Int) + m'' ≤ n ∧ Stm (upd H2 r (.lst (xs ++ [v]))) s l ∧ But s HH (upd H2 r (.lst (xs ++ [v]))) ∧ ds'.length = ds.length + 1 := by
        intro H2 v d b2 S2 iv nd m' z hz em hle va vb vc
        have k1 : ∀ b o, (HH b = Option.none ∧ b ≠ r) → H1 b = some o → (upd H2 r (.lst (xs ++ [v]))) b = some o := fun b o g e => by
          rw [upd_ne g.2]
          exact b2 b o (fun z => by rw [z, hos] at g; cases g.1) e
        have k2 : ∀ b o, H1 b = Option.none → H2 b = some o → (upd H2 r (.lst (xs ++ [v]))) b = some o := fun b o g e => by
          rw [upd_ne (fun z => by rw [z, h1] at g; cases g)]
          exact e
        have k3 : ∀ b, H1 b = Option.none → HH b = Option.none ∧ b ≠ r := fun b g => by
          refine ⟨?_, fun z => by rw [z, h1] at g; cases g⟩
          cases eh : HH b with
          | none => rfl
          | some o =>
            by_cases z : b = s
            · obtain ⟨o1, ho1⟩ := h6.at_s
              rw [z, ho1] at g; cases g
            · rw [h7 _ _ z eh] at g; cases g
        have k4 : ∀ t, Cls m' t → Cls 1 ((ds ++ [d]) ++ t) := fun t ht => by
          rw [List.append_assoc]
          exact h3 _ ⟨hm, by rw [em] at ht; exact ht⟩
        have k5 : ∀ d' ∈ ds ++ [d], NdA d' := fun d' hd' => by
          rcases List.mem_append.mp hd' with z | z
          · exact h4 _ z
          · rw [List.mem_singleton.mp z]; exact nd
        have k6 : ((ds ++ [d]).length : Int) + (m' : Int) ≤ n := by
          rw [List.length_append]
          show ((ds.length + 1 : Nat) : Int) + (m' : Int) ≤ n
          omega
        have k7 : But s HH (upd H2 r (.lst (xs ++ [v]))) := fun b o hb e => by
          rw [upd_ne (ne_of_none e nr)]
          exact b2 b o hb (h7 b o hb e)
        exact ⟨m', va, vb, vc, xs ++ [v], ds ++ [d], by rw [hz], upd_same, ImAll.snoc (Im.monoAll k1 (fun _ g => g) _ _ h2) (Im.mono k2 k3 _ _ iv), k4, k5, k6, S2.put sr lr, k7, by rw [List.length_append]; rfl⟩
      have hm1 : (m : Int) - 1 = ((m - 1 : Nat) : Int) := by omega
      have free1 : ∀ (H2 : Hp), But s H1 H2 → Stm H2 s l → ∀ b, H2 b = Option.none → H1 b = Option.none := fun H2 b2 S2 b g => by
        cases eh : H1 b with
        | none => rfl
        | some o =>
          by_cases z : b = s
          · obtain ⟨o1, ho1⟩ := S2.at_s
            rw [z, ho1] at g; cases g
          · rw [b2 _ _ z eh] at g; cases g
      -- name, arity = signs[..]
      refine seq_asg ?_
      refine ⟨_, rfl, _, rfl, s, l, 6, rfl, h6, by decide, Nat.lt_of_lt_of_le (by decide) n9, fun r1 H2 r10 r11 b2 S2 => ?_⟩
      obtain ⟨x1, k1, p1, hx1, hk1, at1, ne1, hp1⟩ := sg_pick sg6 j3 r10 r11
      have bH2 := h7.trans b2
      refine ⟨ga, ws3, r1, .ref p1, rfl, rfl, SqL.of (bH2 _ _ sga hga), at1, p1, _, rfl, SqT.of (bH2 _ _ ne1 hp1), rfl, _, _, rfl, gname ⟨_, [], rfl, gname ⟨rfl, ?_⟩⟩⟩
      refine seq_via (fun σ H' => ∃ (x : Str) (k : Nat), σ = [some (.ref s), some (.int n), some (.bl w), some (.ref ga), some (.ref gb), some (.ref r), some (.int ((m : Int) - 1)), some (.int (n - (xs.length : Int) - ((m : Int) - 1) - 1)), some (.str x), some (.int (k : Int))] ∧ okName x = true ∧ k ≤ 8 ∧ But s H1 H' ∧ Stm H' s l) ?_ (fun go => ?_)
      · rintro σ H5 ⟨x, k, rfl, hx, hk, b5, S5⟩
        have e5 : H5 r = some (.lst xs) := b5 _ _ sr.symm h1
        obtain ⟨os5, hos5⟩ := S5.at_s
        obtain ⟨ol5, hol5⟩ := S5.at_l
        refine ifs_via (fun H' => But s H1 H' ∧ Stm H' s l) ?_ (fun els => ?_)
        · -- a leaf
          rintro H6 ⟨b6, S6⟩
          refine ifs_via (fun H' => But s H1 H' ∧ Stm H' s l) ?_ (fun els => ?_)
          · rintro H7 ⟨b7, S7⟩
            have e7 : H7 r = some (.lst xs) := b7 _ _ sr.symm h1
            refine ⟨_, rfl, .inl ⟨rfl, _, SqL.of e7⟩, _, rfl, s, l, rfl, S7, fun z H8 hz b8 S8 => ?_⟩
            refine ⟨_, _, _, rfl, rfl, b8 _ _ sr.symm e7, small1000 (by omega), ?_⟩
            exact put H8 (.int z) (.int z) (b7.trans b8) S8 (.int z) (in_nd hz) (m - 1) _ hm1 rfl (by omega) _ _ _
          · cases w with
            | false => exact ⟨_, rfl, _, rfl, iteF (iteF (els H6 ⟨b6, S6⟩))⟩
            | true =>
              refine ⟨_, rfl, _, rfl, iteT ⟨_, rfl, s, l, 8, rfl, S6, by decide, Nat.lt_of_lt_of_le (by decide) n9, fun r7 H7 _ _ b7 S7 => ⟨rfl, _, rfl, ite2 (fun _ => ?_) (fun _ => els H7 ⟨b6.trans b7, S7⟩)⟩⟩⟩
              have b67 := b6.trans b7
              have e7 : H7 r = some (.lst xs) := b67 _ _ sr.symm h1
              refine ⟨_, rfl, .inl ⟨rfl, _, SqL.of e7⟩, _, rfl, s, l, 3, rfl, S7, by decide, Nat.lt_of_lt_of_le (by decide) n9, fun r8 H8 r80 r81 b8 S8 => ⟨(by show 2 ≤ sizeLine; decide), fun p np => ?_⟩⟩
              have e8 : H8 r = some (.lst xs) := b8 _ _ sr.symm e7
              have bb := b67.trans b8
              obtain ⟨os8, hos8⟩ := S8.at_s
              obtain ⟨ol8, hol8⟩ := S8.at_l
              have rp : r ≠ p := ne_of_none e8 np
              refine ⟨_, _, _, rfl, rfl, by rw [upd_ne rp]; exact e8, small1000 (by omega), ?_⟩
              exact put _ (.ref p) (.tuple [.str "v", .int r8]) (bb.trans (But.of (same_upd np))) (S8.put (ne_of_none hos8 np) (ne_of_none hol8 np)) (.tup (free1 H8 bb S8 p np) upd_same (.cons (.str _) (.cons (.int _) .nil))) ⟨3, .v r8 r80 r81⟩ (m - 1) _ hm1 rfl (by omega) _ _ _
        · -- the tests
          refine ⟨_, rfl, _, rfl, _, _, rfl, rfl, _, rfl, ite2 (fun e1 => ?_) (fun _ => els _ ⟨b5, S5⟩)⟩
          have hroom : (k : Int) ≤ n - (xs.length : Int) - ((m : Int) - 1) - 1 := of_decide_eq_true e1
          by_cases hk0 : 0 < k
          · refine ⟨_, rfl, _, _, rfl, rfl, _, rfl, ?_⟩
            rw [decide_eq_true (show (0 : Int) < (k : Int) by omega)]
            refine iteT (iteT ?_)
            refine ⟨_, rfl, s, l, 4, rfl, S5, by decide, Nat.lt_of_lt_of_le (by decide) n9, fun r6 H6 _ _ b6 S6 => ⟨_, _, rfl, rfl, _, rfl, ite2 (fun _ => ?_) (fun _ => els H6 ⟨b5.trans b6, S6⟩)⟩⟩
            have e6 : H6 r = some (.lst xs) := b6 _ _ sr.symm e5
            have b56 := b5.trans b6
            obtain ⟨os6, hos6⟩ := S6.at_s
            obtain ⟨ol6, hol6⟩ := S6.at_l
            refine seq_any ?_
            refine ⟨_, rfl, .inl ⟨rfl, _, SqL.of e6⟩, _, rfl, _, rfl, (by show 3 ≤ sizeLine; decide), fun p np => ?_⟩
            have rp : r ≠ p := ne_of_none e6 np
            refine ⟨_, _, _, rfl, rfl, by rw [upd_ne rp]; exact e6, small1000 (by omega), ?_⟩
            refine nxp (asg1 ?_)
            refine ⟨_, rfl, _, rfl, _, _, rfl, rfl, ?_⟩
            refine gname ?_
            exact put _ (.ref p) (.tuple [.str "f", .str x, .int (k : Int)]) (b56.trans (But.of (same_upd np))) (S6.put (ne_of_none hos6 np) (ne_of_none hol6 np)) (.tup (free1 H6 b56 S6 p np) upd_same (.cons (.str _) (.cons (.str _) (.cons (.int _) .nil)))) ⟨0, .f x k hx (by omega) (by omega)⟩ (m - 1 + k) _ (by omega) rfl (by omega) _ _ _
          · refine ⟨_, rfl, _, _, rfl, rfl, _, rfl, ?_⟩
            rw [decide_eq_false (show ¬ (0 : Int) < (k : Int) by omega)]
            cases w with
            | false => exact iteF ⟨_, rfl, _, rfl, iteF (iteF (els H5 ⟨b5, S5⟩))⟩
            | true =>
            refine iteF ⟨_, rfl, _, rfl, iteT ?_⟩
            refine ⟨_, rfl, s, l, 4, rfl, S5, by decide, Nat.lt_of_lt_of_le (by decide) n9, fun r6 H6 _ _ b6 S6 => ⟨_, _, rfl, rfl, _, rfl, ite2 (fun _ => ?_) (fun _ => els H6 ⟨b5.trans b6, S6⟩)⟩⟩
            have e6 : H6 r = some (.lst xs) := b6 _ _ sr.symm e5
            have b56 := b5.trans b6
            obtain ⟨os6, hos6⟩ := S6.at_s
            obtain ⟨ol6, hol6⟩ := S6.at_l
            refine seq_any ?_
            refine ⟨_, rfl, .inl ⟨rfl, _, SqL.of e6⟩, _, rfl, _, rfl, (by show 3 ≤ sizeLine; decide), fun p np => ?_⟩
            have rp : r ≠ p := ne_of_none e6 np
            refine ⟨_, _, _, rfl, rfl, by rw [upd_ne rp]; exact e6, small1000 (by omega), ?_⟩
            refine nxp (asg1 ?_)
            refine ⟨_, rfl, _, rfl, _, _, rfl, rfl, ?_⟩
            refine gname ?_
            exact put _ (.ref p) (.tuple [.str "f", .str x, .int (k : Int)]) (b56.trans (But.of (same_upd np))) (S6.put (ne_of_none hos6 np) (ne_of_none hol6 np)) (.tup (free1 H6 b56 S6 p np) upd_same (.cons (.str _) (.cons (.str _) (.cons (.int _) .nil)))) ⟨0, .f x k hx (by omega) (by omega)⟩ (m - 1 + k) _ (by omega) rfl (by omega) _ _ _
      · -- others
        cases w with
        | false => exact ⟨_, rfl, _, rfl, iteF (iteF (go _ _ ⟨x1, k1, rfl, hx1, hk1, b2, S2⟩))⟩
        | true =>
          refine ⟨_, rfl, _, rfl, iteT ⟨_, rfl, s, l, 6, rfl, S2, by decide, Nat.lt_of_lt_of_le (by decide) n9, fun r3 H3' _ _ b3 S3 => ⟨rfl, _, rfl, ite2 (fun _ => ?_) (fun _ => go _ _ ⟨x1, k1, rfl, hx1, hk1, b2.trans b3, S3⟩)⟩⟩⟩
          have b23 := b2.trans b3
          have bH3 := h7.trans b23
          refine asg1 ?_
          have hgb : H3' gb = some (.lst ws4) := bH3 _ _ sgb h4a
          have l8 : (ws4.length : Int) = 8 := by rw [j4.len]; rfl
          refine ⟨_, rfl, _, rfl, _, rfl, gb, _, rfl, .inl (SqL.of hgb), s, l, _, rfl, S3, by rw [l8]; decide, by rw [l8]; exact Nat.lt_of_lt_of_le (by decide) n9, fun r4 H5 r40 r41 b5 S5 => ?_⟩
          obtain ⟨x2, k2, p2, hx2, hk2, at2, ne2, hp2⟩ := sg_pick sg8 j4 r40 (by rw [← j4.len]; exact r41)
          have bH5 := bH3.trans b5
          refine ⟨gb, ws4, r4, .ref p2, rfl, rfl, SqL.of (bH5 _ _ sgb h4a), at2, p2, _, rfl, SqT.of (bH5 _ _ ne2 hp2), rfl, _, _, rfl, gname ⟨_, [], rfl, gname ⟨rfl, ?_⟩⟩⟩
          exact go _ _ ⟨x2, k2, rfl, hx2, hk2, b23.trans b5, S5⟩
    · refine nxp ?_
      have hm : m = 0 := by
        cases m with
        | zero => rfl
        | succ m => exact absurd (decide_eq_true (by omega)) e
      subst hm
      have ht : Cls 1 ds := by have := h3 [] rfl; rwa [List.append_nil] at this
      refine ⟨_, rfl, _, _, rfl, .inl ⟨SqL.of h1, fun t nt => ?_⟩⟩
      obtain ⟨os1, hos1⟩ := h6.at_s
      obtain ⟨ol1, hol1⟩ := h6.at_l
      have ft : HH t = Option.none := by
        cases eh : HH t with
        | none => rfl
        | some o =>
          by_cases z : t = s
          · rw [z, hos1] at nt; cases nt
          · rw [h7 _ _ z eh] at nt; cases nt
      exact q _ ds _ ht h4 (by omega) (h7.trans (But.of (same_upd nt))) (h6.put (ne_of_none hos1 nt) (ne_of_none hol1 nt)) (.tup ft upd_same (Im.monoAll (fun b o _ e => same_upd nt b o e) (fun _ g => g.1) _ _ h2))

theorem ok_is_term {f : Addr} {fd : FuncData} (F : Fun K "is_term" "is_term" s_is_term f fd) (E : Bi K mg) (D_is_node : Has P w K mg base 3 "is_node" ["value"] (sp_is_node K)) (D_arity_of : Has P w K mg base 2 "arity_of" ["node"] (sp_arity_of K)) : FnOk P w K mg base CX0 4 f fd ["value"] (sp_is_term K) := by
  obtain ⟨f_is_node, fd_is_node, G_is_node, g_is_node, kp_is_node, b_is_node⟩ := D_is_node
  obtain ⟨f_arity_of, fd_arity_of, G_arity_of, g_arity_of, kp_arity_of, b_arity_of⟩ := D_arity_of
  refine F.ok sc_is_term (fun vs H Q E h => ?_) (fun cdv A outer s H vs Q E' hr h => ?_)
  · obtain ⟨x, d, rfl, _⟩ := h
    rfl
  · obtain ⟨x, d, rfl, hd, hk, q⟩ := h
    refine ⟨_, (pss_cons (ps_if (pt_not (pt_val (pe_callB call_isi (by rfl) E.b_isinstance (by decide +kernel) (pa_cons (pv 0) (pa_cons (pe_ty "tuple" (by rfl) E.b_tuple (by decide +kernel)) pa_nil))))) (pss_one (ps_ret pe_bl)) pss_nil)
      (pss_cons (ps_set (i := 1) sc_is_term.nd rfl (Or.inl rfl) pe_int)
      (pss_cons (ps_for PassesOwn.never rfl (pi_tup (pv 0)) (pg_name (i := 2) sc_is_term.nd rfl (Or.inl rfl)) (pss_cons (ps_if (pw_or (pt_cmpR op_eq (pv 1) pe_int (nomark _)) (pw_or1 (pt_not (pt_val (pe_call G_is_node (hr.mono (by decide)) (by rfl) g_is_node kp_is_node b_is_node .nil pass0 (pa_cons (pv 2) pa_nil)))))).pt (pss_one (ps_ret pe_bl)) pss_nil)
      (pss_one (ps_aug (i := 1) sc_is_term.nd rfl (Or.inl rfl) (pe_op op_sub (pe_call G_arity_of (hr.mono (by decide)) (by rfl) g_arity_of kp_arity_of b_arity_of .nil pass0 (pa_cons (pv 2) pa_nil)) pe_int) ip_add))))
      (pss_one (ps_ret (pe_cmpR op_eq (pv 1) pe_int (nomark _))))))), ?_⟩
    refine ⟨x, rfl, _, _, _, _, _, rfl, .ty _, tyx_of hd, kit_ty (kitT _), _, rfl, ite2 (fun e => ?_) (fun e => ?_)⟩
    · have e2 : isTerm d = false := by cases d <;> first | rfl | cases e
      have q2 := q H (Same.refl H)
      rw [e2] at q2
      exact q2
    · obtain ⟨ds, rfl⟩ : ∃ ds, d = .tuple ds := by cases d <;> first | exact ⟨_, rfl⟩ | exact absurd rfl e
      cases hd with
      | @tup a xs _ hs ha =>
        have hl := DpAll.len ha
        refine ⟨_, rfl, a, rfl, ⟨_, hs⟩, for_tup (K := K) (a := a) (xs := xs) (fun i σ H1 => ∃ (m : Int) (v : Option V), σ = [some (.ref a), some (.int m), v] ∧ Same H H1 ∧ termGo m (ds.drop i) = termGo 1 ds)
          ⟨1, none, rfl, Same.refl H, by rw [List.drop_zero]⟩ (fun i σ H1 _ ⟨_, _, _, s1, _⟩ => same_sqT s1 hs) ?_ ?_⟩
        · rintro i y σ H1 hi ⟨m, v, rfl, s1, hm⟩
          obtain ⟨d, hd⟩ : ∃ d, ds[i]? = some d := by
            have := (List.getElem?_eq_some_iff.mp hi).1
            exact ⟨ds[i]'(by omega), List.getElem?_eq_getElem _⟩
          obtain ⟨y', hy', hyd⟩ := DpAll.get ha hd
          have ey : y' = y := Option.some.inj (hy'.symm.trans hi)
          subst ey
          have hdm : d ∈ ds := List.mem_of_getElem? hd
          have hdrop : ds.drop i = d :: ds.drop (i + 1) := by
            obtain ⟨h1, h2⟩ := List.getElem?_eq_some_iff.mp hd
            rw [List.drop_eq_getElem_cons h1, h2]
          rw [hdrop] at hm
          have q2 : ∀ H2, Same H1 H2 → Q (.bl (isTerm (.tuple ds))) H2 := fun H2 s2 => q H2 (s1.trans s2)
          have et : isTerm (.tuple ds) = termGo m (d :: ds.drop (i + 1)) := hm.symm
          rw [et] at q2
          refine ⟨_, rfl, rfl, _, rfl, ite2 (fun e1 => ?_) (fun e1 => ?_)⟩
          · have e2 : m = 0 := V.int.inj (of_decide_eq_true e1)
            have e3 := q2 H1 (Same.refl H1)
            unfold termGo at e3
            rw [if_pos (Or.inl e2)] at e3
            exact e3
          · have e2 : ¬ m = 0 := fun z => e1 (decide_eq_true (congrArg V.int z))
            refine ⟨_, rfl, y', d, rfl, dp_same s1 _ _ hyd, hk ds rfl d hdm, fun H2 s2 => ⟨_, rfl, ite2 (fun e3 => ?_) (fun e3 => ?_)⟩⟩
            · have e4 := q2 H2 s2
              have e5 : isNode d = false := by cases hh : isNode d <;> first | rfl | (rw [hh] at e3; cases e3)
              unfold termGo at e4
              rw [if_pos (Or.inr e5)] at e4
              exact e4
            · have e5 : isNode d = true := by cases hh : isNode d <;> first | rfl | (rw [hh] at e3; exact absurd rfl e3)
              refine ⟨_, rfl, _, rfl, y', d, rfl, dp_same (s1.trans s2) _ _ hyd, e5, _, _, rfl, rfl, _, _, rfl, rfl, ?_⟩
              refine ⟨_, _, rfl, s1.trans s2, ?_⟩
              have hm2 := hm
              conv at hm2 => lhs; unfold termGo
              rw [if_neg (fun z => z.elim e2 (fun z => by rw [e5] at z; cases z))] at hm2
              exact hm2
        · rintro σ H1 ⟨m, v, rfl, s1, hm⟩
          refine ⟨_, rfl, rfl, ?_⟩
          rw [List.drop_of_length_le (by omega)] at hm
          have q2 := q H1 s1
          rw [show isTerm (.tuple ds) = termGo m [] from hm.symm] at q2
          have e3 : termGo m [] = decide (V.int m = V.int 0) := by
            unfold termGo
            exact decide_eq_decide.mpr ⟨fun h => congrArg V.int h, fun h => V.int.inj h⟩
          rw [e3] at q2
          exact q2

theorem ok_compound {f : Addr} {fd : FuncData} (F : Fun K "compound" "compound" s_compound f fd) (E : Bi K mg) (D_is_name : Has P w K mg base 1 "is_name" ["value"] (sp_is_name K)) (D_is_term : Has P w K mg base 4 "is_term" ["value"] (sp_is_term K)) : FnR P w K mg base (L2.CX P w) 5 f (starSp 1 (sp_compound K)) := by
  obtain ⟨f_is_name, fd_is_name, G_is_name, g_is_name, kp_is_name, b_is_name⟩ := D_is_name
  obtain ⟨f_is_term, fd_is_term, G_is_term, g_is_term, kp_is_term, b_is_term⟩ := D_is_term
  obtain ⟨oc, od, kV, doc, pm, an, cdv, ct, osl, rfl, lk, hcd⟩ := F.ex
  refine fn_star (ps := ["name"]) (pv := "parts") lk hcd sc_compound cxUp (bind_star1 (B := fun l => bindArgs _ ⟨l, []⟩) (fun _ => rfl) (fun _ _ _ => rfl)) (fun A outer s H vs Q E' hr h => ?_)
  obtain ⟨x, p, rs, ds, rfl, hx, hp, ⟨hR, hok, hl, hfl⟩, q1, q2⟩ := h
  refine ⟨_, (pss_cons (ps_if (pt_not (pt_val (pe_call G_is_name (hr.mono (by decide)) (by rfl) g_is_name kp_is_name b_is_name .nil pass0 (pa_cons (pv 0) pa_nil)))) (pss_one (ps_raise rfl (takes_of rfl rfl rfl rfl) (pmk_own PySem.F.excBase_ValueError E.x_BadTerm.xC E.x_BadTerm.gC E.x_BadTerm.kC (raises_own E.x_BadTerm.bC E.x_BadTerm.tC) rfl))) pss_nil)
      (pss_cons (ps_if (pt_not (pt_chain op_le op_le pe_int (pe_callB call_len_seq (by rfl) E.b_len PySem.boot_len (pa_cons (pv 1) pa_nil)) (pe_gC (by rfl) E.c_MOST_ARITY))) (pss_one (ps_raise rfl (takes_of rfl rfl rfl rfl) (pmk_own PySem.F.excBase_ValueError E.x_BadTerm.xC E.x_BadTerm.gC E.x_BadTerm.kC (raises_own E.x_BadTerm.bC E.x_BadTerm.tC) rfl))) pss_nil)
      (pss_cons (ps_set (i := 2) sc_compound.nd rfl (Or.inl rfl) (pe_lst (pa_cons (pe_tup (pa_cons pe_str (pa_cons (pv 0) (pa_cons (pe_callB call_len_seq (by rfl) E.b_len PySem.boot_len (pa_cons (pv 1) pa_nil)) pa_nil)))) pa_nil)))
      (pss_cons (ps_for (passes_of rfl) rfl (pi_tup (pv 1)) (pg_name (i := 3) sc_compound.nd rfl (Or.inl rfl)) (pss_cons (ps_if (pt_not (pt_val (pe_call G_is_term (hr.mono (by decide)) (by rfl) g_is_term kp_is_term b_is_term .nil pass0 (pa_cons (pv 3) pa_nil)))) (pss_one (ps_raise rfl (takes_of rfl rfl rfl rfl) (pmk_own PySem.F.excBase_ValueError E.x_BadTerm.xC E.x_BadTerm.gC E.x_BadTerm.kC (raises_own E.x_BadTerm.bC E.x_BadTerm.tC) rfl))) pss_nil)
      (pss_one (ps_expr (pe_bm PySem.F.plainAttrs_list PySem.F.slot_list_extend PySem.F.type_list_extend mt_extT (pv 2) (pa_cons (pv 3) pa_nil))))))
      (pss_one (ps_ret (pe_callTy call_tuple_of (by rfl) E.b_tuple (by decide +kernel) (pa_cons (pv 2) pa_nil)))))))), ?_⟩
  have hrl := DpAll.len hR
  refine seq_ifN ?_
  refine ⟨_, rfl, .str x, _, rfl, .str x, (fun z e => by cases e; exact hx), fun H1 s1 => ⟨_, rfl, ?_⟩⟩
  have cG : compG x ds = (isName (.str x) && (decide ((1 : Int) ≤ (ds.length : Int)) && decide ((ds.length : Int) ≤ 8)) && ds.all isTerm) := rfl
  cases hb : isName (.str x) with
  | false => exact iteT (q2 (by rw [cG, hb]; exact Bool.false_ne_true) H1 s1)
  | true =>
    rw [hb] at cG
    refine iteF (seq_ifN ?_)
    refine ⟨_, rfl, _, _, rfl, .inr (same_sqT s1 hp), _, _, rfl, rfl, _, rfl, ite2 (fun e => ?_) (fun e => ⟨_, rfl, ?_⟩)⟩
    rotate_left
    · exact iteT (q2 (by
        rw [cG, show decide ((1 : Int) ≤ (ds.length : Int)) = false by rw [← hrl]; exact Bool.eq_false_iff.mpr e]
        exact Bool.false_ne_true) H1 s1)
    rw [show decide ((1 : Int) ≤ (ds.length : Int)) = true by rw [← hrl]; exact e] at cG
    refine ⟨_, _, rfl, rfl, _, rfl, ?_⟩
    cases e2 : decide ((rs.length : Int) ≤ 8) with
    | false =>
      exact iteT (q2 (by
        rw [cG, show decide ((ds.length : Int) ≤ 8) = false by rw [← hrl]; exact e2]
        exact Bool.false_ne_true) H1 s1)
    | true =>
      rw [show decide ((ds.length : Int) ≤ 8) = true by rw [← hrl]; exact e2] at cG
      refine iteF (seq_asg ?_)
      refine ⟨_, rfl, _, rfl, _, _, rfl, .inr (same_sqT s1 hp), (by show 3 ≤ sizeLine; decide), fun a na => ⟨(by show 1 ≤ sizeLine; decide), fun r nr => ?_⟩⟩
      have sa := same_upd (o := .tup [.str "f", .str x, .int (rs.length : Int)]) na
      have sr := same_upd (o := .lst [.ref a]) nr
      have nr0 : H r = Option.none := by
        cases e : H r with
        | none => rfl
        | some z => rw [sa _ _ (s1 _ _ e)] at nr; cases nr
      have s2 := s1.trans (sa.trans sr)
      have dh : Dp K (upd (upd H1 a (.tup [.str "f", .str x, .int (rs.length : Int)])) r (.lst [.ref a])) (.ref a) (.tuple [.str "f", .str x, .int (ds.length : Int)]) := by
        rw [← hrl]
        exact .tup (SqT.of (sr _ _ upd_same)) (.cons (.str _) (.cons (.str _) (.cons (.int _) .nil)))
      have e0 : (upd (upd H1 a (.tup [.str "f", .str x, .int (rs.length : Int)])) r (.lst [.ref a])) r = some (.lst [.ref a]) := upd_same
      generalize upd (upd H1 a (.tup [.str "f", .str x, .int (rs.length : Int)])) r (.lst [.ref a]) = H2 at s2 dh e0
      refine gname (seq_any ?_)
      have put : ∀ {H3 : Hp} {o : HO}, Same H H3 → Same H (upd H3 r o) := fun {H3 o} s b u e => by rw [upd_ne (ne_of_none e nr0)]; exact s b u e
      have tl := fun i => hfl i
      refine ⟨_, rfl, p, rfl, ⟨_, same_sqT s2 hp⟩, for_tup (K := K) (a := p) (xs := rs) (fun i σ H' => ∃ (v3 : Option V) (ys : List V), σ = [some (.str x), some (.ref p), some (.ref r), v3] ∧ Same H H' ∧ H' r = some (.lst (.ref a :: ys)) ∧ Dp K H' (.ref a) (.tuple [.str "f", .str x, .int (ds.length : Int)]) ∧ DpAll K H ys ((ds.take i).flatMap elems) ∧ (ds.take i).all isTerm = true)
        ⟨none, [], rfl, s2, e0, dh, .nil, rfl⟩ (fun i σ H' _ ⟨_, _, _, s, _⟩ => same_sqT s hp) ?_ ?_⟩
      · rintro i z σ H3 hi ⟨v3, ys, rfl, s3, h1, h2, h3, h4⟩
        obtain ⟨d, hd, dz0⟩ := DpAll.getV hR hi
        have dz := dp_same s3 _ _ dz0
        have htk : ds.take (i + 1) = ds.take i ++ [d] := by rw [List.take_add_one, hd]; rfl
        have hdm := List.mem_of_getElem? hd
        refine gname (seq_ifN ?_)
        refine ⟨_, rfl, z, d, rfl, dz, hok d hdm, fun H4 s4 => ⟨_, rfl, ?_⟩⟩
        cases ht : isTerm d with
        | false =>
          exact iteT (q2 (by
            rw [cG]
            intro hall
            have hall : (ds.all isTerm) = true := hall
            rw [List.all_eq_true.mp hall d hdm] at ht
            cases ht) H4 (s3.trans s4))
        | true =>
          obtain ⟨es, rfl⟩ : ∃ es, d = .tuple es := by cases d <;> first | exact ⟨_, rfl⟩ | cases ht
          have dz4 := dp_same s4 _ _ dz
          cases id dz0 with
          | @tup c2 ws _ hw0 aw =>
          have hw := same_sqT (s3.trans s4) hw0
          have h5 := s4 _ _ h1
          have hyl := DpAll.len h3
          have hwl := DpAll.len aw
          have b0 := hfl i
          have b1 := hfl (i + 1)
          rw [htk, List.flatMap_append, List.length_append] at b1
          have b2 : ([PyData.tuple es].flatMap elems).length = es.length := by rw [List.flatMap_cons, List.flatMap_nil, List.append_nil]; rfl
          refine iteF ⟨_, rfl, .inl ⟨rfl, _, SqL.of h5⟩, _, rfl, _, _, _, _, rfl, rfl, h5, hw, small_of (by rw [List.length_cons]; omega), ?_⟩
          have n4 : notTup H4 r := .inl ⟨_, h5⟩
          have s4' := s3.trans s4
          refine ⟨_, ys ++ ws, rfl, put s4', by rw [upd_same]; rfl, dp_put n4 _ _ (by simp [noL, noLA]) (dp_same s4 _ _ h2), ?_, ?_⟩
          · rw [htk, List.flatMap_append]
            refine DpAll.app h3 ?_
            rw [List.flatMap_cons, List.flatMap_nil, List.append_nil]
            exact aw
          · rw [htk, List.all_append, h4, List.all_cons, ht]
            rfl
      · rintro σ H3 ⟨v3, ys, rfl, s3, h1, h2, h3, h4⟩
        rw [hrl, List.take_length] at h3 h4
        refine nxp ?_
        refine ⟨_, rfl, _, _, rfl, .inl ⟨SqL.of h1, fun u nu => ?_⟩⟩
        have su := same_upd (o := .tup (.ref a :: ys)) nu
        exact q1 (by rw [cG, h4]; rfl) _ _ (s3.trans su) (.tup (SqT.of upd_same) (.cons (dp_same su _ _ h2) (dp_sameAll (s3.trans su) _ _ h3)))

theorem ok_symbol_error {f : Addr} {fd : FuncData} (F : Fun K "symbol_error" "symbol_error" s_symbol_error f fd) (E : Bi K mg) (D_is_variable : Has P w K mg base 1 "is_variable" ["node"] (sp_is_variable K)) (D_atom : HasX P w K mg base 2 "atom" ["name"] (sp_atom K)) (D_compound : HasR P w K mg base 5 "compound" 1 (sp_compound K)) (D_integer : HasX P w K mg base 3 "integer" ["value"] (sp_integer K)) : FnOk P w K mg base (L2.CX P w) 6 f fd ["node"] (sp_symbol_error K) := by
  obtain ⟨f_is_variable, fd_is_variable, G_is_variable, g_is_variable, kp_is_variable, b_is_variable⟩ := D_is_variable
  obtain ⟨f_atom, fd_atom, G_atom, g_atom, kp_atom, b_atom⟩ := D_atom
  obtain ⟨f_compound, G_compound, g_compound, kp_compound⟩ := D_compound
  obtain ⟨f_integer, fd_integer, G_integer, g_integer, kp_integer, b_integer⟩ := D_integer
  obtain ⟨u_EVALUABLE, v_EVALUABLE, e_EVALUABLE, r_EVALUABLE, d_EVALUABLE⟩ := E.c_EVALUABLE
  refine F.okX sc_symbol_error (fun vs H Q E h => ?_) (fun cdv A outer s H vs Q E' hr h => ?_)
  · obtain ⟨x, d, rfl, _⟩ := h
    rfl
  · obtain ⟨x, d, rfl, hd, hn, he, q⟩ := h
    refine ⟨_, (pss_cons (ps_if (pt_val (pe_call G_is_variable (hr.mono (by decide)) (by rfl) g_is_variable kp_is_variable b_is_variable .nil pass0 (pa_cons (pv 0) pa_nil))) (pss_one (ps_ret (pe_callS G_atom (hr.mono (by decide)) (by rfl) g_atom kp_atom b_atom (fun σ => passAt (takes_of rfl rfl rfl rfl) σ) (pa_cons pe_str pa_nil)))) pss_nil)
      (pss_cons (ps_asg (pv 0) (pg_tup rfl (pgs_cons (pg_name (i := 1) sc_symbol_error.nd rfl (Or.inl rfl)) (pgs_cons (pg_name (i := 2) sc_symbol_error.nd rfl (Or.inl rfl)) (pgs_cons (pg_name (i := 3) sc_symbol_error.nd rfl (Or.inl rfl)) pgs_nil)))))
      (pss_cons (ps_if (pt_cmpR (op_inT (units65 hr)) (pe_tup (pa_cons (pv 2) (pa_cons (pv 3) pa_nil))) (pe_glob (by rfl) e_EVALUABLE r_EVALUABLE) (by rfl)) (pss_one (ps_ret pe_non)) pss_nil)
      (pss_one (ps_ret (pe_callRS G_compound (hr.mono (by decide)) (by rfl) g_compound kp_compound (fun σ => passAt (takes_of rfl rfl rfl rfl) σ) (pa_cons pe_str (pa_cons (pe_callS G_atom (hr.mono (by decide)) (by rfl) g_atom kp_atom b_atom (fun σ => passAt (takes_of rfl rfl rfl rfl) σ) (pa_cons pe_str pa_nil)) (pa_cons (pe_callRS G_compound (hr.mono (by decide)) (by rfl) g_compound kp_compound (fun σ => passAt (takes_of rfl rfl rfl rfl) σ) (pa_cons pe_str (pa_cons (pe_callS G_atom (hr.mono (by decide)) (by rfl) g_atom kp_atom b_atom (fun σ => passAt (takes_of rfl rfl rfl rfl) σ) (pa_cons (pv 2) pa_nil)) (pa_cons (pe_callS G_integer (hr.mono (by decide)) (by rfl) g_integer kp_integer b_integer (fun σ => passAt (takes_of rfl rfl rfl rfl) σ) (pa_cons (pv 3) pa_nil)) pa_nil)))) pa_nil))))))))), ?_⟩
    refine seq_ifN ?_
    refine ⟨_, rfl, x, d, rfl, hd, hn, _, rfl, ite2 (fun e => ?_) (fun e => ?_)⟩
    · refine ⟨"instantiation_error", rfl, (by decide +kernel), fun _ v H1 s1 d1 => ?_, fun hb => absurd (by decide +kernel) hb⟩
      obtain ⟨m, rfl⟩ := var_form hn e
      exact q v H1 s1 d1
    · obtain ⟨wd, nd⟩ := id hn
      cases nd with
      | v n h1 h2 => exact absurd rfl e
      | i n h1 h2 => cases he
      | f y n h1 h2 h3 =>
        cases id hd with
        | @tup a zs _ hs ha =>
        cases ha with
        | cons e1 ha =>
        cases ha with
        | cons e2 ha =>
        cases ha with
        | cons e3 ha =>
        cases ha
        cases e1
        cases e2
        cases e3
        refine seq_asg ?_
        refine ⟨_, rfl, a, _, rfl, hs, rfl, _, _, rfl, gname ⟨_, _, rfl, gname ⟨_, [], rfl, gname ⟨rfl, ?_⟩⟩⟩⟩
        refine seq_ifN ?_
        refine ⟨_, rfl, _, rfl, (by show 2 ≤ sizeLine; decide), fun p np => ⟨.tuple [.str y, .int n], signs6, .tup (SqT.of upd_same) (.cons (.str _) (.cons (.int _) .nil)), dp_same (none_same _) _ _ d_EVALUABLE, pair_shaped (okName_cps h1), by decide +kernel, _, rfl, ?_⟩⟩
        have sp := same_upd (o := .tup [.str y, .int n]) np
        show (if evB y n = true then _ else _)
        have he2 : errD (.tuple [.str "f", .str y, .int n]) = if evB y n = true then .none else typE y n := rfl
        rw [he2] at q
        cases hev : evB y n with
        | true =>
          rw [hev, if_pos rfl] at q
          exact iteT (q _ _ sp .non)
        | false =>
          rw [hev, if_neg Bool.false_ne_true] at q
          refine iteF ?_
          have yl : y.length ≤ 2000 := by
            unfold okName at h1
            simp only [Bool.and_eq_true, decide_eq_true_eq] at h1
            omega
          have hz : n.natAbs < 10 ^ 40 := by omega
          have n3 := (nd_node (at_nd h1)).1
          refine ⟨"evaluable", rfl, (by decide +kernel), fun _ v1 H1 s1 d1 => ?_, fun hb => absurd (by decide +kernel) hb⟩
          refine ⟨_, rfl, y, rfl, yl, fun _ v2 H2 s2 d2 => ?_, fun hb => absurd (isName_ok h1) hb⟩
          refine ⟨_, rfl, n, rfl, fun _ v3 H3 s3 d3 => ?_, fun hb => absurd (by show decide ((if n < 0 then -n else n) < big) = true; apply decide_eq_true; unfold big; split <;> omega) hb⟩
          refine ⟨[.str "/"], [v2, v3], rfl, rfl, (by show 2 ≤ sizeLine; decide), fun p4 np4 => ?_⟩
          have s4 := same_upd (o := .tup [v2, v3]) np4
          refine ⟨"/", p4, [v2, v3], [.tuple [atD y], .tuple [.int n]], rfl, (by decide +kernel), SqT.of upd_same, ⟨.cons (dp_same (s3.trans s4) _ _ d2) (.cons (dp_same s4 _ _ d3) .nil), fun d hd => ?_, (by show 2 ≤ 9; decide), fun i => ?_⟩, fun _ v5 H5 s5 d5 => ?_, fun hb => absurd ?_ hb⟩
          · rcases List.mem_cons.mp hd with z | z
            · rw [z]; exact okT_of fun e he => by rw [List.mem_singleton.mp he]; exact at_nd h1
            · rw [List.mem_singleton.mp z]; exact okT_of fun e he => by rw [List.mem_singleton.mp he]; exact in_nd hz
          · have : ((([PyData.tuple [atD y], .tuple [.int n]].take i).flatMap elems)).length ≤ 2 := by
              rcases i with _ | _ | i
              · exact Nat.zero_le _
              · exact (by decide : 1 ≤ 2)
              · simp [elems]
            omega
          · have s15 := s2.trans (s3.trans (s4.trans s5))
            refine ⟨[.str "type_error"], [v1, v5], rfl, rfl, (by show 2 ≤ sizeLine; decide), fun p6 np6 => ?_⟩
            have s6 := same_upd (o := .tup [v1, v5]) np6
            refine ⟨"type_error", p6, [v1, v5], [.tuple [atD "evaluable"], .tuple [syD "/" 2, atD y, .int n]], rfl, (by decide +kernel), SqT.of upd_same, ⟨.cons (dp_same (s15.trans s6) _ _ d1) (.cons (dp_same s6 _ _ d5) .nil), fun d hd => ?_, (by show 2 ≤ 9; decide), fun i => ?_⟩, fun _ v7 H7 s7 d7 => ?_, fun hb => absurd ?_ hb⟩
            · rcases List.mem_cons.mp hd with z | z
              · rw [z]; exact okT_of fun e he => by rw [List.mem_singleton.mp he]; exact at_nd (by decide +kernel)
              · rw [List.mem_singleton.mp z]
                refine okT_of fun e he => ?_
                simp only [List.mem_cons, List.not_mem_nil, or_false] at he
                rcases he with rfl | rfl | rfl
                · exact sy_nd (by decide +kernel) (by decide) (by decide)
                · exact at_nd h1
                · exact in_nd hz
            · have : ((([PyData.tuple [atD "evaluable"], .tuple [syD "/" 2, atD y, .int n]].take i).flatMap elems)).length ≤ 4 := by
                rcases i with _ | _ | i
                · exact Nat.zero_le _
                · exact (by decide : 1 ≤ 4)
                · simp [elems]
              omega
            · exact q v7 H7 (sp.trans (s1.trans (s15.trans (s6.trans s7)))) d7
            · show (isName (.str "type_error") && (decide ((1 : Int) ≤ 2) && decide ((2 : Int) ≤ 8)) && (isTerm (.tuple [atD "evaluable"]) && (isTerm (.tuple [syD "/" 2, atD y, .int n]) && true))) = true
              rw [term_typ h1 hz, show isTerm (.tuple [atD "evaluable"]) = true by decide +kernel, show isName (.str "type_error") = true by decide +kernel]
              rfl
          · show (isName (.str "/") && (decide ((1 : Int) ≤ 2) && decide ((2 : Int) ≤ 8)) && (isTerm (.tuple [atD y]) && (isTerm (.tuple [.int n]) && true))) = true
            rw [term_one n3 rfl, term_one (nd_node (in_nd hz)).1 rfl, show isName (.str "/") = true by decide +kernel]
            rfl

theorem ok_result {f : Addr} {fd : FuncData} (F : Fun K "result" "result" s_result f fd) (E : Bi K mg) (D_compound : HasR P w K mg base 5 "compound" 1 (sp_compound K)) (D_atom : HasX P w K mg base 2 "atom" ["name"] (sp_atom K)) (D_calculate : Has P w K mg base 1 "calculate" ["name", "values"] (sp_calculate K)) : FnOk P w K mg base (L2.CX P w) 6 f fd ["name", "values"] (sp_result K) := by
  obtain ⟨f_compound, G_compound, g_compound, kp_compound⟩ := D_compound
  obtain ⟨f_atom, fd_atom, G_atom, g_atom, kp_atom, b_atom⟩ := D_atom
  obtain ⟨f_calculate, fd_calculate, G_calculate, g_calculate, kp_calculate, b_calculate⟩ := D_calculate
  refine F.okX sc_result (fun vs H Q E h => ?_) (fun cdv A outer s H vs Q E' hr h => ?_)
  · obtain ⟨x, r, vals, rfl, _⟩ := h
    rfl
  · obtain ⟨x, r, vals, rfl, hq, ok1, ok2, q⟩ := h
    refine ⟨_, (pss_cons (ps_if (pw_and (pt_cmpR (show OpR _ (compareOp .In) (rIn K false) from op_in_seq) (pv 0) (pe_tup (pa_cons pe_str (pa_cons pe_str pa_nil))) (by rfl)) (pw_and1 (pt_cmpR op_eq (pe_ix ix_list (pv 1) pe_int (fun _ _ => rfl)) pe_int (nomark _)))).pt (pss_one (ps_ret (pe_callRS G_compound (hr.mono (by decide)) (by rfl) g_compound kp_compound (fun σ => passAt (takes_of rfl rfl rfl rfl) σ) (pa_cons pe_str (pa_cons (pe_callS G_atom (hr.mono (by decide)) (by rfl) g_atom kp_atom b_atom (fun σ => passAt (takes_of rfl rfl rfl rfl) σ) (pa_cons pe_str pa_nil)) pa_nil))))) pss_nil)
      (pss_cons (ps_set (i := 2) sc_result.nd rfl (Or.inl rfl) (pe_call G_calculate (hr.mono (by decide)) (by rfl) g_calculate kp_calculate b_calculate .nil pass0 (pa_cons (pv 0) (pa_cons (pv 1) pa_nil))))
      (pss_cons (ps_if (pt_cmpR op_ge (pe_callB call_abs (by rfl) E.b_abs (by decide +kernel) (pa_cons (pv 2) pa_nil)) (pe_gC (by rfl) E.c_INTEGER_BOUND) (nomark _)) (pss_one (ps_ret (pe_callRS G_compound (hr.mono (by decide)) (by rfl) g_compound kp_compound (fun σ => passAt (takes_of rfl rfl rfl rfl) σ) (pa_cons pe_str (pa_cons (pe_callS G_atom (hr.mono (by decide)) (by rfl) g_atom kp_atom b_atom (fun σ => passAt (takes_of rfl rfl rfl rfl) σ) (pa_cons pe_str pa_nil)) pa_nil))))) pss_nil)
      (pss_one (ps_ret (pv 2)))))), ?_⟩
    have err : ∀ (z : Str), okName z = true → z.length ≤ 2000 → resD x vals = evE z → ∀ (σ : L2.St) (H1 : Hp), Same H H1 → tRet (tCallS (starSp 1 (sp_compound K)) (fun σ => WE (fun cls d x H => E' cls d H) σ) (tCons (tC (V.str (Str.ofString "evaluation_error"))) (tCons (tCallS (sp_atom K) (fun σ => WE (fun cls d x H => E' cls d H) σ) (tCons (tC (V.str z)) tNil)) tNil))) { nx := fun x H' => Q V.non H', rt := Q } σ H1 := by
      intro z hz hzl he σ H1 s1
      refine ⟨z, rfl, hzl, fun _ v2 H2 s2 d2 => ?_, fun hb => absurd (isName_ok hz) hb⟩
      refine ⟨[.str "evaluation_error"], [v2], rfl, rfl, (by show 1 ≤ sizeLine; decide), fun p3 np3 => ?_⟩
      have s3 := same_upd (o := .tup [v2]) np3
      refine ⟨"evaluation_error", p3, [v2], [.tuple [atD z]], rfl, (by decide +kernel), SqT.of upd_same, ⟨.cons (dp_same s3 _ _ d2) .nil, fun d hd => ?_, (by show 1 ≤ 9; decide), fun i => ?_⟩, fun _ v4 H4 s4 d4 => ?_, fun hb => absurd ?_ hb⟩
      · rw [List.mem_singleton.mp hd]
        exact okT_of fun e he => by rw [List.mem_singleton.mp he]; exact at_nd hz
      · have : (([PyData.tuple [atD z]].take i).flatMap elems).length ≤ 1 := by
          rcases i with _ | i
          · exact Nat.zero_le _
          · simp [elems]
        omega
      · rw [he] at q
        exact q v4 H4 (s1.trans (s2.trans (s3.trans s4))) d4
      · show (isName (.str "evaluation_error") && (decide ((1 : Int) ≤ 1) && decide ((1 : Int) ≤ 8)) && (isTerm (.tuple [atD z]) && true)) = true
        rw [term_one (nd_node (at_nd hz)).1 rfl, show isName (.str "evaluation_error") = true by decide +kernel]
        rfl
    refine seq_via (fun σ H' => σ = [some (.str x), some (.ref r), none] ∧ Same H H' ∧ ¬ (divB x = true ∧ vals.getD 1 0 = 0)) ?_ (fun go => ?_)
    · rintro σ H1 ⟨rfl, s1, hz⟩
      have hres : resD x vals = if 10 ^ 40 ≤ (calcN x vals).natAbs then evE "overflow" else .int (calcN x vals) := by
        unfold resD
        rw [if_neg hz]
      refine seq_asg ?_
      refine ⟨_, rfl, _, rfl, x, r, vals, rfl, s1 _ _ hq, ⟨ok1, ok2, fun hd h0 => hz ⟨hd, h0⟩⟩, ?_⟩
      refine gname (seq_ifN ?_)
      refine ⟨_, rfl, _, rfl, _, _, rfl, rfl, _, rfl, ite2 (fun e => ?_) (fun e => ?_)⟩
      · have e := of_decide_eq_true e
        refine err "overflow" (by decide +kernel) (by decide +kernel) ?_ _ H1 s1
        rw [hres, if_pos]
        split at e <;> omega
      · have e : ¬ _ := fun z => e (decide_eq_true z)
        refine ⟨_, rfl, q _ H1 s1 ?_⟩
        rw [hres, if_neg]
        · exact .int _
        · split at e <;> omega
    · refine ⟨_, rfl, (by show 2 ≤ sizeLine; decide), fun p np => ⟨p, _, rfl, .inr (SqT.of upd_same), rfl, rfl, _, rfl, ?_⟩⟩
      have s1 := same_upd (o := .tup [.str "//", .str "mod"]) np
      show (if divB x = true then _ else _)
      cases hd : divB x with
      | false => exact iteF (iteF (go _ _ ⟨rfl, s1, fun z => by rw [hd] at z; exact absurd z.1 Bool.false_ne_true⟩))
      | true =>
        refine iteT ?_
        rcases ev_vals ok1 with ⟨a, b, rfl, hx⟩ | ⟨a, rfl, hx⟩
        · refine ⟨_, rfl, _, _, _, _, rfl, rfl, SqL.of (s1 _ _ hq), atI_nat (j := 1) rfl, rfl, _, rfl, ite2 (fun e => ?_) (fun e => ?_)⟩
          · have hb : b = 0 := V.int.inj (of_decide_eq_true e)
            refine err "zero_divisor" (by decide +kernel) (by decide +kernel) ?_ _ _ s1
            unfold resD
            rw [if_pos ⟨hd, hb⟩]
          · exact go _ _ ⟨rfl, s1, fun z => e (decide_eq_true (congrArg V.int z.2))⟩
        · rw [hx] at hd
          exact absurd hd (by decide +kernel)

theorem ok_evaluate {f : Addr} {fd : FuncData} (F : Fun K "evaluate" "evaluate" s_evaluate f fd) (E : Bi K mg) (D_is_variable : Has P w K mg base 1 "is_variable" ["node"] (sp_is_variable K)) (D_is_symbol : Has P w K mg base 1 "is_symbol" ["node"] (sp_is_symbol K)) (D_symbol_error : HasX P w K mg base 6 "symbol_error" ["node"] (sp_symbol_error K)) (D_result : HasX P w K mg base 6 "result" ["name", "values"] (sp_result K)) : FnOk P w K mg base (L2.CX P w) 7 f fd ["term"] (sp_evaluate K) := by
  obtain ⟨f_is_variable, fd_is_variable, G_is_variable, g_is_variable, kp_is_variable, b_is_variable⟩ := D_is_variable
  obtain ⟨f_is_symbol, fd_is_symbol, G_is_symbol, g_is_symbol, kp_is_symbol, b_is_symbol⟩ := D_is_symbol
  obtain ⟨f_symbol_error, fd_symbol_error, G_symbol_error, g_symbol_error, kp_symbol_error, b_symbol_error⟩ := D_symbol_error
  obtain ⟨f_result, fd_result, G_result, g_result, kp_result, b_result⟩ := D_result
  refine F.okX sc_evaluate (fun vs H Q E h => ?_) (fun cdv A outer s H vs Q E' hr h => ?_)
  · obtain ⟨t, ds, rfl, _⟩ := h
    rfl
  · obtain ⟨t, ds, rfl, hd, hc, hn, hl, q⟩ := h
    refine ⟨_, (pss_cons (ps_set (i := 1) sc_evaluate.nd rfl (Or.inl rfl) (pe_lst pa_nil))
      (pss_cons (ps_set (i := 2) sc_evaluate.nd rfl (Or.inl rfl) (pe_lst (pa_cons (pe_lst pa_nil) pa_nil)))
      (pss_cons (ps_for (passes_of rfl) rfl (pi_tup (pv 0)) (pg_name (i := 3) sc_evaluate.nd rfl (Or.inl rfl)) (pss_cons (ps_if (pw_or (pt_val (pe_call G_is_symbol (hr.mono (by decide)) (by rfl) g_is_symbol kp_is_symbol b_is_symbol .nil pass0 (pa_cons (pv 3) pa_nil))) (pw_or1 (pt_val (pe_call G_is_variable (hr.mono (by decide)) (by rfl) g_is_variable kp_is_variable b_is_variable .nil pass0 (pa_cons (pv 3) pa_nil))))).pt (pss_cons (ps_set (i := 4) sc_evaluate.nd rfl (Or.inl rfl) (pe_callS G_symbol_error (hr.mono (by decide)) (by rfl) g_symbol_error kp_symbol_error b_symbol_error (fun σ => passAt (takes_of rfl rfl rfl rfl) σ) (pa_cons (pv 3) pa_nil)))
      (pss_cons (ps_if (pt_cmpR op_notN (pv 4) pe_non (nomark _)) (pss_one (ps_ret (pv 4))) pss_nil)
      (pss_cons (ps_expr (pe_bm PySem.F.plainAttrs_list PySem.F.slot_list_append PySem.F.type_list_append mt_append (pv 1) (pa_cons (pv 3) pa_nil)))
      (pss_cons (ps_expr (pe_bm PySem.F.plainAttrs_list PySem.F.slot_list_append PySem.F.type_list_append mt_append (pv 2) (pa_cons (pe_lst pa_nil) pa_nil)))
      (pss_one ps_continue))))) pss_nil)
      (pss_cons (ps_expr (pe_bm PySem.F.plainAttrs_list PySem.F.slot_list_append PySem.F.type_list_append mt_append (pe_ix ix_list (pv 2) (pe_un un_neg pe_int) (fun _ _ => rfl)) (pa_cons (pv 3) pa_nil)))
      (pss_one (ps_while (passes_of rfl) (pw_and (pt_cmpR op_gt (pe_callB call_len_seq (by rfl) E.b_len PySem.boot_len (pa_cons (pv 1) pa_nil)) pe_int (nomark _)) (pw_and1 (pt_cmpR op_eq (pe_callB call_len_seq (by rfl) E.b_len PySem.boot_len (pa_cons (pe_ix ix_list (pv 2) (pe_un un_neg pe_int) (fun _ _ => rfl)) pa_nil)) (pe_ix ix_tup (pe_ix ix_list (pv 1) (pe_un un_neg pe_int) (fun _ _ => rfl)) pe_int (fun _ _ => rfl)) (nomark _)))).pt (pss_cons (ps_set (i := 5) sc_evaluate.nd rfl (Or.inl rfl) (pe_callS G_result (hr.mono (by decide)) (by rfl) g_result kp_result b_result (fun σ => passAt (takes_of rfl rfl rfl rfl) σ) (pa_cons (pe_ix ix_tup (pe_bm0 PySem.F.plainAttrs_list PySem.F.slot_list_pop PySem.F.type_list_pop mt_pop (pv 1)) pe_int (fun _ _ => rfl)) (pa_cons (pe_bm0 PySem.F.plainAttrs_list PySem.F.slot_list_pop PySem.F.type_list_pop mt_pop (pv 2)) pa_nil))))
      (pss_cons (ps_if (pt_val (pe_callB call_isi (by rfl) E.b_isinstance (by decide +kernel) (pa_cons (pv 5) (pa_cons (pe_ty "tuple" (by rfl) E.b_tuple (by decide +kernel)) pa_nil)))) (pss_one (ps_ret (pv 5))) pss_nil)
      (pss_one (ps_expr (pe_bm PySem.F.plainAttrs_list PySem.F.slot_list_append PySem.F.type_list_append mt_append (pe_ix ix_list (pv 2) (pe_un un_neg pe_int) (fun _ _ => rfl)) (pa_cons (pv 5) pa_nil)))))))))))
      (pss_one (ps_ret (pe_ix ix_list (pe_ix ix_list (pv 2) pe_int (fun _ _ => rfl)) pe_int (fun _ _ => rfl))))))), ?_⟩
    cases id hd with
    | @tup a xs _ hs ha =>
    have hxl := DpAll.len ha
    refine seq_asg ⟨(by show 0 ≤ sizeLine; decide), fun sy nsy => gname ?_⟩
    refine seq_asg ⟨(by show 0 ≤ sizeLine; decide), fun b0 nb0 => ⟨(by show 1 ≤ sizeLine; decide), fun fo nfo => gname ?_⟩⟩
    have h3 : EvH _ H sy fo b0 [] [] _ := EvH.init (K := K) nsy nb0 nfo
    generalize upd (upd (upd H sy (.lst [])) b0 (.lst [])) fo (.lst [V.ref b0]) = H3 at h3 ⊢
    refine seq_any ?_
    refine ⟨_, rfl, a, rfl, ⟨_, same_sqT h3.sm hs⟩, for_tup (K := K) (a := a) (xs := xs) (fun i σ H1 => ∃ (S : List Fr) (B : List Int) (vn ve vv : Option V), σ = [some (.ref a), some (.ref sy), some (.ref fo), vn, ve, vv] ∧ EvH K H sy fo b0 S B H1 ∧ EvI ds (ds.drop i) S B ∧ S.length ≤ i)
      ⟨[], [], none, none, none, rfl, h3, by rw [List.drop_zero]; exact EvI.start hc, Nat.le_refl _⟩ (fun i σ H1 _ ⟨_, _, _, _, _, _, hh, _, _⟩ => same_sqT hh.sm hs) ?_ ?_⟩
    · rintro i y σ H1 hi ⟨S, B, vn, ve, vv, rfl, hh, hv, hsl⟩
      obtain ⟨d, hdi⟩ : ∃ d, ds[i]? = some d := by
        have := (List.getElem?_eq_some_iff.mp hi).1
        exact ⟨ds[i]'(by omega), List.getElem?_eq_getElem _⟩
      obtain ⟨y', hy', hyd⟩ := DpAll.get ha hdi
      have ey : y' = y := Option.some.inj (hy'.symm.trans hi)
      subst ey
      have hdm : d ∈ ds := List.mem_of_getElem? hdi
      have hdrop : ds.drop i = d :: ds.drop (i + 1) := by
        obtain ⟨h1, h2⟩ := List.getElem?_eq_some_iff.mp hdi
        rw [List.drop_eq_getElem_cons h1, h2]
      rw [hdrop] at hv
      have hnr : ∀ e ∈ d :: ds.drop (i + 1), NdA e := fun e he => hn e (by rw [← hdrop] at he; exact List.mem_of_mem_drop he)
      have hnd := hn d hdm
      refine gname (seq_ifN ?_)
      have hyd1 := dp_same hh.sm _ _ hyd
      refine ⟨_, rfl, y', d, rfl, hyd1, (nd_node hnd).1, _, rfl, ?_⟩
      rw [(nd_node hnd).2.1]
      obtain ⟨wd, nd⟩ := id hnd
      cases nd with
      | v n h1 h2 =>
        have hq := var_step hn hnr hv
        rw [hq] at q
        refine iteF ⟨_, rfl, y', _, rfl, hyd1, hnd, _, rfl, iteT ?_⟩
        refine seq_asg ⟨_, rfl, y', _, rfl, hyd1, hnd, rfl, fun v H4 s4 d4 => gname (seq_ifN ?_)⟩
        cases id d4
        refine ⟨_, rfl, rfl, _, rfl, iteT ⟨_, rfl, q _ H4 (hh.sm.trans s4) d4⟩⟩
      | f x n h1 h2 h3' =>
        refine iteT (iteT ?_)
        refine seq_asg ⟨_, rfl, y', _, rfl, hyd1, hnd, rfl, fun v H4 s4 d4 => gname (seq_ifN ?_)⟩
        have he2 : errD (.tuple [.str "f", .str x, .int n]) = if evB x n = true then .none else typE x n := rfl
        rw [he2] at d4
        cases hev : evB x n with
        | false =>
          rw [hev, if_neg Bool.false_ne_true] at d4
          have hq := bad_step hn hnr h2 hv hev
          rw [hq] at q
          cases id d4
          refine ⟨_, rfl, rfl, _, rfl, iteT ⟨_, rfl, q _ H4 (hh.sm.trans s4) d4⟩⟩
        | true =>
          rw [hev, if_pos rfl] at d4
          cases id d4
          have h4 := hh.same s4
          have hlen : S.length < 1000 := by
            have := (List.getElem?_eq_some_iff.mp hi).1
            omega
          refine ⟨_, rfl, rfl, _, rfl, iteF ?_⟩
          refine seq_any ?_
          refine ⟨_, rfl, .inl ⟨rfl, _, SqL.of h4.hsy⟩, _, rfl, _, _, _, rfl, rfl, h4.hsy, small1000 (by rw [List.length_map, List.length_reverse]; exact Nat.le_of_lt hlen), ?_⟩
          have hf5 : (upd H4 sy (.lst (S.reverse.map Fr.v ++ [y']))) fo = some (.lst (V.ref b0 :: S.reverse.map fun f => V.ref f.a)) := by
            rw [upd_ne]
            · exact h4.hfo
            · have nd := h4.nd
              simp only [List.nodup_cons, List.mem_cons, not_or] at nd
              exact fun e => nd.1.1 e.symm
          refine nxp (seq_any ?_)
          refine ⟨_, rfl, .inl ⟨rfl, _, SqL.of hf5⟩, (by show 0 ≤ sizeLine; decide), fun p np => ⟨_, _, _, rfl, rfl, (same_upd np) _ _ hf5, small1000 (by rw [List.length_cons, List.length_map, List.length_reverse]; omega), ?_⟩⟩
          refine nxp ?_
          exact ⟨_, _, _, _, _, rfl, h4.push h2 hyd np, push_step y' p hn hnr h2 hv hev, by rw [List.length_cons]; omega⟩
      | i z h1 h2 =>
        have hz : z.natAbs < 10 ^ 40 := by omega
        obtain ⟨rfl, hw⟩ := int_step hn hnr hv
        cases hyd
        refine iteF ⟨_, rfl, _, _, rfl, .int z, hnd, _, rfl, iteF ?_⟩
        obtain ⟨L, hL⟩ := fo_top b0 S
        refine seq_any ?_
        refine ⟨_, rfl, _, rfl, fo, _, _, V.ref (topA b0 S), rfl, rfl, SqL.of hh.hfo, (by rw [hL]; exact at_last _ _), .inl ⟨rfl, _, SqL.of hh.top⟩, _, rfl, _, _, _, rfl, rfl, hh.top, small1000 (by rw [List.length_map]; exact top_len hv.ok (fun _ => rfl)), ?_⟩
        refine nxp ?_
        have h5 := hh.add hz
        generalize upd H1 (topA b0 S) (.lst ((topV [] S).map V.int ++ [.int z])) = H5 at h5 ⊢
        refine ⟨fun k σ H' => ∃ (S : List Fr) (B : List Int) (vn ve vv : Option V), σ = [some (.ref a), some (.ref sy), some (.ref fo), vn, ve, vv] ∧ EvH K H sy fo b0 S B H' ∧ WI ds (ds.drop (i + 1)) S B ∧ S.length ≤ i ∧ k = S.length, ⟨_, _, _, _, _, _, rfl, h5, hw, by rw [addS_len]; exact hsl, rfl⟩, ?_⟩
        rintro k σ H6 ⟨S, B, vn, ve, vv, rfl, h6, w6, sl6, rfl⟩
        cases S with
        | nil =>
          refine ⟨_, rfl, sy, _, rfl, .inl (SqL.of h6.hsy), _, _, rfl, rfl, _, rfl, iteF (iteF ?_)⟩
          exact ⟨_, _, _, _, _, rfl, h6, w6.out (fun f S' e => (nomatch e)), Nat.zero_le _⟩
        | cons f S =>
          obtain ⟨fv, fa, fx, fn, vals⟩ := f
          have hfr : H6 fa = some (.lst (vals.map V.int)) := h6.fr _ List.mem_cons_self
          have hdv : Dp K H fv (.tuple [.str "f", .str fx, .int fn]) := h6.dv _ List.mem_cons_self
          have hsy' : H6 sy = some (.lst (S.reverse.map Fr.v ++ [fv])) := by rw [h6.hsy, List.reverse_cons, List.map_append]; rfl
          have hfo' : H6 fo = some (.lst ((V.ref b0 :: S.reverse.map fun f => V.ref f.a) ++ [V.ref fa])) := by rw [h6.hfo, List.reverse_cons, List.map_append]; rfl
          have hpop := h6.pop
          have hvb : ∀ z ∈ vals, z.natAbs < 10 ^ 40 := h6.vb _ List.mem_cons_self
          have hev : evB fx fn = true := w6.ev _ List.mem_cons_self
          have sl7 : S.length + 1 ≤ i := sl6
          cases hdv with
          | @tup av zs _ hs2 ha2 =>
          obtain ⟨e1, he1, hd1⟩ := DpAll.get (i := 1) ha2 rfl
          obtain ⟨e2, he2, hd2⟩ := DpAll.get (i := 2) ha2 rfl
          cases hd1
          cases hd2
          refine ⟨_, rfl, sy, _, rfl, .inl (SqL.of hsy'), _, _, rfl, rfl, _, rfl, ?_⟩
          rw [decide_eq_true (show (0 : Int) < (((S.reverse.map Fr.v ++ [V.ref av]).length : Nat) : Int) by rw [List.length_append]; show (0 : Int) < ((_ + 1 : Nat) : Int); omega)]
          refine iteT ⟨_, rfl, _, rfl, fo, _, _, V.ref fa, rfl, rfl, SqL.of hfo', at_last _ _, fa, _, rfl, .inl (SqL.of hfr), _, rfl, _, rfl, sy, _, _, V.ref av, rfl, rfl, SqL.of hsy', at_last _ _, _, _, _, _, rfl, rfl, same_sqT h6.sm hs2, atI_nat (j := 2) he2, rfl, _, rfl, ite2 (fun e => ?_) (fun e => ?_)⟩
          · have hful : vals.length = fn := by
              have e3 := V.int.inj (of_decide_eq_true e)
              rw [List.length_map] at e3
              omega
            obtain ⟨fs1, fs2⟩ := full_step (fun e he => hnr e (List.mem_cons_of_mem _ he)) w6 hful
            refine ⟨fun σ H' => ∃ (S' : List Fr) (B : List Int) (vn ve vv : Option V), σ = [some (.ref a), some (.ref sy), some (.ref fo), vn, ve, vv] ∧ EvH K H sy fo b0 S' B H' ∧ WI ds (ds.drop (i + 1)) S' B ∧ S'.length = S.length, fun σ' H' ⟨S', B', vn', ve', vv', e5, h5', w5', l5⟩ => ⟨S'.length, by rw [l5, List.length_cons]; omega, S', B', vn', ve', vv', e5, h5', w5', by omega, rfl⟩, ?_⟩
            refine seq_asg ⟨_, rfl, .inl ⟨rfl, _, SqL.of hsy'⟩, sy, _, V.ref av, rfl, rfl, hsy', (by rw [List.length_append]; simp), ?_⟩
            rw [show (S.reverse.map Fr.v ++ [V.ref av]).dropLast = S.reverse.map Fr.v from List.dropLast_concat]
            have hs5 : Same H (upd H6 sy (.lst (S.reverse.map Fr.v))) := same_put h6.sm (h6.n0 _ (by simp))
            have hne : fo ≠ sy := by
              have nd := h6.nd
              simp only [List.nodup_cons, List.mem_cons, not_or] at nd
              exact fun e => nd.1.1 e.symm
            have hfo5 : (upd H6 sy (.lst (S.reverse.map Fr.v))) fo = some (.lst ((V.ref b0 :: S.reverse.map fun f => V.ref f.a) ++ [V.ref fa])) := by rw [upd_ne hne]; exact hfo'
            refine ⟨_, _, _, _, rfl, rfl, same_sqT hs5 hs2, atI_nat (j := 1) he1, _, rfl, .inl ⟨rfl, _, SqL.of hfo5⟩, fo, _, V.ref fa, rfl, rfl, hfo5, (by rw [List.length_append]; simp), ?_⟩
            rw [show ((V.ref b0 :: S.reverse.map fun f => V.ref f.a) ++ [V.ref fa]).dropLast = (V.ref b0 :: S.reverse.map fun f => V.ref f.a) from List.dropLast_concat]
            refine ⟨fx, fa, vals, rfl, hpop.2, (by rw [hful]; exact hev), hvb, fun v H7 s7 d7 => gname (seq_ifN ?_)⟩
            have h7 := hpop.1.same s7
            rcases res_cases fx vals with ⟨z, hz1, hz2⟩ | ⟨hz1, es, hz2⟩
            · rw [hz1] at d7
              cases d7
              refine ⟨_, rfl, _, _, _, _, _, rfl, .ty _, tyx_of (.int z), kit_ty (kitT _), _, rfl, iteF ?_⟩
              obtain ⟨L7, hL7⟩ := fo_top b0 S
              have hb7 := w6.b (by simp)
              refine ⟨_, rfl, _, rfl, fo, _, _, V.ref (topA b0 S), rfl, rfl, SqL.of h7.hfo, (by rw [hL7]; exact at_last _ _), .inl ⟨rfl, _, SqL.of h7.top⟩, _, rfl, _, _, _, rfl, rfl, h7.top, small1000 (by rw [List.length_map]; exact top_len w6.ok (fun _ => hb7)), ?_⟩
              exact ⟨_, _, _, _, _, rfl, h7.add hz2, fs2 z hz1, addS_len z S⟩
            · rw [fs1 hz1] at q
              have q7 := q v H7 h7.sm d7
              rw [hz2] at d7
              cases id d7
              refine ⟨_, rfl, _, _, _, _, _, rfl, .ty _, tyx_of d7, kit_ty (kitT _), _, rfl, iteT ⟨_, rfl, q7⟩⟩
          · refine nxp ?_
            exact ⟨_, _, _, _, _, rfl, h6, w6.out (fun f S' e3 hl3 => by cases e3; exact e (decide_eq_true (congrArg V.int (by rw [List.length_map]; exact congrArg Int.ofNat hl3)))), Nat.le_succ_of_le sl6⟩
    · rintro σ H1 ⟨S, B, vn, ve, vv, rfl, hh, hv, hsl⟩
      rw [List.drop_of_length_le (by omega)] at hv
      obtain ⟨rfl, z, rfl, hz⟩ := hv.done
      rw [hz] at q
      refine ⟨_, rfl, fo, _, _, _, rfl, rfl, SqL.of hh.hfo, atI_nat (j := 0) rfl, b0, _, _, _, rfl, rfl, SqL.of hh.hb0, atI_nat (j := 0) rfl, ?_⟩
      exact q _ H1 hh.sm (.int z)

theorem ok_law {f : Addr} {fd : FuncData} (F : Fun K "law" "law" s_law f fd) (E : Bi K mg) (D__law_stream : Has P w K mg base 1 "_law_stream" ["script"] (sp__law_stream K)) (D__law_draw : Has P w K mg base 1 "_law_draw" ["stream", "many"] (sp__law_draw K)) (D__law_deep : Has P w K mg base 2 "_law_deep" ["stream"] (sp__law_deep K)) (D_evaluate : HasX P w K mg base 7 "evaluate" ["term"] (sp_evaluate K)) (D__law_expression : Has P w K mg base 3 "_law_expression" ["stream", "size", "wrong"] (sp__law_expression K)) (D__law_f : Has P w K mg base 1 "_law_f" ["name", "parts"] (sp__law_f K)) (D__law_due : Has P w K mg base 2 "_law_due" ["name", "rows"] (sp__law_due K)) : FnOk P w K mg base CX0 8 f fd ["script"] (sp_law K) := by
  obtain ⟨f__law_stream, fd__law_stream, G__law_stream, g__law_stream, kp__law_stream, b__law_stream⟩ := D__law_stream
  obtain ⟨f__law_draw, fd__law_draw, G__law_draw, g__law_draw, kp__law_draw, b__law_draw⟩ := D__law_draw
  obtain ⟨f__law_deep, fd__law_deep, G__law_deep, g__law_deep, kp__law_deep, b__law_deep⟩ := D__law_deep
  obtain ⟨f_evaluate, fd_evaluate, G_evaluate, g_evaluate, kp_evaluate, b_evaluate⟩ := D_evaluate
  obtain ⟨f__law_expression, fd__law_expression, G__law_expression, g__law_expression, kp__law_expression, b__law_expression⟩ := D__law_expression
  obtain ⟨f__law_f, fd__law_f, G__law_f, g__law_f, kp__law_f, b__law_f⟩ := D__law_f
  obtain ⟨f__law_due, fd__law_due, G__law_due, g__law_due, kp__law_due, b__law_due⟩ := D__law_due
  refine F.ok sc_law (fun vs H Q E h => ?_) (fun cdv A outer s H vs Q E' hr h => ?_)
  · obtain ⟨a, ns, rfl, _⟩ := h
    rfl
  · obtain ⟨a, ns, rfl, hS, hl, q⟩ := h
    have n9 : (2 : Nat) ^ 8 ≤ 2 ^ 9000 := Nat.pow_le_pow_right (by decide) (by decide)
    refine ⟨_, (pss_cons (ps_set (i := 1) sc_law.nd rfl (Or.inl rfl) (pe_call G__law_stream (hr.mono (by decide)) (by rfl) g__law_stream kp__law_stream b__law_stream .nil pass0 (pa_cons (pv 0) pa_nil)))
      (pss_cons (ps_if (pt_cmpR op_eq (pe_call G__law_draw (hr.mono (by decide)) (by rfl) g__law_draw kp__law_draw b__law_draw .nil pass0 (pa_cons (pv 1) (pa_cons pe_int pa_nil))) pe_int (nomark _)) (pss_cons (ps_asg (pe_call G__law_deep (hr.mono (by decide)) (by rfl) g__law_deep kp__law_deep b__law_deep .nil pass0 (pa_cons (pv 1) pa_nil)) (pg_tup rfl (pgs_cons (pg_name (i := 2) sc_law.nd rfl (Or.inl rfl)) (pgs_cons (pg_name (i := 3) sc_law.nd rfl (Or.inl rfl)) pgs_nil))))
      (pss_one (ps_ret (pe_cmpR (op_eqD hr.units) (pe_call G_evaluate (hr.mono (by decide)) (by rfl) g_evaluate kp_evaluate b_evaluate .nil passL (pa_cons (pv 2) pa_nil)) (pv 3) (nomark _))))) pss_nil)
      (pss_cons (ps_set (i := 2) sc_law.nd rfl (Or.inl rfl) (pe_call G__law_expression (hr.mono (by decide)) (by rfl) g__law_expression kp__law_expression b__law_expression .nil pass0 (pa_cons (pv 1) (pa_cons (pe_op op_add pe_int (pe_call G__law_draw (hr.mono (by decide)) (by rfl) g__law_draw kp__law_draw b__law_draw .nil pass0 (pa_cons (pv 1) (pa_cons pe_int pa_nil)))) (pa_cons (pe_cmpR op_eq (pe_call G__law_draw (hr.mono (by decide)) (by rfl) g__law_draw kp__law_draw b__law_draw .nil pass0 (pa_cons (pv 1) (pa_cons pe_int pa_nil))) pe_int (nomark _)) pa_nil)))))
      (pss_cons (ps_set (i := 4) sc_law.nd rfl (Or.inl rfl) (pe_lst pa_nil))
      (pss_cons (ps_for PassesOwn.never rfl (pi_range1 (by rfl) E.b_range (pa_cons (pe_callB call_len_seq (by rfl) E.b_len PySem.boot_len (pa_cons (pv 2) pa_nil)) pa_nil)) (pg_name (i := 5) sc_law.nd rfl (Or.inl rfl)) (pss_cons (ps_set (i := 6) sc_law.nd rfl (Or.inl rfl) (pe_ix ix_tup (pv 2) (pe_op op_sub (pe_op op_sub (pe_callB call_len_seq (by rfl) E.b_len PySem.boot_len (pa_cons (pv 2) pa_nil)) pe_int) (pv 5)) (fun _ _ => rfl)))
      (pss_one (ps_if (pt_not (pt_val (pe_callB call_isi (by rfl) E.b_isinstance (by decide +kernel) (pa_cons (pv 6) (pa_cons (pe_ty "tuple" (by rfl) E.b_tuple (by decide +kernel)) pa_nil))))) (pss_one (ps_expr (pe_bm PySem.F.plainAttrs_list PySem.F.slot_list_append PySem.F.type_list_append mt_append (pv 4) (pa_cons (pv 6) pa_nil)))) (pss_one (ps_if (pt_cmpR op_eq (pe_ix ix_tup (pv 6) pe_int (fun _ _ => rfl)) pe_str (nomark _)) (pss_one (ps_expr (pe_bm PySem.F.plainAttrs_list PySem.F.slot_list_append PySem.F.type_list_append mt_append (pv 4) (pa_cons (pe_call G__law_f (hr.mono (by decide)) (by rfl) g__law_f kp__law_f b__law_f .nil pass0 (pa_cons pe_str (pa_cons (pe_lst pa_nil) pa_nil))) pa_nil)))) (pss_cons (ps_set (i := 7) sc_law.nd rfl (Or.inl rfl) (pe_lst pa_nil))
      (pss_cons (ps_for PassesOwn.never rfl (pi_range1 (by rfl) E.b_range (pa_cons (pe_ix ix_tup (pv 6) pe_int (fun _ _ => rfl)) pa_nil)) (pg_name (i := 8) sc_law.nd rfl (Or.inl rfl)) (pss_one (ps_expr (pe_bm PySem.F.plainAttrs_list PySem.F.slot_list_append PySem.F.type_list_append mt_append (pv 7) (pa_cons (pe_bm0 PySem.F.plainAttrs_list PySem.F.slot_list_pop PySem.F.type_list_pop mt_pop (pv 4)) pa_nil)))))
      (pss_one (ps_expr (pe_bm PySem.F.plainAttrs_list PySem.F.slot_list_append PySem.F.type_list_append mt_append (pv 4) (pa_cons (pe_call G__law_due (hr.mono (by decide)) (by rfl) g__law_due kp__law_due b__law_due .nil pass0 (pa_cons (pe_ix ix_tup (pv 6) pe_int (fun _ _ => rfl)) (pa_cons (pv 7) pa_nil))) pa_nil))))))))))))
      (pss_cons (ps_set (i := 9) sc_law.nd rfl (Or.inl rfl) (pe_call G_evaluate (hr.mono (by decide)) (by rfl) g_evaluate kp_evaluate b_evaluate .nil passL (pa_cons (pv 2) pa_nil)))
      (pss_cons (ps_if (pw_or (pt_val (pe_callB call_isi (by rfl) E.b_isinstance (by decide +kernel) (pa_cons (pv 9) (pa_cons (pe_ty "bool" (by rfl) E.b_bool (by decide +kernel)) pa_nil)))) (pw_or1 (pt_cmpR op_ne (pe_callB call_isi (by rfl) E.b_isinstance (by decide +kernel) (pa_cons (pv 9) (pa_cons (pe_ty "int" (by rfl) E.b_int (by decide +kernel)) pa_nil))) (pe_callB call_isi (by rfl) E.b_isinstance (by decide +kernel) (pa_cons (pe_ix ix_list (pv 4) pe_int (fun _ _ => rfl)) (pa_cons (pe_ty "int" (by rfl) E.b_int (by decide +kernel)) pa_nil))) (nomark _)))).pt (pss_one (ps_ret pe_bl)) pss_nil)
      (pss_one (ps_ret (pe_and (pe_cmpR (op_eqD hr.units) (pv 9) (pe_ix ix_list (pv 4) pe_int (fun _ _ => rfl)) (nomark _)) (pe_one (pe_callB call_isiT (by rfl) E.b_isinstance (by decide +kernel) (pa_cons (pv 9) (pa_cons (pe_tup (pa_cons (pe_ty "int" (by rfl) E.b_int (by decide +kernel)) (pa_cons (pe_ty "tuple" (by rfl) E.b_tuple (by decide +kernel)) pa_nil))) pa_nil)))))))))))))), ?_⟩
    refine seq_asg ?_
    refine ⟨_, rfl, a, ns, rfl, hS, hl, fun s l H1 hs hl1 s1 St1 => ?_⟩
    refine gname (seq_ifN ?_)
    refine ⟨_, rfl, s, l, 12, rfl, St1, by decide, Nat.lt_of_lt_of_le (by decide) n9, fun n1 H2 _ _ b2 S2 => ⟨rfl, _, rfl, ite2 (fun _ => ?_) (fun _ => ?_)⟩⟩
    · refine seq_asg ?_
      refine ⟨_, rfl, s, l, rfl, S2, fun p t v ds H3 hp dt dv hc hn hl3 hr => ?_⟩
      refine ⟨p, _, rfl, SqT.of hp, rfl, _, _, rfl, gname ⟨_, [], rfl, gname ⟨rfl, ?_⟩⟩⟩
      refine ⟨_, rfl, t, ds, rfl, dt, hc, hn, hl3, fun v4 H4 s4 d4 => ⟨_, rfl, _, _, d4, dp_same s4 _ _ dv, (row_sh hr).1, (row_sh hr).1, ?_⟩⟩
      rw [(row_sh hr).2]
      exact q _
    refine seq_asg ?_
    refine ⟨_, rfl, _, rfl, s, l, 15, rfl, S2, by decide, Nat.lt_of_lt_of_le (by decide) n9, fun n3 H3 n30 n31 b3 S3 => ⟨_, _, rfl, rfl, _, rfl, s, l, 3, rfl, S3, by decide, Nat.lt_of_lt_of_le (by decide) n9, fun n4 H4 _ _ b4 S4 => ⟨rfl, s, l, 1 + n3, _, rfl, S4, by omega, by omega, fun v ds H5 hc hn hlen b5 S5 iv => ?_⟩⟩⟩
    have dv := Im.dp _ _ iv
    clear iv b5 S5
    cases id dv with
    | @tup ta xs _ hs ha =>
    have hxl := DpAll.len ha
    refine gname (seq_asg ?_)
    refine ⟨(by show 0 ≤ sizeLine; decide), fun r nr => gname ?_⟩
    have dv6 := dp_same (same_upd (o := .lst []) nr) _ _ dv
    have hr6 : (upd H5 r (.lst [])) r = some (.lst []) := upd_same
    generalize upd H5 r (.lst []) = H6 at dv6 hr6 ⊢
    clear dv hs ha
    refine seq_any ?_
    cases id dv6 with
    | @tup _ xs2 _ hs6 ha6 =>
    have hxl := DpAll.len ha6
    have rok := rtl_ok hn
    refine ⟨_, rfl, ta, xs2, rfl, .inr hs6, _, rfl, by omega, by omega, for_range (lo := 0) (n := xs2.length) (fun i σ H' => ∃ (v5 v6 v7 v8 : Option V) (ys : List V), σ = [some (.ref a), some (.ref s), some (.ref ta), none, some (.ref r), v5, v6, v7, v8, none] ∧ H' r = some (.lst ys) ∧ DpAll K H' ys (rtl (ds.drop (ds.length - i))).reverse ∧ Dp K H' (.ref ta) (.tuple ds))
      ⟨_, _, _, _, [], rfl, hr6, by rw [Nat.sub_zero, List.drop_of_length_le (Nat.le_refl _)]; exact .nil, dv6⟩ ?_ ?_⟩
    · rintro i σ H7 hi ⟨v5, v6, v7, v8, ys, rfl, h1, h2, h3⟩
      cases id h3 with
      | @tup _ zs _ hs7 ha7 =>
      have hzl := DpAll.len ha7
      obtain ⟨j, hj⟩ : ∃ j, j = ds.length - (i + 1) := ⟨_, rfl⟩
      have hjl : j < ds.length := by omega
      have hdj : ds[j]? = some ds[j] := List.getElem?_eq_getElem hjl
      obtain ⟨y, hy, dy⟩ := DpAll.get ha7 hdj
      have hnd := hn _ (List.getElem_mem hjl)
      have hdrop : ds.drop j = ds[j] :: ds.drop (ds.length - i) := by
        rw [List.drop_eq_getElem_cons hjl, show j + 1 = ds.length - i by omega]
      rw [← hj]
      rw [hdrop]
      generalize ds[j] = d at *
      obtain ⟨m, hcm⟩ := cls_suf hc j
      rw [hdrop] at hcm
      have hnr : ∀ e ∈ ds.drop (ds.length - i), NdA e := fun e he => hn e (List.mem_of_mem_drop he)
      have rokr := rtl_ok hnr
      have rlen := rtl_len hnr hcm.2
      refine gname (seq_asg ?_)
      refine ⟨_, rfl, _, rfl, ta, zs, rfl, .inr hs7, _, _, rfl, rfl, _, rfl, _, _, rfl, rfl, ta, zs, _, y, rfl, rfl, hs7, at_of (j := j) (by omega) hy, gname ?_⟩
      refine ⟨_, rfl, _, _, _, _, _, rfl, .ty _, tyx_of dy, kit_ty (kitT _), _, rfl, ?_⟩
      have nt : ∀ {HH : Hp} {zz : List V}, HH r = some (.lst zz) → notTup HH r := fun h => .inl ⟨_, h⟩
      have nt' : ∀ {HH : Hp} {zz : List V} {q : Addr}, HH q = some (.lst zz) → notTup HH q := fun h => .inl ⟨_, h⟩
      -- a row is put behind
      have putr : ∀ (H8 : Hp) (v : V) (e : PyData) (ys' : List V) (A : List PyData), H8 r = some (.lst ys') → DpAll K H8 ys' A.reverse → (∀ d ∈ A, RowOk d) → Dp K H8 (.ref ta) (.tuple ds) → Dp K H8 v e → RowOk e → (upd H8 r (.lst (ys' ++ [v]))) r = some (.lst (ys' ++ [v])) ∧ DpAll K (upd H8 r (.lst (ys' ++ [v]))) (ys' ++ [v]) (e :: A).reverse ∧ Dp K (upd H8 r (.lst (ys' ++ [v]))) (.ref ta) (.tuple ds) := by
        intro H8 v e ys' A e1 e2 e3 e4 e5 e6
        refine ⟨upd_same, ?_, dp_put (nt e1) _ _ (tup_noL hn) e4⟩
        rw [List.reverse_cons]
        exact DpAll.app (dp_putAll (nt e1) _ _ (rows_noL' fun d hd => e3 d (List.mem_reverse.mp hd)) e2) (.cons (dp_put (nt e1) _ _ (row_noL e6) e5) .nil)
      have ylen : ys.length ≤ 1000 := by
        rw [DpAll.len h2, List.length_reverse]
        have := rtl_le (ds.drop (ds.length - i))
        rw [List.length_drop] at this
        omega
      obtain ⟨wd, nd⟩ := id hnd
      cases nd with
      | i n n1 n2 =>
        refine iteT ?_
        cases dy
        refine ⟨_, rfl, .inl ⟨rfl, _, SqL.of h1⟩, _, rfl, _, _, _, rfl, rfl, h1, small1000 ylen, ?_⟩
        exact ⟨_, _, _, _, _, rfl, putr H7 (.int n) (.int n) ys _ h1 h2 rokr h3 (.int n) (.inl ⟨n, rfl, by omega⟩)⟩
      | v n n1 n2 =>
        refine iteF ?_
        cases id dy with
        | @tup b ws _ hs8 ha8 =>
        obtain ⟨w0, hw0, hd0⟩ := DpAll.get (i := 0) ha8 rfl
        cases hd0
        refine ⟨_, rfl, _, _, _, _, rfl, rfl, hs8, atI_nat (j := 0) hw0, rfl, _, rfl, ?_⟩
        rw [decide_eq_true rfl]
        refine iteT ?_
        refine ⟨_, rfl, .inl ⟨rfl, _, SqL.of h1⟩, (by show 0 ≤ sizeLine; decide), fun p1 np1 => ⟨"instantiation_error", .ref p1, [], rfl, .lst (SqL.of upd_same) .nil, by decide, (fun r h => (nomatch h)), fun v1 J1 u1 d1 => ?_⟩⟩
        have u := (same_upd (o := .lst []) np1).trans u1
        refine ⟨_, _, _, rfl, rfl, u _ _ h1, small1000 ylen, ?_⟩
        exact ⟨_, _, _, _, _, rfl, putr J1 v1 instE ys _ (u _ _ h1) (dp_sameAll u _ _ h2) rokr (dp_same u _ _ h3) d1 (.inr ⟨rfl, _, rfl, one_all (at_nd (by decide +kernel))⟩)⟩
      | f x n hx n1 n2 =>
        refine iteF ?_
        cases id dy with
        | @tup b ws _ hs8 ha8 =>
        obtain ⟨w0, hw0, hd0⟩ := DpAll.get (i := 0) ha8 rfl
        obtain ⟨w1, hw1, hd1⟩ := DpAll.get (i := 1) ha8 rfl
        obtain ⟨w2, hw2, hd2⟩ := DpAll.get (i := 2) ha8 rfl
        cases hd0
        cases hd1
        cases hd2
        refine ⟨_, rfl, _, _, _, _, rfl, rfl, hs8, atI_nat (j := 0) hw0, rfl, _, rfl, ?_⟩
        rw [show decide (V.str (Str.ofString "f") = V.str (Str.ofString "v")) = false by decide +kernel]
        refine iteF ?_
        refine seq_asg ⟨(by show 0 ≤ sizeLine; decide), fun fo nfo => gname ?_⟩
        have rfo : r ≠ fo := ne_of_none h1 nfo
        have s8 := same_upd (o := .lst []) nfo
        have rlen : (rtl (ds.drop (ds.length - i))).length = m - 1 + n.toNat := rlen
        generalize hR : rtl (ds.drop (ds.length - i)) = R at *
        have nlen : n.toNat ≤ R.length := by omega
        refine seq_any ?_
        refine ⟨_, rfl, b, ws, _, _, rfl, rfl, same_sqT s8 hs8, atI_nat (j := 2) hw2, n, rfl, by omega, by omega, for_range (lo := 0) (n := n.toNat) (fun k σ H' => ∃ (v5 v8 : Option V) (ys zs : List V), σ = [some (.ref a), some (.ref s), some (.ref ta), none, some (.ref r), v5, some (.ref b), some (.ref fo), v8, none] ∧ H' r = some (.lst ys) ∧ H' fo = some (.lst zs) ∧ DpAll K H' ys (R.drop k).reverse ∧ DpAll K H' zs (R.take k) ∧ Dp K H' (.ref ta) (.tuple ds) ∧ SqT K H' b ws)
          ⟨_, _, ys, [], rfl, s8 _ _ h1, upd_same, by rw [List.drop_zero]; exact dp_sameAll s8 _ _ h2, by rw [List.take_zero]; exact .nil, dp_same s8 _ _ h3, same_sqT s8 hs8⟩ ?_ ?_⟩
        · rintro k σ H9 hk ⟨v5, v8, ys, zs, rfl, e1, e2, e3, e4, e5, e6⟩
          have hkl : k < R.length := by omega
          have hRk : R[k]? = some R[k] := List.getElem?_eq_getElem hkl
          have hRd : R.drop k = R[k] :: R.drop (k + 1) := List.drop_eq_getElem_cons hkl
          have hRo : RowOk R[k] := rokr _ (List.getElem_mem hkl)
          rw [hRd, List.reverse_cons] at e3
          generalize R[k] = e at *
          obtain ⟨ys', y', rfl, e7, e8⟩ := unsnoc e3
          refine gname ?_
          refine ⟨_, rfl, .inl ⟨rfl, _, SqL.of e2⟩, _, rfl, .inl ⟨rfl, _, SqL.of e1⟩, r, _, y', rfl, rfl, e1, (by rw [List.length_append]; simp), ?_⟩
          rw [show (ys' ++ [y']).dropLast = ys' from List.dropLast_concat]
          have f2 : (upd H9 r (.lst ys')) fo = some (.lst zs) := by rw [upd_ne rfo.symm]; exact e2
          have zl : zs.length ≤ 1000 := by
            rw [DpAll.len e4, List.length_take]
            omega
          refine ⟨_, _, _, rfl, rfl, f2, small1000 zl, ?_⟩
          have g2 : ∀ d ∈ (R.drop (k + 1)).reverse, RowOk d := fun d hd => rokr d (List.mem_of_mem_drop (List.mem_reverse.mp hd))
          have g3 : ∀ d ∈ R.take k, RowOk d := fun d hd => rokr d (List.mem_of_mem_take hd)
          have tk : R.take (k + 1) = R.take k ++ [e] := by rw [List.take_add_one, hRk]; rfl
          refine ⟨v5, _, ys', zs ++ [y'], rfl, by rw [upd_ne rfo]; exact upd_same, upd_same, dp_putAll (nt' f2) _ _ (rows_noL' g2) (dp_putAll (nt e1) _ _ (rows_noL' g2) e7), ?_, dp_put (nt' f2) _ _ (tup_noL hn) (dp_put (nt e1) _ _ (tup_noL hn) e5), sqT_put (nt' f2) (sqT_put (nt e1) e6)⟩
          rw [tk]
          exact DpAll.app (dp_putAll (nt' f2) _ _ (rows_noL' g3) (dp_putAll (nt e1) _ _ (rows_noL' g3) e4)) (.cons (dp_put (nt' f2) _ _ (row_noL hRo) (dp_put (nt e1) _ _ (row_noL hRo) e8)) .nil)
        · rintro σ H9 ⟨v5, v8, ys, zs, rfl, e1, e2, e3, e4, e5, e6⟩
          refine nxp ?_
          have g3 : ∀ d ∈ R.take n.toNat, RowOk d := fun d hd => rokr d (List.mem_of_mem_take hd)
          have yl : ys.length ≤ 1000 := by
            have h4 := DpAll.len h2
            rw [DpAll.len e3, List.length_reverse, List.length_drop]
            rw [List.length_reverse] at h4
            omega
          refine ⟨_, rfl, .inl ⟨rfl, _, SqL.of e1⟩, _, rfl, b, ws, _, _, rfl, rfl, e6, atI_nat (j := 1) hw1, _, rfl, x, fo, zs, R.take n.toNat, rfl, hx, e2, e4, g3, by rw [List.length_take]; omega, fun v1 J1 u1 d1 => ?_⟩
          refine ⟨_, _, _, rfl, rfl, u1 _ _ e1, small1000 yl, ?_⟩
          refine ⟨_, _, _, _, ys ++ [v1], rfl, ?_⟩
          have hstep : rtl (.tuple [.str "f", .str x, .int n] :: ds.drop (ds.length - i)) = dueN x (R.take n.toNat) :: R.drop n.toNat := by rw [← hR]; rfl
          rw [hstep]
          exact putr J1 v1 (dueN x (R.take n.toNat)) ys (R.drop n.toNat) (u1 _ _ e1) (dp_sameAll u1 _ _ e3) (fun d hd => rokr d (List.mem_of_mem_drop hd)) (dp_same u1 _ _ e5) d1 (due_ok hx (by rw [List.length_take]; omega) g3)
    · rintro σ H7 ⟨v5, v6, v7, v8, ys, rfl, h1, h2, h3⟩
      rw [show ds.length - xs2.length = 0 by omega, List.drop_zero] at h2
      have l1 := rtl_len hn hc
      obtain ⟨e, he⟩ : ∃ e, rtl ds = [e] := List.length_eq_one_iff.mp l1
      have eok : RowOk e := rok e (by rw [he]; exact List.mem_cons_self)
      rw [he] at h2
      cases h2 with
      | @cons y _ _ _ dy h2 =>
      cases h2
      refine nxp (seq_asg ?_)
      refine ⟨_, rfl, _, ds, rfl, h3, hc, hn, by omega, fun va H8 s8 d8 => ?_⟩
      rw [he] at d8
      have d8 : Dp K H8 va e := d8
      have dy8 := dp_same s8 _ _ dy
      have hr8 := s8 _ _ h1
      refine gname (seq_ifN ?_)
      refine ⟨_, rfl, _, _, _, _, _, rfl, .ty _, tyx_of d8, kit_ty (kitBo _), _, rfl, ?_⟩
      rw [row_bool eok]
      refine iteF ⟨_, rfl, _, _, _, _, _, rfl, .ty _, tyx_of d8, kit_ty (kitI _), _, rfl, r, _, 0, y, rfl, rfl, SqL.of hr8, atI_nat (j := 0) rfl, _, _, _, _, _, rfl, .ty _, tyx_of dy8, kit_ty (kitI _), rfl, _, rfl, ?_⟩
      rw [decide_eq_true rfl]
      refine iteF ?_
      refine ⟨_, rfl, _, rfl, r, _, 0, y, rfl, rfl, SqL.of hr8, atI_nat (j := 0) rfl, e, e, d8, dy8, (row_sh eok).1, (row_sh eok).1, _, rfl, ?_⟩
      rw [(row_sh eok).2]
      refine iteT ⟨_, rfl, (by show 2 ≤ sizeLine; decide), fun tp ntp => ?_⟩
      exact ⟨va, tp, _, _, _, true, rfl, upd_same, .cons (.ty _) (.cons (.ty _) .nil), tyx_of (dp_same (same_upd ntp) _ _ d8), row_any eok, q _⟩

end
/-! ### the end -/
theorem all_mk {l : PySem.W.OpenLaw} {w : World} {K : PySem.W.Frag} {h : Heap} {mg : Str → Option Value} {fa f1 f2 f3 f4 f5 f6 f7 f8 f9 f10 f11 f12 f13 f14 f15 f16 f17 f18 f19 f20 f21 f22 f23 f24 f25 : Addr} (X : K.In h) (G : h.Ns mainGlobals mg) (hfa : mg "law" = some (.ref fa))
    {od1 an1 od2 an2 od3 an3 od4 an4 od5 an5 od6 an6 od7 an7 od8 an8 od9 an9 od10 an10 od11 an11 od12 an12 od13 an13 od14 an14 od15 an15 od16 an16 od17 an17 od18 an18 od19 an19 od20 an20 od21 an21 od22 an22 od23 an23 od24 an24 od25 an25 : Option Addr} {sl1 sl2 sl3 sl4 sl5 sl6 sl7 sl8 sl9 sl10 sl11 sl12 sl13 sl14 sl15 sl16 sl17 sl18 sl19 sl20 sl21 sl22 sl23 sl24 sl25 : Array (Option Value)} {oc1 kV1 dc1 pm1 cd1 ct1 oc2 kV2 dc2 pm2 cd2 ct2 oc3 kV3 dc3 pm3 cd3 ct3 oc4 kV4 dc4 pm4 cd4 ct4 oc5 kV5 dc5 pm5 cd5 ct5 oc6 kV6 dc6 pm6 cd6 ct6 oc7 kV7 dc7 pm7 cd7 ct7 oc8 kV8 dc8 pm8 cd8 ct8 oc9 kV9 dc9 pm9 cd9 ct9 oc10 kV10 dc10 pm10 cd10 ct10 oc11 kV11 dc11 pm11 cd11 ct11 oc12 kV12 dc12 pm12 cd12 ct12 oc13 kV13 dc13 pm13 cd13 ct13 oc14 kV14 dc14 pm14 cd14 ct14 oc15 kV15 dc15 pm15 cd15 ct15 oc16 kV16 dc16 pm16 cd16 ct16 oc17 kV17 dc17 pm17 cd17 ct17 oc18 kV18 dc18 pm18 cd18 ct18 oc19 kV19 dc19 pm19 cd19 ct19 oc20 kV20 dc20 pm20 cd20 ct20 oc21 kV21 dc21 pm21 cd21 ct21 oc22 kV22 dc22 pm22 cd22 ct22 oc23 kV23 dc23 pm23 cd23 ct23 oc24 kV24 dc24 pm24 cd24 ct24 oc25 kV25 dc25 pm25 cd25 ct25 : Value} {tk0 : Tok} {tk1 : Tok} {tk2 : Tok} {tk3 : Tok}

    (a1 : PySem.W.nsIn K mainGlobals "is_integer" = some (some (.ref f1))) (l1 : K.lookup f1 = some ⟨oc1, od1, .func (PySem.W.fnOf "is_integer" "is_integer" (defArgs s_is_integer) (defBody s_is_integer) (defScope s_is_integer) .none kV1 dc1 pm1 an1 cd1 ct1), sl1⟩) (c1 : PySem.W.codeIn K cd1 "is_integer" = true) (k1 : PySem.W.keepIn K (.ref f1) = true)
    (a2 : PySem.W.nsIn K mainGlobals "is_bounded" = some (some (.ref f2))) (l2 : K.lookup f2 = some ⟨oc2, od2, .func (PySem.W.fnOf "is_bounded" "is_bounded" (defArgs s_is_bounded) (defBody s_is_bounded) (defScope s_is_bounded) .none kV2 dc2 pm2 an2 cd2 ct2), sl2⟩) (c2 : PySem.W.codeIn K cd2 "is_bounded" = true) (k2 : PySem.W.keepIn K (.ref f2) = true)
    (a3 : PySem.W.nsIn K mainGlobals "is_name" = some (some (.ref f3))) (l3 : K.lookup f3 = some ⟨oc3, od3, .func (PySem.W.fnOf "is_name" "is_name" (defArgs s_is_name) (defBody s_is_name) (defScope s_is_name) .none kV3 dc3 pm3 an3 cd3 ct3), sl3⟩) (c3 : PySem.W.codeIn K cd3 "is_name" = true) (k3 : PySem.W.keepIn K (.ref f3) = true)
    (a4 : PySem.W.nsIn K mainGlobals "is_arity" = some (some (.ref f4))) (l4 : K.lookup f4 = some ⟨oc4, od4, .func (PySem.W.fnOf "is_arity" "is_arity" (defArgs s_is_arity) (defBody s_is_arity) (defScope s_is_arity) .none kV4 dc4 pm4 an4 cd4 ct4), sl4⟩) (c4 : PySem.W.codeIn K cd4 "is_arity" = true) (k4 : PySem.W.keepIn K (.ref f4) = true)
    (a5 : PySem.W.nsIn K mainGlobals "is_variable" = some (some (.ref f5))) (l5 : K.lookup f5 = some ⟨oc5, od5, .func (PySem.W.fnOf "is_variable" "is_variable" (defArgs s_is_variable) (defBody s_is_variable) (defScope s_is_variable) .none kV5 dc5 pm5 an5 cd5 ct5), sl5⟩) (c5 : PySem.W.codeIn K cd5 "is_variable" = true) (k5 : PySem.W.keepIn K (.ref f5) = true)
    (a6 : PySem.W.nsIn K mainGlobals "is_symbol" = some (some (.ref f6))) (l6 : K.lookup f6 = some ⟨oc6, od6, .func (PySem.W.fnOf "is_symbol" "is_symbol" (defArgs s_is_symbol) (defBody s_is_symbol) (defScope s_is_symbol) .none kV6 dc6 pm6 an6 cd6 ct6), sl6⟩) (c6 : PySem.W.codeIn K cd6 "is_symbol" = true) (k6 : PySem.W.keepIn K (.ref f6) = true)
    (a7 : PySem.W.nsIn K mainGlobals "arity_of" = some (some (.ref f7))) (l7 : K.lookup f7 = some ⟨oc7, od7, .func (PySem.W.fnOf "arity_of" "arity_of" (defArgs s_arity_of) (defBody s_arity_of) (defScope s_arity_of) .none kV7 dc7 pm7 an7 cd7 ct7), sl7⟩) (c7 : PySem.W.codeIn K cd7 "arity_of" = true) (k7 : PySem.W.keepIn K (.ref f7) = true)
    (a8 : PySem.W.nsIn K mainGlobals "is_node" = some (some (.ref f8))) (l8 : K.lookup f8 = some ⟨oc8, od8, .func (PySem.W.fnOf "is_node" "is_node" (defArgs s_is_node) (defBody s_is_node) (defScope s_is_node) .none kV8 dc8 pm8 an8 cd8 ct8), sl8⟩) (c8 : PySem.W.codeIn K cd8 "is_node" = true) (k8 : PySem.W.keepIn K (.ref f8) = true)
    (a9 : PySem.W.nsIn K mainGlobals "integer" = some (some (.ref f9))) (l9 : K.lookup f9 = some ⟨oc9, od9, .func (PySem.W.fnOf "integer" "integer" (defArgs s_integer) (defBody s_integer) (defScope s_integer) .none kV9 dc9 pm9 an9 cd9 ct9), sl9⟩) (c9 : PySem.W.codeIn K cd9 "integer" = true) (k9 : PySem.W.keepIn K (.ref f9) = true)
    (a10 : PySem.W.nsIn K mainGlobals "atom" = some (some (.ref f10))) (l10 : K.lookup f10 = some ⟨oc10, od10, .func (PySem.W.fnOf "atom" "atom" (defArgs s_atom) (defBody s_atom) (defScope s_atom) .none kV10 dc10 pm10 an10 cd10 ct10), sl10⟩) (c10 : PySem.W.codeIn K cd10 "atom" = true) (k10 : PySem.W.keepIn K (.ref f10) = true)
    (a11 : PySem.W.nsIn K mainGlobals "compound" = some (some (.ref f11))) (l11 : K.lookup f11 = some ⟨oc11, od11, .func (PySem.W.fnOf "compound" "compound" (defArgs s_compound) (defBody s_compound) (defScope s_compound) .none kV11 dc11 pm11 an11 cd11 ct11), sl11⟩) (c11 : PySem.W.codeIn K cd11 "compound" = true) (k11 : PySem.W.keepIn K (.ref f11) = true)
    (a12 : PySem.W.nsIn K mainGlobals "is_term" = some (some (.ref f12))) (l12 : K.lookup f12 = some ⟨oc12, od12, .func (PySem.W.fnOf "is_term" "is_term" (defArgs s_is_term) (defBody s_is_term) (defScope s_is_term) .none kV12 dc12 pm12 an12 cd12 ct12), sl12⟩) (c12 : PySem.W.codeIn K cd12 "is_term" = true) (k12 : PySem.W.keepIn K (.ref f12) = true)
    (a13 : PySem.W.nsIn K mainGlobals "symbol_error" = some (some (.ref f13))) (l13 : K.lookup f13 = some ⟨oc13, od13, .func (PySem.W.fnOf "symbol_error" "symbol_error" (defArgs s_symbol_error) (defBody s_symbol_error) (defScope s_symbol_error) .none kV13 dc13 pm13 an13 cd13 ct13), sl13⟩) (c13 : PySem.W.codeIn K cd13 "symbol_error" = true) (k13 : PySem.W.keepIn K (.ref f13) = true)
    (a14 : PySem.W.nsIn K mainGlobals "calculate" = some (some (.ref f14))) (l14 : K.lookup f14 = some ⟨oc14, od14, .func (PySem.W.fnOf "calculate" "calculate" (defArgs s_calculate) (defBody s_calculate) (defScope s_calculate) .none kV14 dc14 pm14 an14 cd14 ct14), sl14⟩) (c14 : PySem.W.codeIn K cd14 "calculate" = true) (k14 : PySem.W.keepIn K (.ref f14) = true)
    (a15 : PySem.W.nsIn K mainGlobals "result" = some (some (.ref f15))) (l15 : K.lookup f15 = some ⟨oc15, od15, .func (PySem.W.fnOf "result" "result" (defArgs s_result) (defBody s_result) (defScope s_result) .none kV15 dc15 pm15 an15 cd15 ct15), sl15⟩) (c15 : PySem.W.codeIn K cd15 "result" = true) (k15 : PySem.W.keepIn K (.ref f15) = true)
    (a16 : PySem.W.nsIn K mainGlobals "evaluate" = some (some (.ref f16))) (l16 : K.lookup f16 = some ⟨oc16, od16, .func (PySem.W.fnOf "evaluate" "evaluate" (defArgs s_evaluate) (defBody s_evaluate) (defScope s_evaluate) .none kV16 dc16 pm16 an16 cd16 ct16), sl16⟩) (c16 : PySem.W.codeIn K cd16 "evaluate" = true) (k16 : PySem.W.keepIn K (.ref f16) = true)
    (a17 : PySem.W.nsIn K mainGlobals "_law_stream" = some (some (.ref f17))) (l17 : K.lookup f17 = some ⟨oc17, od17, .func (PySem.W.fnOf "_law_stream" "_law_stream" (defArgs s__law_stream) (defBody s__law_stream) (defScope s__law_stream) .none kV17 dc17 pm17 an17 cd17 ct17), sl17⟩) (c17 : PySem.W.codeIn K cd17 "_law_stream" = true) (k17 : PySem.W.keepIn K (.ref f17) = true)
    (a18 : PySem.W.nsIn K mainGlobals "_law_draw" = some (some (.ref f18))) (l18 : K.lookup f18 = some ⟨oc18, od18, .func (PySem.W.fnOf "_law_draw" "_law_draw" (defArgs s__law_draw) (defBody s__law_draw) (defScope s__law_draw) .none kV18 dc18 pm18 an18 cd18 ct18), sl18⟩) (c18 : PySem.W.codeIn K cd18 "_law_draw" = true) (k18 : PySem.W.keepIn K (.ref f18) = true)
    (a19 : PySem.W.nsIn K mainGlobals "_law_f" = some (some (.ref f19))) (l19 : K.lookup f19 = some ⟨oc19, od19, .func (PySem.W.fnOf "_law_f" "_law_f" (defArgs s__law_f) (defBody s__law_f) (defScope s__law_f) .none kV19 dc19 pm19 an19 cd19 ct19), sl19⟩) (c19 : PySem.W.codeIn K cd19 "_law_f" = true) (k19 : PySem.W.keepIn K (.ref f19) = true)
    (a20 : PySem.W.nsIn K mainGlobals "_law_number" = some (some (.ref f20))) (l20 : K.lookup f20 = some ⟨oc20, od20, .func (PySem.W.fnOf "_law_number" "_law_number" (defArgs s__law_number) (defBody s__law_number) (defScope s__law_number) .none kV20 dc20 pm20 an20 cd20 ct20), sl20⟩) (c20 : PySem.W.codeIn K cd20 "_law_number" = true) (k20 : PySem.W.keepIn K (.ref f20) = true)
    (a21 : PySem.W.nsIn K mainGlobals "_law_expression" = some (some (.ref f21))) (l21 : K.lookup f21 = some ⟨oc21, od21, .func (PySem.W.fnOf "_law_expression" "_law_expression" (defArgs s__law_expression) (defBody s__law_expression) (defScope s__law_expression) .none kV21 dc21 pm21 an21 cd21 ct21), sl21⟩) (c21 : PySem.W.codeIn K cd21 "_law_expression" = true) (k21 : PySem.W.keepIn K (.ref f21) = true)
    (a22 : PySem.W.nsIn K mainGlobals "_law_combined" = some (some (.ref f22))) (l22 : K.lookup f22 = some ⟨oc22, od22, .func (PySem.W.fnOf "_law_combined" "_law_combined" (defArgs s__law_combined) (defBody s__law_combined) (defScope s__law_combined) .none kV22 dc22 pm22 an22 cd22 ct22), sl22⟩) (c22 : PySem.W.codeIn K cd22 "_law_combined" = true) (k22 : PySem.W.keepIn K (.ref f22) = true)
    (a23 : PySem.W.nsIn K mainGlobals "_law_due" = some (some (.ref f23))) (l23 : K.lookup f23 = some ⟨oc23, od23, .func (PySem.W.fnOf "_law_due" "_law_due" (defArgs s__law_due) (defBody s__law_due) (defScope s__law_due) .none kV23 dc23 pm23 an23 cd23 ct23), sl23⟩) (c23 : PySem.W.codeIn K cd23 "_law_due" = true) (k23 : PySem.W.keepIn K (.ref f23) = true)
    (a24 : PySem.W.nsIn K mainGlobals "_law_deep" = some (some (.ref f24))) (l24 : K.lookup f24 = some ⟨oc24, od24, .func (PySem.W.fnOf "_law_deep" "_law_deep" (defArgs s__law_deep) (defBody s__law_deep) (defScope s__law_deep) .none kV24 dc24 pm24 an24 cd24 ct24), sl24⟩) (c24 : PySem.W.codeIn K cd24 "_law_deep" = true) (k24 : PySem.W.keepIn K (.ref f24) = true)
    (a25 : PySem.W.nsIn K mainGlobals "law" = some (some (.ref f25))) (l25 : K.lookup f25 = some ⟨oc25, od25, .func (PySem.W.fnOf "law" "law" (defArgs s_law) (defBody s_law) (defScope s_law) .none kV25 dc25 pm25 an25 cd25 ct25), sl25⟩) (c25 : PySem.W.codeIn K cd25 "law" = true) (k25 : PySem.W.keepIn K (.ref f25) = true)
    {C0 : Addr} (aC0 : PySem.W.nsIn K mainGlobals "BadTerm" = some (some (.ref C0))) (xC0 : PySem.W.excIn K C0 [.type "ValueError", .type "Exception", .type "BaseException", .type "object"] "ValueError.__new__" = true) (kC0 : PySem.W.keepIn K (.ref C0) = true) (bC0 : PySem.W.subIn K (.ref C0) (.type "BaseException") = some true) (tC0 : PySem.W.typeIn K (.ref C0) = some (.type "type")) (iC0 : PySem.W.isClsIn K C0 = true)
    (z0 : PySem.W.nsIn K mainGlobals "abs" = some none)
    (z1 : PySem.W.nsIn K mainGlobals "all" = some none)
    (z2 : PySem.W.nsIn K mainGlobals "bool" = some none)
    (z3 : PySem.W.nsIn K mainGlobals "int" = some none)
    (z4 : PySem.W.nsIn K mainGlobals "isinstance" = some none)
    (z5 : PySem.W.nsIn K mainGlobals "len" = some none)
    (z6 : PySem.W.nsIn K mainGlobals "list" = some none)
    (z7 : PySem.W.nsIn K mainGlobals "ord" = some none)
    (z8 : PySem.W.nsIn K mainGlobals "range" = some none)
    (z9 : PySem.W.nsIn K mainGlobals "str" = some none)
    (z10 : PySem.W.nsIn K mainGlobals "tuple" = some none)
    (y0 : PySem.W.nsIn K mainGlobals "MOST_NAME" = some (some (.int 40 tk0)))
    (y1 : PySem.W.nsIn K mainGlobals "MOST_ARITY" = some (some (.int 8 tk1)))
    (y2 : PySem.W.nsIn K mainGlobals "INTEGER_BOUND" = some (some (.int 10000000000000000000000000000000000000000 tk2)))
    (y3 : PySem.W.nsIn K mainGlobals "PERCENT" = some (some (.int 37 tk3)))
    {kt3 : Tok} {kt4 : Tok} {ka2 : Addr} {kd2 : Option Addr} {kn2 : Nat} {ks2 : Array (Option Value)} {kt6 : Tok} {kt7 : Tok} {ka5 : Addr} {kd5 : Option Addr} {kn5 : Nat} {ks5 : Array (Option Value)} {kt9 : Tok} {kt10 : Tok} {ka8 : Addr} {kd8 : Option Addr} {kn8 : Nat} {ks8 : Array (Option Value)} {kt12 : Tok} {kt13 : Tok} {ka11 : Addr} {kd11 : Option Addr} {kn11 : Nat} {ks11 : Array (Option Value)} {kt15 : Tok} {kt16 : Tok} {ka14 : Addr} {kd14 : Option Addr} {kn14 : Nat} {ks14 : Array (Option Value)} {kt18 : Tok} {kt19 : Tok} {ka17 : Addr} {kd17 : Option Addr} {kn17 : Nat} {ks17 : Array (Option Value)} {ka1 : Addr} {kd1 : Option Addr} {kn1 : Nat} {ks1 : Array (Option Value)}
    (y4 : PySem.W.nsIn K mainGlobals "EVALUABLE" = some (some (.ref ka1)))
    (kh2 : K.lookup ka2 = some ⟨.type "tuple", kd2, .seq #[.str "+" kt3, .int 2 kt4] kn2, ks2⟩)
    (kh5 : K.lookup ka5 = some ⟨.type "tuple", kd5, .seq #[.str "-" kt6, .int 2 kt7] kn5, ks5⟩)
    (kh8 : K.lookup ka8 = some ⟨.type "tuple", kd8, .seq #[.str "*" kt9, .int 2 kt10] kn8, ks8⟩)
    (kh11 : K.lookup ka11 = some ⟨.type "tuple", kd11, .seq #[.str "//" kt12, .int 2 kt13] kn11, ks11⟩)
    (kh14 : K.lookup ka14 = some ⟨.type "tuple", kd14, .seq #[.str "mod" kt15, .int 2 kt16] kn14, ks14⟩)
    (kh17 : K.lookup ka17 = some ⟨.type "tuple", kd17, .seq #[.str "-" kt18, .int 1 kt19] kn17, ks17⟩)
    (kh1 : K.lookup ka1 = some ⟨.type "tuple", kd1, .seq #[.ref ka2, .ref ka5, .ref ka8, .ref ka11, .ref ka14, .ref ka17] kn1, ks1⟩)
    : ∃ fd : FuncData, (∀ (s : Shared) (v : Value), BindsTo s fd ⟨[v], []⟩ [("script", v)]) ∧ ∀ base : Heap, K.In base → base.Ns mainGlobals mg → FnOk l.prog w K mg base CX0 8 fa fd ["script"] (sp_law K) := by
  have e := hfa.symm.trans (PySem.W.mg_of X G a25)
  cases e
  have F1 := fun_mk (st := s_is_integer) l1 c1 k1
  have b1 := F1.binds (ps := ["value"]) fun _ _ _ _ _ _ us hl => match us, hl with | [_], _ => rfl
  have F2 := fun_mk (st := s_is_bounded) l2 c2 k2
  have b2 := F2.binds (ps := ["value"]) fun _ _ _ _ _ _ us hl => match us, hl with | [_], _ => rfl
  have F3 := fun_mk (st := s_is_name) l3 c3 k3
  have b3 := F3.binds (ps := ["value"]) fun _ _ _ _ _ _ us hl => match us, hl with | [_], _ => rfl
  have F4 := fun_mk (st := s_is_arity) l4 c4 k4
  have b4 := F4.binds (ps := ["value"]) fun _ _ _ _ _ _ us hl => match us, hl with | [_], _ => rfl
  have F5 := fun_mk (st := s_is_variable) l5 c5 k5
  have b5 := F5.binds (ps := ["node"]) fun _ _ _ _ _ _ us hl => match us, hl with | [_], _ => rfl
  have F6 := fun_mk (st := s_is_symbol) l6 c6 k6
  have b6 := F6.binds (ps := ["node"]) fun _ _ _ _ _ _ us hl => match us, hl with | [_], _ => rfl
  have F7 := fun_mk (st := s_arity_of) l7 c7 k7
  have b7 := F7.binds (ps := ["node"]) fun _ _ _ _ _ _ us hl => match us, hl with | [_], _ => rfl
  have F8 := fun_mk (st := s_is_node) l8 c8 k8
  have b8 := F8.binds (ps := ["value"]) fun _ _ _ _ _ _ us hl => match us, hl with | [_], _ => rfl
  have F9 := fun_mk (st := s_integer) l9 c9 k9
  have b9 := F9.binds (ps := ["value"]) fun _ _ _ _ _ _ us hl => match us, hl with | [_], _ => rfl
  have F10 := fun_mk (st := s_atom) l10 c10 k10
  have b10 := F10.binds (ps := ["name"]) fun _ _ _ _ _ _ us hl => match us, hl with | [_], _ => rfl
  have F11 := fun_mk (st := s_compound) l11 c11 k11
  have F12 := fun_mk (st := s_is_term) l12 c12 k12
  have b12 := F12.binds (ps := ["value"]) fun _ _ _ _ _ _ us hl => match us, hl with | [_], _ => rfl
  have F13 := fun_mk (st := s_symbol_error) l13 c13 k13
  have b13 := F13.binds (ps := ["node"]) fun _ _ _ _ _ _ us hl => match us, hl with | [_], _ => rfl
  have F14 := fun_mk (st := s_calculate) l14 c14 k14
  have b14 := F14.binds (ps := ["name", "values"]) fun _ _ _ _ _ _ us hl => match us, hl with | [_, _], _ => rfl
  have F15 := fun_mk (st := s_result) l15 c15 k15
  have b15 := F15.binds (ps := ["name", "values"]) fun _ _ _ _ _ _ us hl => match us, hl with | [_, _], _ => rfl
  have F16 := fun_mk (st := s_evaluate) l16 c16 k16
  have b16 := F16.binds (ps := ["term"]) fun _ _ _ _ _ _ us hl => match us, hl with | [_], _ => rfl
  have F17 := fun_mk (st := s__law_stream) l17 c17 k17
  have b17 := F17.binds (ps := ["script"]) fun _ _ _ _ _ _ us hl => match us, hl with | [_], _ => rfl
  have F18 := fun_mk (st := s__law_draw) l18 c18 k18
  have b18 := F18.binds (ps := ["stream", "many"]) fun _ _ _ _ _ _ us hl => match us, hl with | [_, _], _ => rfl
  have F19 := fun_mk (st := s__law_f) l19 c19 k19
  have b19 := F19.binds (ps := ["name", "parts"]) fun _ _ _ _ _ _ us hl => match us, hl with | [_, _], _ => rfl
  have F20 := fun_mk (st := s__law_number) l20 c20 k20
  have b20 := F20.binds (ps := ["stream"]) fun _ _ _ _ _ _ us hl => match us, hl with | [_], _ => rfl
  have F21 := fun_mk (st := s__law_expression) l21 c21 k21
  have b21 := F21.binds (ps := ["stream", "size", "wrong"]) fun _ _ _ _ _ _ us hl => match us, hl with | [_, _, _], _ => rfl
  have F22 := fun_mk (st := s__law_combined) l22 c22 k22
  have b22 := F22.binds (ps := ["name", "values"]) fun _ _ _ _ _ _ us hl => match us, hl with | [_, _], _ => rfl
  have F23 := fun_mk (st := s__law_due) l23 c23 k23
  have b23 := F23.binds (ps := ["name", "rows"]) fun _ _ _ _ _ _ us hl => match us, hl with | [_, _], _ => rfl
  have F24 := fun_mk (st := s__law_deep) l24 c24 k24
  have b24 := F24.binds (ps := ["stream"]) fun _ _ _ _ _ _ us hl => match us, hl with | [_], _ => rfl
  have F25 := fun_mk (st := s_law) l25 c25 k25
  have E : Bi K mg := ⟨(by rw [clsA_of aC0]; exact ⟨PySem.W.mg_of X G aC0, xC0, kC0, bC0, tC0, iC0⟩), PySem.W.mg_none_of X G z0, PySem.W.mg_none_of X G z1, PySem.W.mg_none_of X G z2, PySem.W.mg_none_of X G z3, PySem.W.mg_none_of X G z4, PySem.W.mg_none_of X G z5, PySem.W.mg_none_of X G z6, PySem.W.mg_none_of X G z7, PySem.W.mg_none_of X G z8, PySem.W.mg_none_of X G z9, PySem.W.mg_none_of X G z10, ⟨_, PySem.W.mg_of X G y0, ⟨_, rfl⟩⟩, ⟨_, PySem.W.mg_of X G y1, ⟨_, rfl⟩⟩, ⟨_, PySem.W.mg_of X G y2, ⟨_, rfl⟩⟩, ⟨_, PySem.W.mg_of X G y3, ⟨_, rfl⟩⟩, ⟨_, _, PySem.W.mg_of X G y4, (relRef _), (kt_of kh1 (by show 6 ≤ 1000; decide) (.cons (relRef _) (.cons (relRef _) (.cons (relRef _) (.cons (relRef _) (.cons (relRef _) (.cons (relRef _) .nil)))))) (.cons (kt_of kh2 (by show 2 ≤ 1000; decide) (.cons (relStr _ _) (.cons (relInt _ _) .nil)) (.cons (.str _) (.cons (.int _) .nil))) (.cons (kt_of kh5 (by show 2 ≤ 1000; decide) (.cons (relStr _ _) (.cons (relInt _ _) .nil)) (.cons (.str _) (.cons (.int _) .nil))) (.cons (kt_of kh8 (by show 2 ≤ 1000; decide) (.cons (relStr _ _) (.cons (relInt _ _) .nil)) (.cons (.str _) (.cons (.int _) .nil))) (.cons (kt_of kh11 (by show 2 ≤ 1000; decide) (.cons (relStr _ _) (.cons (relInt _ _) .nil)) (.cons (.str _) (.cons (.int _) .nil))) (.cons (kt_of kh14 (by show 2 ≤ 1000; decide) (.cons (relStr _ _) (.cons (relInt _ _) .nil)) (.cons (.str _) (.cons (.int _) .nil))) (.cons (kt_of kh17 (by show 2 ≤ 1000; decide) (.cons (relStr _ _) (.cons (relInt _ _) .nil)) (.cons (.str _) (.cons (.int _) .nil))) .nil)))))))⟩⟩
  refine ⟨PySem.W.fnOf "law" "law" (defArgs s_law) (defBody s_law) (defScope s_law) .none kV25 dc25 pm25 an25 cd25 ct25, fun s v => .of_eq rfl, fun base _ _ => ?_⟩
  have D1 : Has l.prog w K mg base 1 "is_integer" ["value"] (sp_is_integer K) := ⟨_, _, ok_is_integer F1 E , PySem.W.mg_of X G a1, k1, b1⟩
  have D3 : Has l.prog w K mg base 1 "is_name" ["value"] (sp_is_name K) := ⟨_, _, ok_is_name F3 E , PySem.W.mg_of X G a3, k3, b3⟩
  have D5 : Has l.prog w K mg base 1 "is_variable" ["node"] (sp_is_variable K) := ⟨_, _, ok_is_variable F5 E , PySem.W.mg_of X G a5, k5, b5⟩
  have D6 : Has l.prog w K mg base 1 "is_symbol" ["node"] (sp_is_symbol K) := ⟨_, _, ok_is_symbol F6 E , PySem.W.mg_of X G a6, k6, b6⟩
  have D14 : Has l.prog w K mg base 1 "calculate" ["name", "values"] (sp_calculate K) := ⟨_, _, ok_calculate F14 E , PySem.W.mg_of X G a14, k14, b14⟩
  have D17 : Has l.prog w K mg base 1 "_law_stream" ["script"] (sp__law_stream K) := ⟨_, _, ok__law_stream F17 E , PySem.W.mg_of X G a17, k17, b17⟩
  have D18 : Has l.prog w K mg base 1 "_law_draw" ["stream", "many"] (sp__law_draw K) := ⟨_, _, ok__law_draw F18 E , PySem.W.mg_of X G a18, k18, b18⟩
  have D19 : Has l.prog w K mg base 1 "_law_f" ["name", "parts"] (sp__law_f K) := ⟨_, _, ok__law_f F19 E , PySem.W.mg_of X G a19, k19, b19⟩
  have D22 : Has l.prog w K mg base 1 "_law_combined" ["name", "values"] (sp__law_combined K) := ⟨_, _, ok__law_combined F22 E , PySem.W.mg_of X G a22, k22, b22⟩
  have D2 : Has l.prog w K mg base 2 "is_bounded" ["value"] (sp_is_bounded K) := ⟨_, _, ok_is_bounded F2 E D1, PySem.W.mg_of X G a2, k2, b2⟩
  have D4 : Has l.prog w K mg base 2 "is_arity" ["value"] (sp_is_arity K) := ⟨_, _, ok_is_arity F4 E D1, PySem.W.mg_of X G a4, k4, b4⟩
  have D7 : Has l.prog w K mg base 2 "arity_of" ["node"] (sp_arity_of K) := ⟨_, _, ok_arity_of F7 E D6, PySem.W.mg_of X G a7, k7, b7⟩
  have D10 : HasX l.prog w K mg base 2 "atom" ["name"] (sp_atom K) := ⟨_, _, ok_atom F10 E D3, PySem.W.mg_of X G a10, k10, b10⟩
  have D20 : Has l.prog w K mg base 2 "_law_number" ["stream"] (sp__law_number K) := ⟨_, _, ok__law_number F20 E D18, PySem.W.mg_of X G a20, k20, b20⟩
  have D23 : Has l.prog w K mg base 2 "_law_due" ["name", "rows"] (sp__law_due K) := ⟨_, _, ok__law_due F23 E D19 D22, PySem.W.mg_of X G a23, k23, b23⟩
  have D24 : Has l.prog w K mg base 2 "_law_deep" ["stream"] (sp__law_deep K) := ⟨_, _, ok__law_deep F24 E D18 D19, PySem.W.mg_of X G a24, k24, b24⟩
  have D8 : Has l.prog w K mg base 3 "is_node" ["value"] (sp_is_node K) := ⟨_, _, ok_is_node F8 E D1 D2 D4 D3, PySem.W.mg_of X G a8, k8, b8⟩
  have D9 : HasX l.prog w K mg base 3 "integer" ["value"] (sp_integer K) := ⟨_, _, ok_integer F9 E D2, PySem.W.mg_of X G a9, k9, b9⟩
  have D21 : Has l.prog w K mg base 3 "_law_expression" ["stream", "size", "wrong"] (sp__law_expression K) := ⟨_, _, ok__law_expression F21 E D18 D20, PySem.W.mg_of X G a21, k21, b21⟩
  have D12 : Has l.prog w K mg base 4 "is_term" ["value"] (sp_is_term K) := ⟨_, _, ok_is_term F12 E D8 D7, PySem.W.mg_of X G a12, k12, b12⟩
  have D11 : HasR l.prog w K mg base 5 "compound" 1 (sp_compound K) := ⟨_, ok_compound F11 E D3 D12, PySem.W.mg_of X G a11, k11⟩
  have D13 : HasX l.prog w K mg base 6 "symbol_error" ["node"] (sp_symbol_error K) := ⟨_, _, ok_symbol_error F13 E D5 D10 D11 D9, PySem.W.mg_of X G a13, k13, b13⟩
  have D15 : HasX l.prog w K mg base 6 "result" ["name", "values"] (sp_result K) := ⟨_, _, ok_result F15 E D11 D10 D14, PySem.W.mg_of X G a15, k15, b15⟩
  have D16 : HasX l.prog w K mg base 7 "evaluate" ["term"] (sp_evaluate K) := ⟨_, _, ok_evaluate F16 E D5 D6 D13 D15, PySem.W.mg_of X G a16, k16, b16⟩
  exact ok_law F25 E D17 D18 D24 D16 D21 D19 D23
end My
open PySem PySem.W PyProof.Rows
set_option maxRecDepth 100000 in
set_option maxHeartbeats 0 in
theorem PySem.Challenge.cw_hornbook_k21_evaluate_holds : PySem.Challenge.rw_hornbook_k21_evaluate.Holds := by
  w_on; o_law; k_head; (case hw => w_witness2)
  k_fill
  refine L2.walk_of (l := PySem.Challenge.rw_hornbook_k21_evaluate) (n := 63) (k := 8) (x := "script") (CX := fun _ => L2.CX0) (sp := fun w => My.sp_law _) rfl (by decide) rfl ⟨rfl, by decide, by decide⟩ (fun w h Y => PySem.W.kIn_of Y) ?F (fun _ _ a ns hl _ hS => ⟨a, ns, rfl, hS, hl, fun _ => rfl⟩) (fun _ _ _ _ _ h => h)
  case F =>
    intro w mg fa h KX G hmg
    refine' My.all_mk KX G hmg ?a1 ?l1 ?c1 ?k1 ?a2 ?l2 ?c2 ?k2 ?a3 ?l3 ?c3 ?k3 ?a4 ?l4 ?c4 ?k4 ?a5 ?l5 ?c5 ?k5 ?a6 ?l6 ?c6 ?k6 ?a7 ?l7 ?c7 ?k7 ?a8 ?l8 ?c8 ?k8 ?a9 ?l9 ?c9 ?k9 ?a10 ?l10 ?c10 ?k10 ?a11 ?l11 ?c11 ?k11 ?a12 ?l12 ?c12 ?k12 ?a13 ?l13 ?c13 ?k13 ?a14 ?l14 ?c14 ?k14 ?a15 ?l15 ?c15 ?k15 ?a16 ?l16 ?c16 ?k16 ?a17 ?l17 ?c17 ?k17 ?a18 ?l18 ?c18 ?k18 ?a19 ?l19 ?c19 ?k19 ?a20 ?l20 ?c20 ?k20 ?a21 ?l21 ?c21 ?k21 ?a22 ?l22 ?c22 ?k22 ?a23 ?l23 ?c23 ?k23 ?a24 ?l24 ?c24 ?k24 ?a25 ?l25 ?c25 ?k25 ?aC0 ?xC0 ?kC0 ?bC0 ?tC0 ?iC0 ?z0 ?z1 ?z2 ?z3 ?z4 ?z5 ?z6 ?z7 ?z8 ?z9 ?z10 ?y0 ?y1 ?y2 ?y3 ?y4 ?kh2 ?kh5 ?kh8 ?kh11 ?kh14 ?kh17 ?kh1
    (case a1 => k_is)
    (case l1 => k_is)
    (case c1 => k_is)
    (case k1 => k_is)
    (case a2 => k_is)
    (case l2 => k_is)
    (case c2 => k_is)
    (case k2 => k_is)
    (case a3 => k_is)
    (case l3 => k_is)
    (case c3 => k_is)
    (case k3 => k_is)
    (case a4 => k_is)
    (case l4 => k_is)
    (case c4 => k_is)
    (case k4 => k_is)
    (case a5 => k_is)
    (case l5 => k_is)
    (case c5 => k_is)
    (case k5 => k_is)
    (case a6 => k_is)
    (case l6 => k_is)
    (case c6 => k_is)
    (case k6 => k_is)
    (case a7 => k_is)
    (case l7 => k_is)
    (case c7 => k_is)
    (case k7 => k_is)
    (case a8 => k_is)
    (case l8 => k_is)
    (case c8 => k_is)
    (case k8 => k_is)
    (case a9 => k_is)
    (case l9 => k_is)
    (case c9 => k_is)
    (case k9 => k_is)
    (case a10 => k_is)
    (case l10 => k_is)
    (case c10 => k_is)
    (case k10 => k_is)
    (case a11 => k_is)
    (case l11 => k_is)
    (case c11 => k_is)
    (case k11 => k_is)
    (case a12 => k_is)
    (case l12 => k_is)
    (case c12 => k_is)
    (case k12 => k_is)
    (case a13 => k_is)
    (case l13 => k_is)
    (case c13 => k_is)
    (case k13 => k_is)
    (case a14 => k_is)
    (case l14 => k_is)
    (case c14 => k_is)
    (case k14 => k_is)
    (case a15 => k_is)
    (case l15 => k_is)
    (case c15 => k_is)
    (case k15 => k_is)
    (case a16 => k_is)
    (case l16 => k_is)
    (case c16 => k_is)
    (case k16 => k_is)
    (case a17 => k_is)
    (case l17 => k_is)
    (case c17 => k_is)
    (case k17 => k_is)
    (case a18 => k_is)
    (case l18 => k_is)
    (case c18 => k_is)
    (case k18 => k_is)
    (case a19 => k_is)
    (case l19 => k_is)
    (case c19 => k_is)
    (case k19 => k_is)
    (case a20 => k_is)
    (case l20 => k_is)
    (case c20 => k_is)
    (case k20 => k_is)
    (case a21 => k_is)
    (case l21 => k_is)
    (case c21 => k_is)
    (case k21 => k_is)
    (case a22 => k_is)
    (case l22 => k_is)
    (case c22 => k_is)
    (case k22 => k_is)
    (case a23 => k_is)
    (case l23 => k_is)
    (case c23 => k_is)
    (case k23 => k_is)
    (case a24 => k_is)
    (case l24 => k_is)
    (case c24 => k_is)
    (case k24 => k_is)
    (case a25 => k_is)
    (case l25 => k_is)
    (case c25 => k_is)
    (case k25 => k_is)
    (case aC0 => k_is)
    (case xC0 => k_exc)
    (case kC0 => k_is)
    (case bC0 => k_is)
    (case tC0 => k_is)
    (case iC0 => k_is)
    (case z0 => k_is)
    (case z1 => k_is)
    (case z2 => k_is)
    (case z3 => k_is)
    (case z4 => k_is)
    (case z5 => k_is)
    (case z6 => k_is)
    (case z7 => k_is)
    (case z8 => k_is)
    (case z9 => k_is)
    (case z10 => k_is)
    (case y0 => k_is)
    (case y1 => k_is)
    (case y2 => k_is)
    (case y3 => k_is)
    (case y4 => k_is)
    (case kh1 => k_is)
    (case kh17 => k_is)
    (case kh14 => k_is)
    (case kh11 => k_is)
    (case kh8 => k_is)
    (case kh5 => k_is)
    (case kh2 => k_is)
