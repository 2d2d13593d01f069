import PyProof.Rows.All
import Wide.All
import OpenK.AllK
import Wide.FinOn
import HandS.ForMost
import HandS.IsInst
import HandS.Wide
import HandS.Codes
import HandS.Style
import HandS.TupLe
import HandS.TupAny
import HandS.EndBits
import HandS.Walk
import HandS.Zip
import KE.LtData
import HandS.SetKeys
import HandS.WordsDict
import HandS.Defaults
import HandS.More
import PySem.Challenge.RW_hornbook_k04_variants
set_option Elab.async false
set_option linter.all false
set_option maxRecDepth 100000
set_option maxHeartbeats 4000000
set_option exponentiation.threshold 10000
namespace My
open PySem PySem.Spec PyProof.Rows L2
/-- a def of the text that keeps a promise, as its callers want it -/
def Has (P : Program) (w : World) (K : PySem.W.Frag) (mg : Str → Option Value) (base : Heap) (k : Nat) (x : Str) (ps : List Str) (sp : Sp) : Prop :=
  ∃ (f : Addr) (fd : FuncData), FnOk P w K mg base CX0 k f fd ps sp ∧ mg x = some (.ref f) ∧ PySem.W.keepIn K (.ref f) = true ∧ Binds K fd ps []
theorem same_upd {H : Hp} {p : Addr} {o : HO} (h : H p = none) : Same H (upd H p o) := fun b x e => by
  rw [upd_ne (ne_of_none e h)]
  exact e
/-- all but the object at s is as it was -/
def But (s : Addr) (H H' : Hp) : Prop := ∀ b o, b ≠ s → H b = some o → H' b = some o
theorem But.refl (s : Addr) (H : Hp) : But s H H := fun _ _ _ e => e
theorem But.trans {s : Addr} {H H1 H2 : Hp} (a : But s H H1) (b : But s H1 H2) : But s H H2 := fun c o hc e => b c o hc (a c o hc e)
theorem But.of {s : Addr} {H H' : Hp} (a : Same H H') : But s H H' := fun b o _ e => a b o e
theorem But.put {s : Addr} {H : Hp} {o : HO} : But s H (upd H s o) := fun b u hb e => by rw [upd_ne hb]; exact e
/-! ### what a value is -/
mutual
inductive Im (K : PySem.W.Frag) (G : Addr → Prop) (H : Hp) : V → PyData → Prop
  | non : Im K G H .non .none
  | bl (b : Bool) : Im K G H (.bl b) (.bool b)
  | int (i : Int) : Im K G H (.int i) (.int i)
  | str (x : Str) : Im K G H (.str x) (.str x)
  | lst {a : Addr} {xs : List V} {ds : List PyData} : G a → H a = some (.lst xs) → ImAll K G H xs ds → Im K G H (.ref a) (.list ds)
  | tup {a : Addr} {xs : List V} {ds : List PyData} : G a → H a = some (.tup xs) → ImAll K G H xs ds → Im K G H (.ref a) (.tuple ds)
inductive ImAll (K : PySem.W.Frag) (G : Addr → Prop) (H : Hp) : List V → List PyData → Prop
  | nil : ImAll K G H [] []
  | cons {v : V} {vs : List V} {d : PyData} {ds : List PyData} : Im K G H v d → ImAll K G H vs ds → ImAll K G H (v :: vs) (d :: ds)
end
section
variable {K : PySem.W.Frag} {G G' : Addr → Prop} {H H' : Hp}
mutual
theorem Im.mono (hH : ∀ b o, G b → H b = some o → H' b = some o) (hG : ∀ b, G b → G' b) : ∀ (d : PyData) (v : V), Im K G H v d → Im K G' H' v d
  | .none, _, h => by cases h; exact .non
  | .bool b, _, h => by cases h; exact .bl b
  | .int i, _, h => by cases h; exact .int i
  | .str x, _, h => by cases h; exact .str x
  | .list ds, _, h => by
    cases h with
    | lst g e ha => exact .lst (hG _ g) (hH _ _ g e) (Im.monoAll hH hG ds _ ha)
  | .tuple ds, _, h => by
    cases h with
    | tup g e ha => exact .tup (hG _ g) (hH _ _ g e) (Im.monoAll hH hG ds _ ha)
  | .dict _, _, h => by cases h
theorem Im.monoAll (hH : ∀ b o, G b → H b = some o → H' b = some o) (hG : ∀ b, G b → G' b) : ∀ (ds : List PyData) (vs : List V), ImAll K G H vs ds → ImAll K G' H' vs ds
  | [], _, h => by cases h; exact .nil
  | d :: ds, _, h => by
    cases h with
    | cons h1 h2 => exact .cons (Im.mono hH hG d _ h1) (Im.monoAll hH hG ds _ h2)
end
mutual
theorem Im.dp : ∀ (d : PyData) (v : V), Im K G H v d → Dp K H v d
  | .none, _, h => by cases h; exact .non
  | .bool b, _, h => by cases h; exact .bl b
  | .int i, _, h => by cases h; exact .int i
  | .str x, _, h => by cases h; exact .str x
  | .list ds, _, h => by
    cases h with
    | lst g e ha => exact .lst (SqL.of e) (Im.dpAll ds _ ha)
  | .tuple ds, _, h => by
    cases h with
    | tup g e ha => exact .tup (SqT.of e) (Im.dpAll ds _ ha)
  | .dict _, _, h => by cases h
theorem Im.dpAll : ∀ (ds : List PyData) (vs : List V), ImAll K G H vs ds → DpAll K H vs ds
  | [], _, h => by cases h; exact .nil
  | d :: ds, _, h => by
    cases h with
    | cons h1 h2 => exact .cons (Im.dp d _ h1) (Im.dpAll ds _ h2)
end
theorem ImAll.len : ∀ {vs : List V} {ds : List PyData}, ImAll K G H vs ds → vs.length = ds.length
  | _, _, .nil => rfl
  | _, _, .cons _ t => congrArg (· + 1) (ImAll.len t)
theorem ImAll.get : ∀ {vs : List V} {ds : List PyData} {i : Nat} {d : PyData}, ImAll K G H vs ds → ds[i]? = some d → ∃ v, vs[i]? = some v ∧ Im K G H v d
  | _, _, _, _, .nil, e => by simp at e
  | _, _, 0, _, .cons r _, e => by simp at e; subst e; exact ⟨_, rfl, r⟩
  | _, _, i + 1, _, .cons _ t, e => by
    obtain ⟨u, h1, h2⟩ := ImAll.get (i := i) t (by simpa using e)
    exact ⟨u, by simpa using h1, h2⟩
theorem ImAll.getV : ∀ {vs : List V} {ds : List PyData} {i : Nat} {v : V}, ImAll K G H vs ds → vs[i]? = some v → ∃ d, ds[i]? = some d ∧ Im K G H v d
  | _, _, _, _, .nil, e => by simp at e
  | _, _, 0, _, .cons r _, e => by simp at e; subst e; exact ⟨_, rfl, r⟩
  | _, _, i + 1, _, .cons _ t, e => by
    obtain ⟨u, h1, h2⟩ := ImAll.getV (i := i) t (by simpa using e)
    exact ⟨u, by simpa using h1, h2⟩
theorem ImAll.snoc : ∀ {vs : List V} {ds : List PyData} {v : V} {d : PyData}, ImAll K G H vs ds → Im K G H v d → ImAll K G H (vs ++ [v]) (ds ++ [d])
  | _, _, _, _, .nil, r => .cons r .nil
  | _, _, _, _, .cons q t, r => .cons q (ImAll.snoc t r)
theorem ImAll.app : ∀ {vs : List V} {ds : List PyData} {us : List V} {es : List PyData}, ImAll K G H vs ds → ImAll K G H us es → ImAll K G H (vs ++ us) (ds ++ es)
  | _, _, _, _, .nil, r => r
  | _, _, _, _, .cons q t, r => .cons q (ImAll.app t r)
end
section
variable {K : PySem.W.Frag} {H : Hp}
theorem DpAll.len : ∀ {vs : List V} {ds : List PyData}, DpAll K H vs ds → vs.length = ds.length
  | _, _, .nil => rfl
  | _, _, .cons _ t => congrArg (· + 1) (DpAll.len t)
theorem DpAll.get : ∀ {vs : List V} {ds : List PyData} {i : Nat} {d : PyData}, DpAll K H vs ds → ds[i]? = some d → ∃ v, vs[i]? = some v ∧ Dp K H v d
  | _, _, _, _, .nil, e => by simp at e
  | _, _, 0, _, .cons r _, e => by simp at e; subst e; exact ⟨_, rfl, r⟩
  | _, _, i + 1, _, .cons _ t, e => by
    obtain ⟨u, h1, h2⟩ := DpAll.get (i := i) t (by simpa using e)
    exact ⟨u, by simpa using h1, h2⟩
/-- the name of a value's class -/
def tyN : PyData → String
  | .none => "NoneType" | .bool _ => "bool" | .int _ => "int" | .str _ => "str" | .list _ => "list" | .tuple _ => "tuple" | .dict _ => "dict"
theorem tyx_of : ∀ {x : V} {d : PyData}, Dp K H x d → TyX K H x (.type (tyN d))
  | _, _, .non => .base .non
  | _, _, .bl b => .base (.bl b)
  | _, _, .int i => .base (.int i)
  | _, _, .str x => .base (.str x)
  | _, _, .lst h _ => by
    rcases h with (h | ⟨o, h⟩) | ⟨o, its, n, hk, hc, _⟩
    · exact .base (.lst h)
    · exact .base (.frz h)
    · exact .kList hk hc
  | _, _, .tup h _ => by
    rcases h with (h | ⟨o, h⟩) | ⟨o, its, n, hk, hc, _⟩
    · exact .base (.tup h)
    · exact .fTuple h
    · exact .kTuple hk hc
def isI : PyData → Bool
  | .int _ => true | .bool _ => true | _ => false
def isB : PyData → Bool
  | .bool _ => true | _ => false
def isS : PyData → Bool
  | .str _ => true | _ => false
def isT : PyData → Bool
  | .tuple _ => true | _ => false
def isL : PyData → Bool
  | .list _ => true | _ => false
theorem kitI (d : PyData) : kitB (tyN d) "int" = some (isI d) := by cases d <;> (show kitB _ "int" = _; simp only [tyN, isI]; decide +kernel)
theorem kitBo (d : PyData) : kitB (tyN d) "bool" = some (isB d) := by cases d <;> (show kitB _ "bool" = _; simp only [tyN, isB]; decide +kernel)
theorem kitS (d : PyData) : kitB (tyN d) "str" = some (isS d) := by cases d <;> (show kitB _ "str" = _; simp only [tyN, isS]; decide +kernel)
theorem kitT (d : PyData) : kitB (tyN d) "tuple" = some (isT d) := by cases d <;> (show kitB _ "tuple" = _; simp only [tyN, isT]; decide +kernel)
theorem kitL (d : PyData) : kitB (tyN d) "list" = some (isL d) := by cases d <;> (show kitB _ "list" = _; simp only [tyN, isL]; decide +kernel)
theorem isi_int {x : V} {d : PyData} {Q : VK} (h : Dp K H x d) (q : Q (.bl (isI d)) H) : rIsi K [x, .ty "int"] H Q := ⟨x, .ty "int", _, _, _, rfl, .ty _, tyx_of h, kit_ty (kitI d), q⟩
theorem isi_bool {x : V} {d : PyData} {Q : VK} (h : Dp K H x d) (q : Q (.bl (isB d)) H) : rIsi K [x, .ty "bool"] H Q := ⟨x, .ty "bool", _, _, _, rfl, .ty _, tyx_of h, kit_ty (kitBo d), q⟩
theorem isi_str {x : V} {d : PyData} {Q : VK} (h : Dp K H x d) (q : Q (.bl (isS d)) H) : rIsi K [x, .ty "str"] H Q := ⟨x, .ty "str", _, _, _, rfl, .ty _, tyx_of h, kit_ty (kitS d), q⟩
theorem isi_tup {x : V} {d : PyData} {Q : VK} (h : Dp K H x d) (q : Q (.bl (isT d)) H) : rIsi K [x, .ty "tuple"] H Q := ⟨x, .ty "tuple", _, _, _, rfl, .ty _, tyx_of h, kit_ty (kitT d), q⟩
theorem isi_list {x : V} {d : PyData} {Q : VK} (h : Dp K H x d) (q : Q (.bl (isL d)) H) : rIsi K [x, .ty "list"] H Q := ⟨x, .ty "list", _, _, _, rfl, .ty _, tyx_of h, kit_ty (kitL d), q⟩
end
/-! ### the stream of draws -/
structure Stm (H : Hp) (s l : Addr) : Prop where
  ex : ∃ (a b m : Int) (ns : List Int), H s = some (.lst [.ref l, .int a, .int b, .int m]) ∧ H l = some (.lst (ns.map V.int)) ∧ ns.length ≤ 63 ∧ 0 ≤ a ∧ 0 ≤ b ∧ 0 ≤ m ∧ m < 2147483647
theorem Stm.keep {H H' : Hp} {s l : Addr} (h : Stm H s l) (e : Same H H') : Stm H' s l := by
  obtain ⟨a, b, m, ns, h1, h2, r⟩ := h.ex
  exact ⟨a, b, m, ns, e _ _ h1, e _ _ h2, r⟩
/-- another object is changed -/
theorem Stm.put {H : Hp} {s l r : Addr} {o : HO} (h : Stm H s l) (h1 : s ≠ r) (h2 : l ≠ r) : Stm (upd H r o) s l := by
  obtain ⟨a, b, m, ns, e1, e2, q⟩ := h.ex
  exact ⟨a, b, m, ns, by rw [upd_ne h1]; exact e1, by rw [upd_ne h2]; exact e2, q⟩
theorem Stm.at_s {H : Hp} {s l : Addr} (h : Stm H s l) : ∃ o, H s = some o := by
  obtain ⟨a, b, m, ns, e1, e2, q⟩ := h.ex
  exact ⟨_, e1⟩
theorem Stm.at_l {H : Hp} {s l : Addr} (h : Stm H s l) : ∃ o, H l = some o := by
  obtain ⟨a, b, m, ns, e1, e2, q⟩ := h.ex
  exact ⟨_, e2⟩
/-- a constant of the module -/
def GV (mg : Str → Option Value) (x : Str) (v : V) : Prop := ∃ u, mg x = some u ∧ RelV v u
theorem pe_gC {X : Cx} {x : Str} {v : V} {pos : Pos} (hg : Gl X x) (h : GV X.mg x v) (hd : (x == ("__debug__" : Str)) = false := by decide) : PE X (.Name x pos) (tC v) := by
  obtain ⟨u, e, r⟩ := h
  exact pe_glob hg e r hd

/-! ### 'a' * 40 -/
section
variable {X : Cx}
theorem op_mulS : OpR X (binaryOp .Mult) (fun x y H Q => ∃ z i, x = .str z ∧ y = .int i ∧ MulOk z i ∧ Q (.str (Txt.mul z i)) H) := by
  intro pins s σ H x y v u Q I rx ry h
  obtain ⟨z, i, rfl, rfl, hk, q⟩ := h
  obtain ⟨t, rfl⟩ := rx
  obtain ⟨t', rfl⟩ := ry
  exact SB.mul hk fun t2 k => ⟨.str _, H, I.tok k, ⟨_, rfl⟩, q⟩
end
/-! ### data written out: each part of it is new -/
section
variable {K : PySem.W.Frag}
/-- an expression that makes data and changes nothing else -/
def Lit (K : PySem.W.Frag) (σ : L2.St) (t : TE) (d : PyData) : Prop := ∀ (H : Hp) (Q : VK), (∀ v H', Same H H' → Im K (fun b => H b = Option.none) H' v d → Q v H') → t σ H Q
def LitA (K : PySem.W.Frag) (σ : L2.St) (t : TA) (ds : List PyData) : Prop := ∀ (H : Hp) (Q : List V → Hp → Prop), (∀ vs H', Same H H' → ImAll K (fun b => H b = Option.none) H' vs ds → Q vs H') → t σ H Q
variable {σ : L2.St}
theorem lit_int {i : Int} : Lit K σ (tC (.int i)) (.int i) := fun H Q h => h _ H (Same.refl H) (.int i)
theorem lit_str {x : Str} : Lit K σ (tC (.str x)) (.str x) := fun H Q h => h _ H (Same.refl H) (.str x)
theorem lit_bl {b : Bool} : Lit K σ (tC (.bl b)) (.bool b) := fun H Q h => h _ H (Same.refl H) (.bl b)
theorem lit_non : Lit K σ (tC .non) .none := fun H Q h => h _ H (Same.refl H) .non
theorem litA_nil : LitA K σ tNil [] := fun H Q h => h _ H (Same.refl H) .nil
theorem litA_cons {t : TE} {ta : TA} {d : PyData} {ds : List PyData} (h1 : Lit K σ t d) (h2 : LitA K σ ta ds) : LitA K σ (tCons t ta) (d :: ds) := fun H Q h =>
  h1 H _ fun v H1 s1 i1 => h2 H1 _ fun vs H2 s2 i2 => h _ H2 (s1.trans s2) (.cons (Im.mono (fun b o _ e => s2 b o e) (fun _ e => e) _ _ i1) (Im.monoAll (fun _ _ _ e => e) (fun b e => s1.free e) _ _ i2))
theorem lit_tup {ta : TA} {ds : List PyData} (h1 : LitA K σ ta ds) (hz : ds.length ≤ sizeLine) : Lit K σ (tTup ta) (.tuple ds) := fun H Q h =>
  h1 H _ fun vs H1 s1 i1 => ⟨by rw [i1.len]; exact hz, fun p np => h _ _ (s1.trans (same_upd np)) (.tup (s1.free np) upd_same (Im.monoAll (fun b o _ e => same_upd np b o e) (fun _ e => e) _ _ i1))⟩
theorem lit_lst {ta : TA} {ds : List PyData} (h1 : LitA K σ ta ds) (hz : ds.length ≤ sizeLine) : Lit K σ (tLst ta) (.list ds) := fun H Q h =>
  h1 H _ fun vs H1 s1 i1 => ⟨by rw [i1.len]; exact hz, fun p np => h _ _ (s1.trans (same_upd np)) (.lst (s1.free np) upd_same (Im.monoAll (fun b o _ e => same_upd np b o e) (fun _ e => e) _ _ i1))⟩
/-- what is an int -/
theorem lit_neg {t : TE} {i : Int} (h1 : Lit K σ t (.int i)) : Lit K σ (tUn (rU fun i => .int (-i)) t) (.int (-i)) := fun H Q h =>
  h1 H _ fun v H1 s1 i1 => by
    cases i1
    exact ⟨_, rfl, h _ H1 s1 (.int _)⟩
theorem lit_sub {t u : TE} {i j : Int} (h1 : Lit K σ t (.int i)) (h2 : Lit K σ u (.int j)) : Lit K σ (tOp (rI0 fun i j => .int (i - j)) t u) (.int (i - j)) := fun H Q h =>
  h1 H _ fun v H1 s1 i1 => h2 H1 _ fun v2 H2 s2 i2 => by
    cases i1
    cases i2
    exact ⟨_, _, rfl, rfl, h _ H2 (s1.trans s2) (.int _)⟩
theorem lit_pow {t u : TE} {i j : Int} (h1 : Lit K σ t (.int i)) (h2 : Lit K σ u (.int j)) (hc : CPow i j) : Lit K σ (tOp (rI CPow fun i j => .int (i ^ j.toNat)) t u) (.int (i ^ j.toNat)) := fun H Q h =>
  h1 H _ fun v H1 s1 i1 => h2 H1 _ fun v2 H2 s2 i2 => by
    cases i1
    cases i2
    exact ⟨_, _, rfl, rfl, hc, h _ H2 (s1.trans s2) (.int _)⟩
theorem lit_mulS {t u : TE} {z : Str} {j : Int} (h1 : Lit K σ t (.str z)) (h2 : Lit K σ u (.int j)) (hc : MulOk z j) : Lit K σ (tOp (fun x y H Q => ∃ z i, x = .str z ∧ y = .int i ∧ MulOk z i ∧ Q (.str (Txt.mul z i)) H) t u) (.str (Txt.mul z j)) := fun H Q h =>
  h1 H _ fun v H1 s1 i1 => h2 H1 _ fun v2 H2 s2 i2 => by
    cases i1
    cases i2
    exact ⟨_, _, rfl, rfl, hc, h _ H2 (s1.trans s2) (.str _)⟩
end
section
variable {X : Cx} {pos : Pos}
/-- a built-in class as a value -/
theorem pe_ty {x : Str} (n : String) (hg : Gl X x) (hm : X.mg x = Option.none) (hv : bootBuiltins x = some (.type n)) (hn : x ≠ "__name__" := by decide) (hd : (x == ("__debug__" : Str)) = false := by decide) : PE X (.Name x pos) (tC (.ty n)) :=
  pe_bltn hg hm hv rfl hn hd
end
section
variable {K : PySem.W.Frag} {H H' : Hp}
theorem same_sqT {a : Addr} {xs : List V} (e : Same H H') (h : SqT K H a xs) : SqT K H' a xs := by
  rcases h with (h | ⟨o, h⟩) | h
  · exact .inl (.inl (e _ _ h))
  · exact .inl (.inr ⟨o, e _ _ h⟩)
  · exact .inr h
mutual
theorem dp_same (e : Same H H') : ∀ (d : PyData) (v : V), Dp K H v d → Dp K H' v d
  | .none, _, h => by cases h; exact .non
  | .bool b, _, h => by cases h; exact .bl b
  | .int i, _, h => by cases h; exact .int i
  | .str x, _, h => by cases h; exact .str x
  | .list ds, _, h => by
    cases h with
    | lst g ha => exact .lst (e.seq g) (dp_sameAll e ds _ ha)
  | .tuple ds, _, h => by
    cases h with
    | tup g ha => exact .tup (same_sqT e g) (dp_sameAll e ds _ ha)
  | .dict _, _, h => by cases h
theorem dp_sameAll (e : Same H H') : ∀ (ds : List PyData) (vs : List V), DpAll K H vs ds → DpAll K H' vs ds
  | [], _, h => by cases h; exact .nil
  | d :: ds, _, h => by
    cases h with
    | cons h1 h2 => exact .cons (dp_same e d _ h1) (dp_sameAll e ds _ h2)
end
end
theorem small_of {n : Nat} (h : n ≤ 1000) : n ≤ sizeLine := Nat.le_of_lt (small1000 h)
theorem seq_asg {te : TE} {g : TG} {u : TS} {D : Ends} {σ : L2.St} {H : Hp} (h : te σ H fun x H1 => g x σ H1 (u D)) : tSeq (tAsg te g) u D σ H := h
theorem gname {i : Nat} {v : V} {σ : L2.St} {H : Hp} {Q : L2.St → Hp → Prop} (h : Q (σ.set i (some v)) H) : gName i v σ H Q := h
theorem nxp {N : L2.St → Hp → Prop} {R : VK} {B C : L2.St → Hp → Prop} {σ : L2.St} {H : Hp} (h : N σ H) : ({ nx := N, rt := R, bk := B, ct := C } : Ends).nx σ H := h
theorem seq_if {c : TT} {t t2 : TS} {u : TS} {D : Ends} {σ : L2.St} {H : Hp} (h : c σ H fun b H1 => if b = true then t { D with nx := u D } σ H1 else t2 { D with nx := u D } σ H1) : tSeq (tIfS c t t2) u D σ H := h
theorem seq_ifN {c : TT} {t : TS} {u : TS} {D : Ends} {σ : L2.St} {H : Hp} (h : c σ H fun b H1 => if b = true then t { D with nx := u D } σ H1 else u D σ H1) : tSeq (tIfS c t tNext) u D σ H := h
theorem seq_any {t : TS} {u : TS} {D : Ends} {σ : L2.St} {H : Hp} (h : t { D with nx := u D } σ H) : tSeq t u D σ H := h
theorem asg1 {te : TE} {g : TG} {D : Ends} {σ : L2.St} {H : Hp} (h : te σ H fun x H1 => g x σ H1 D.nx) : tAsg te g D σ H := h
section
variable {K : PySem.W.Frag} {G G' : Addr → Prop} {H H' : Hp}
mutual
theorem Im.mono2 (hH : ∀ b o, G b → H b = some o → H' b = some o) (hG : ∀ b o, H b = some o → G b → G' b) : ∀ (d : PyData) (v : V), Im K G H v d → Im K G' H' v d
  | .none, _, h => by cases h; exact .non
  | .bool b, _, h => by cases h; exact .bl b
  | .int i, _, h => by cases h; exact .int i
  | .str x, _, h => by cases h; exact .str x
  | .list ds, _, h => by
    cases h with
    | lst g e ha => exact .lst (hG _ _ e g) (hH _ _ g e) (Im.mono2All hH hG ds _ ha)
  | .tuple ds, _, h => by
    cases h with
    | tup g e ha => exact .tup (hG _ _ e g) (hH _ _ g e) (Im.mono2All hH hG ds _ ha)
  | .dict _, _, h => by cases h
theorem Im.mono2All (hH : ∀ b o, G b → H b = some o → H' b = some o) (hG : ∀ b o, H b = some o → G b → G' b) : ∀ (ds : List PyData) (vs : List V), ImAll K G H vs ds → ImAll K G' H' vs ds
  | [], _, h => by cases h; exact .nil
  | d :: ds, _, h => by
    cases h with
    | cons h1 h2 => exact .cons (Im.mono2 hH hG d _ h1) (Im.mono2All hH hG ds _ h2)
end
end
theorem join_set {c : Prop} [Decidable c] {v : V} {i : Nat} {u : TS} {D : Ends} {σ : L2.St} {H : Hp} (P : L2.St → Prop) (h : ∀ σ2, P σ2 → u D σ2 H) (h1 : c → P (σ.set i (some v))) (h2 : ¬ c → P σ) :
    if c then tAsg (tC v) (gName i) { D with nx := u D } σ H else u D σ H := by
  by_cases hc : c
  · rw [if_pos hc]
    exact h _ (h1 hc)
  · rw [if_neg hc]
    exact h _ (h2 hc)
/-- a constant tuple of the module, by its data -/
def GC (K : PySem.W.Frag) (mg : Str → Option Value) (x : Str) (d : PyData) : Prop := ∃ (u : Value) (v : V), mg x = some u ∧ RelV v u ∧ Dp K (fun _ => Option.none) v d
theorem none_same (H : Hp) : Same (fun _ => Option.none) H := fun _ _ e => nomatch e
theorem kt_of {K : PySem.W.Frag} {a : Addr} {its : Array Value} {n : Nat} {dd : Option Addr} {sl : Array (Option Value)} {xs : List V} {ds : List PyData} (h : K.lookup a = some ⟨.type "tuple", dd, .seq its n, sl⟩) (hz : its.size ≤ 1000) (hv : Vals xs its.toList) (ha : DpAll K (fun _ => Option.none) xs ds) :
    Dp K (fun _ => Option.none) (.ref a) (.tuple ds) := .tup (.inr ⟨_, its, n, h, rfl, rfl, Nat.le_trans hz (by decide), hv⟩) ha
/-! ### list.extend(tuple) -/
section
open Builtin
theorem extT (l b : Addr) (xs ys : Array Value) (n k : Nat) (dd : Option Addr) (sl : Array (Option Value)) (hlong : ¬(!xs.isEmpty && Builtin.List.listTooLong (xs.size + ys.size)) = true) (h1 : xs.size ≤ sizeLine) (h2 : xs.size + ys.size ≤ sizeLine + 1) :
    Meets (Builtin.«list.extend» ⟨[.ref l, .ref b], []⟩) (fun _ R s => s.heap.get? l = some { cls := .type "list", dict := none, data := .seq xs n, slots := #[] } ∧ s.heap.get? b = some { cls := .type "tuple", dict := dd, data := .seq ys k, slots := sl } ∧ R (.ok (.ret Value.none)) { s with heap := s.heap.update l (Obj.mapSeq fun x => x ++ ys), toks := s.toks }) := by
  refine .of_wp fun prog w A R s h => ?_
  obtain ⟨hp, g, d, tk, os⟩ := s
  obtain ⟨ea, eb, q⟩ := h
  have i1 := AutoSeq1.idx_int
  have i2 := AutoSeq1.sub_tuple_tuple
  have i3 := AutoSeq1.sub_list_list
  have i4 := AutoSeq1.sub_tuple_list
  have i5 := AutoSeq1.sub_list_tuple
  have hz : (xs ++ ys).size ≤ sizeLine + 1 := by rw [Array.size_append]; exact h2
  wp_walk using (wpAny_updateSeq ea rfl (hz := h1) (_hz' := hz)), AutoSeq1.wpAny_loadPart' ea, AutoSeq1.wpAny_loadPart' eb
  exact ⟨_, rfl, q⟩
end
section
variable {X : Cx}
def rExtT (K : PySem.W.Frag) : V → List V → Hp → VK → Prop := fun x vs H Q => ∃ l b xs zs, x = .ref l ∧ vs = [.ref b] ∧ H l = some (.lst xs) ∧ SqT K H b zs ∧ xs.length + zs.length ≤ sizeLine ∧ Q .non (upd H l (.lst (xs ++ zs)))
theorem mt_extT : MtR X "list.extend" (rExtT X.K) := by
  intro pins s σ H x vs v us Q I rx rv h
  obtain ⟨l, b, xs, zs, rfl, rfl, hH, hB, hz, q⟩ := h
  cases rx
  obtain ⟨u, rfl, ru⟩ := rv.one
  cases ru
  obtain ⟨z, its, n, r, hl, e⟩ := I.lstM hH
  obtain ⟨its2, r2, ⟨⟨oc, od, dt, sl⟩, e2, ec, k2, ed⟩, _⟩ := I.tuple hB
  simp only at ec ed
  subst ec ed
  have z1 := r.length
  have z2 := r2.length
  have hsz : its.toArray.size + its2.toArray.size ≤ sizeLine := by rw [List.size_toArray, List.size_toArray]; omega
  have nl : ¬ (!its.toArray.isEmpty && Builtin.List.listTooLong (its.toArray.size + its2.toArray.size)) = true := by
    rw [notLongL hsz, Bool.and_false]
    exact Bool.false_ne_true
  refine call_meets F.slot_list_extend ⟨_, e, rfl⟩ F.entry_list_extend (F.args_list_extend_2 _ _) (extT l b its.toArray its2.toArray n k2 od sl nl (by rw [List.size_toArray]; omega) (by omega)) ⟨e, e2, ?_⟩
  refine ⟨.non, _, I.lset (its' := its ++ its2) hH e (by simp) (r.append r2) ?_, rfl, q⟩
  rw [List.length_append]
  omega
/-! ### x in (a, b, ..), data of any depth -/
def rInT (K : PySem.W.Frag) : R2 := fun x y H Q => ∃ d ds, Dp K H x d ∧ Dp K H y (.tuple ds) ∧ SeqAt.shaped d = true ∧ SeqAt.shaped (.tuple ds) = true ∧ Q (.bl (ds.any fun z => PyData.eqv z d)) H
def rNotInT (K : PySem.W.Frag) : R2 := fun x y H Q => ∃ d ds, Dp K H x d ∧ Dp K H y (.tuple ds) ∧ SeqAt.shaped d = true ∧ SeqAt.shaped (.tuple ds) = true ∧ Q (.bl (!ds.any fun z => PyData.eqv z d)) H
theorem op_inT (hu : X.A.units + 65 < cLine) : OpR X (compareOp .In) (rInT X.K) := by
  intro pins s σ H x y v u Q I rx ry h
  obtain ⟨d, ds, hd, he, sd, se, q⟩ := h
  obtain ⟨as, r1⟩ := Dp.reads I d x v hd rx
  obtain ⟨bs, r2⟩ := Dp.reads I (.tuple ds) y u he ry
  exact SeqAt.in_tuple_reads r2 r1 (SeqAt.canLay_of_shaped se) (SeqAt.canLay_of_shaped sd) (room_in_shaped sd hu) ⟨.bl _, H, I, rfl, q⟩
theorem op_notInT (hu : X.A.units + 65 < cLine) : OpR X (compareOp .NotIn) (rNotInT X.K) := by
  intro pins s σ H x y v u Q I rx ry h
  obtain ⟨d, ds, hd, he, sd, se, q⟩ := h
  obtain ⟨as, r1⟩ := Dp.reads I d x v hd rx
  obtain ⟨bs, r2⟩ := Dp.reads I (.tuple ds) y u he ry
  exact SeqAt.notIn_tuple_reads r2 r1 (SeqAt.canLay_of_shaped se) (SeqAt.canLay_of_shaped sd) (room_in_shaped sd hu) ⟨.bl _, H, I, rfl, q⟩
theorem units65 {k : Nat} {A : Around} (r : Room k A) : A.units + 65 < cLine := by
  have := r.un
  omega
end
section
variable {K : PySem.W.Frag} {H : Hp}
theorem DpAll.dropt : ∀ {xs : List V} {ds : List PyData} (n : Nat), DpAll K H xs ds → DpAll K H (xs.drop n) (ds.drop n)
  | _, _, 0, r => r
  | _, _, _ + 1, .nil => .nil
  | _, _, n + 1, .cons _ t => DpAll.dropt n t
theorem DpAll.taket : ∀ {xs : List V} {ds : List PyData} (n : Nat), DpAll K H xs ds → DpAll K H (xs.take n) (ds.take n)
  | _, _, 0, _ => .nil
  | _, _, _ + 1, .nil => .nil
  | _, _, n + 1, .cons r t => .cons r (DpAll.taket n t)
theorem DpAll.app : ∀ {xs ys : List V} {ds es : List PyData}, DpAll K H xs ds → DpAll K H ys es → DpAll K H (xs ++ ys) (ds ++ es)
  | _, _, _, _, .nil, r => r
  | _, _, _, _, .cons q t, r => .cons q (DpAll.app t r)
theorem DpAll.getV : ∀ {vs : List V} {ds : List PyData} {i : Nat} {v : V}, DpAll K H vs ds → vs[i]? = some v → ∃ d, ds[i]? = some d ∧ Dp K H v d
  | _, _, _, _, .nil, e => by simp at e
  | _, _, 0, _, .cons r _, e => by simp at e; subst e; exact ⟨_, rfl, r⟩
  | _, _, i + 1, _, .cons _ t, e => by
    obtain ⟨u, h1, h2⟩ := DpAll.getV (i := i) t (by simpa using e)
    exact ⟨u, by simpa using h1, h2⟩
end
/-- a part of a tuple, also the whole -/
theorem cut_nat (xs : List V) (i j : Nat) (h1 : i ≤ xs.length) (h2 : j ≤ xs.length) : cutV xs (some (i : Int)) (some (j : Int)) = (xs.drop i).take (j - i) := by
  unfold cutV
  rw [HT.sIx_nat, HT.sIx_nat, Nat.min_eq_left h1, Nat.min_eq_left h2]
theorem slA_nat {K : PySem.W.Frag} {H : Hp} {a : Addr} {xs : List V} {i j : Nat} {Q : VK} (hs : SqT K H a xs) (h1 : i ≤ xs.length) (h2 : j ≤ xs.length) (h : ∀ b H', Same H H' → SqT K H' b ((xs.drop i).take (j - i)) → (∀ c, H c = Option.none → c ≠ b → H' c = Option.none) → Q (.ref b) H') :
    rSlA K (.ref a) (some (i : Int)) (some (j : Int)) H Q := by
  refine ⟨a, xs, rfl, hs, fun z => ?_, fun z p np => ?_⟩
  · rw [HT.sIx_nat, HT.sIx_nat, Nat.min_eq_left h1, Nat.min_eq_left h2] at z
    refine h a H (Same.refl H) ?_ fun _ e _ => e
    rw [z.1, z.2, List.drop_zero, Nat.sub_zero, List.take_length]
    exact hs
  · rw [cut_nat xs i j h1 h2]
    exact h p _ (same_upd np) (SqT.of upd_same) fun c e hc => by rw [upd_ne hc]; exact e
theorem cat_dp {K : PySem.W.Frag} {H : Hp} {x y : V} {ds es : List PyData} {Q : VK} (hx : Dp K H x (.tuple ds)) (hy : Dp K H y (.tuple es)) (hne : ds ≠ []) (hz : ds.length + es.length ≤ 1000) (h : ∀ v H', Same H H' → Dp K H' v (.tuple (ds ++ es)) → Q v H') : rCatT K x y H Q := by
  cases hx with
  | @tup a xs _ sx ax =>
  cases hy with
  | @tup b ys _ sy ay =>
  have lx := DpAll.len ax
  have ly := DpAll.len ay
  refine ⟨a, b, xs, ys, rfl, rfl, sx, sy, fun z => ?_, small_of (by omega), fun z => ?_, fun z p np => ?_⟩
  · rw [z] at lx
    exact hne (List.eq_nil_of_length_eq_zero lx.symm)
  · subst z
    cases ay
    rw [List.append_nil] at h
    exact h _ H (Same.refl H) (.tup sx ax)
  · exact h _ _ (same_upd np) (.tup (SqT.of upd_same) (dp_sameAll (same_upd np) _ _ (DpAll.app ax ay)))
theorem cut_from1 (v : V) (xs : List V) : cutV (v :: xs) (some 1) Option.none = xs := by
  unfold cutV
  rw [show (some (1 : Int)) = some ((1 : Nat) : Int) from rfl, HT.sIx_nat, HT.sIx_none, List.length_cons, Nat.min_eq_left (by omega), List.drop_succ_cons, List.drop_zero, Nat.add_sub_cancel]
  exact List.take_length
section
variable {σ : L2.St} {H : Hp}
theorem args1 {t : TE} {ta : TA} {Q : List V → Hp → Prop} (h : t σ H fun x H1 => ta σ H1 fun xs H2 => Q (x :: xs) H2) : tCons t ta σ H Q := h
theorem tup_of {ta : TA} {Q : VK} (h : ta σ H fun xs H1 => xs.length ≤ sizeLine ∧ ∀ p, H1 p = Option.none → Q (.ref p) (upd H1 p (.tup xs))) : tTup ta σ H Q := h
theorem const_of {v : V} {Q : VK} (h : Q v H) : tC v σ H Q := h
theorem op_of {r : R2} {ta tb : TE} {Q : VK} (h : ta σ H fun x H1 => tb σ H1 fun y H2 => r x y H2 Q) : tOp r ta tb σ H Q := h
theorem nil_of {Q : List V → Hp → Prop} (h : Q [] H) : tNil σ H Q := h
end
section
variable {σ : L2.St} {H : Hp}
theorem call_of {sp : Sp} {dvs : List V} {E : XK} {t : TA} {Q : VK} (h : t σ H fun vs H1 => sp (vs ++ dvs) H1 Q E) : tCall sp dvs E t σ H Q := h
theorem args_and {r : R2} {sp : Sp} {dvs : List V} {E : XK} {t : TA} {tb tc : TE} {D : Ends} (h : t σ H fun vs H1 => sp (vs ++ dvs) H1 (fun x H1 => tb σ H1 fun y H2 => r x y H2 fun x H1 => ∃ c, x = .bl c ∧ if c = true then tc σ H1 D.rt else D.rt (.bl false) H1) E) : tRet (tAndV (tOp r (tCall sp dvs E t) tb) tc) D σ H := h
end
theorem relStr (x : Str) (t : Tok) : RelV (.str x) (.str x t) := ⟨_, rfl⟩
theorem relInt (i : Int) (t : Tok) : RelV (.int i) (.int i t) := ⟨_, rfl⟩
theorem relRef (a : Addr) : RelV (.ref a) (.ref a) := rfl
/-! ### a < b of data whose places are alike -/
section
variable {X : Cx}
def rLtD (K : PySem.W.Frag) : R2 := fun x y H Q => ∃ d e, Dp K H x d ∧ Dp K H y e ∧ PySem.W.alike d e = true ∧ d ≠ .none ∧ d.depth ≤ 8 ∧ Q (.bl (PySem.W.dataLt d e)) H
theorem op_ltD (hu : X.A.units + 64 < cLine) : OpR X (compareOp .Lt) (rLtD X.K) := by
  intro pins s σ H x y v u Q I rx ry h
  obtain ⟨d, e, hd, he, ha, hn, hz, q⟩ := h
  obtain ⟨as, r1⟩ := Dp.reads I d x v hd rx
  obtain ⟨bs, r2⟩ := Dp.reads I e y u he ry
  have R := PySem.W.rcLt_alike d e X.A s v u as bs r1 r2 ha hn (Nat.lt_of_le_of_lt (Nat.add_le_add_left (Nat.le_trans (Nat.min_le_left _ _) (Nat.le_trans hz (by decide : 8 ≤ 64))) _) hu)
  have z : wpAny (model X.prog X.w) X.A (compareOp .Lt v u) (EP X pins σ Q) X.xe s := R X.prog X.w X.xe (EP X pins σ Q) ⟨.bl _, H, I, rfl, q⟩
  exact z
end
/-! ### zip of two tuples -/
theorem walk_zipT {K : PySem.W.Frag} {a b : Addr} {xs ys : List V} {n : Nat} (hn : n = min xs.length ys.length) : Walk (RZ.ItzT K a b) n (fun H => SqT K H a xs ∧ SqT K H b ys) (YPair (fun i => xs[i]?) (fun i => ys[i]?)) := by
  subst hn
  refine ⟨fun i H hi q => ?_, fun H q => ⟨xs, ys, q.1, q.2, by omega⟩, fun i H v H' hi q y => ?_⟩
  · have h1 : i < xs.length := by omega
    have h2 : i < ys.length := by omega
    exact ⟨xs, ys, _, _, q.1, q.2, List.getElem?_eq_getElem h1, List.getElem?_eq_getElem h2⟩
  · obtain ⟨T, x, y, e1, e2, e3, e4, e5⟩ := y
    exact ⟨T, x, y, e1, e2, e3, e4 xs q.1, e5 ys q.2⟩
/-! ### () + t -/
section
open Builtin
theorem addE (l b : Addr) (xs ys : Array Value) (n k : Nat) (dd dd2 : Option Addr) (sl sl2 : Array (Option Value)) (he : xs.isEmpty = true) :
    Meets (Builtin.«tuple.__add__» ⟨[.ref l, .ref b], []⟩) (fun _ R s => s.heap.get? l = some { cls := .type "tuple", dict := dd, data := .seq xs n, slots := sl } ∧ s.heap.get? b = some { cls := .type "tuple", dict := dd2, data := .seq ys k, slots := sl2 } ∧ R (.ok (.ret (Value.ref b))) s) := by
  refine .of_wp fun prog w A R s h => ?_
  obtain ⟨hp, g, d, tk, os⟩ := s
  obtain ⟨ea, eb, q⟩ := h
  have i1 := AutoSeq1.idx_int
  have i2 := AutoSeq1.sub_tuple_tuple
  have i3 := AutoSeq1.sub_list_list
  have i4 := AutoSeq1.sub_tuple_list
  have i5 := AutoSeq1.sub_list_tuple
  wp_walk using AutoSeq1.wpAny_loadPart' ea, AutoSeq1.wpAny_loadPart' eb
  exact ⟨_, rfl, q⟩
end
section
variable {X : Cx}
def rCatA (K : PySem.W.Frag) : R2 := fun x y H Q => ∃ a b xs ys, x = .ref a ∧ y = .ref b ∧ SqT K H a xs ∧ SqT K H b ys ∧ xs.length + ys.length ≤ sizeLine ∧ (xs = [] → Q (.ref b) H) ∧ (ys = [] → Q (.ref a) H) ∧ ∀ p, H p = Option.none → Q (.ref p) (upd H p (.tup (xs ++ ys)))
theorem op_catA : OpR X (binaryOp .Add) (rCatA X.K) := by
  intro pins s σ H x y v u Q I rx ry h
  obtain ⟨a, b, xs, ys, rfl, rfl, ha, hb, hz, q1, q2, q3⟩ := h
  by_cases hx : xs = []
  · subst hx
    cases rx
    cases ry
    obtain ⟨its, r1, p1, _⟩ := I.tuple ha
    obtain ⟨its2, r2, p2, _⟩ := I.tuple hb
    cases r1
    obtain ⟨⟨oc, od, dt, sl⟩, e1, c1, n, d1⟩ := p1
    obtain ⟨⟨oc2, od2, dt2, sl2⟩, e2, c2, n2, d2⟩ := p2
    simp only at c1 d1 c2 d2
    subst c1 d1 c2 d2
    exact concat_meets ⟨_, e1, rfl⟩ ⟨_, e2, rfl⟩ noFill_tuple_add seq_tuple_add PySem.F.slot_tuple_add PySem.F.entry_tuple_add (PySem.F.args_tuple_add_2 _ _)
      (addE a b #[] its2.toArray n n2 od od2 sl sl2 rfl) ⟨e1, e2, ⟨.ref b, H, I, rfl, q1 rfl⟩⟩
  · exact op_catT pins s σ H (.ref a) (.ref b) v u Q I rx ry ⟨a, b, xs, ys, rfl, rfl, ha, hb, hx, hz, q2, fun _ p np => q3 p np⟩
end
section
variable {K : PySem.W.Frag} {G : Addr → Prop} {H : Hp}
theorem ImAll.dropt : ∀ {xs : List V} {ds : List PyData} (n : Nat), ImAll K G H xs ds → ImAll K G H (xs.drop n) (ds.drop n)
  | _, _, 0, r => r
  | _, _, _ + 1, .nil => .nil
  | _, _, n + 1, .cons _ t => ImAll.dropt n t
theorem ImAll.taket : ∀ {xs : List V} {ds : List PyData} (n : Nat), ImAll K G H xs ds → ImAll K G H (xs.take n) (ds.take n)
  | _, _, 0, _ => .nil
  | _, _, _ + 1, .nil => .nil
  | _, _, n + 1, .cons r t => .cons r (ImAll.taket n t)
theorem im_new {xs : List V} {ds : List PyData} {p : Addr} (np : H p = Option.none) (ia : ImAll K G H xs ds) : Im K (fun b => G b ∨ H b = Option.none) (upd H p (.tup xs)) (.ref p) (.tuple ds) :=
  .tup (.inr np) upd_same (Im.monoAll (fun b o _ e => same_upd np b o e) (fun _ g => .inl g) _ _ ia)
theorem im_cut {x : V} {ds es : List PyData} {lo hi : Option Int} {Q : VK} (iv : Im K G H x (.tuple ds)) (hc : ∀ xs : List V, ImAll K G H xs ds → ImAll K G H (cutV xs lo hi) es) (h : ∀ v H', Same H H' → (∀ b, G b ∨ H b = Option.none → G b ∨ H b = Option.none) → Im K (fun b => G b ∨ H b = Option.none) H' v (.tuple es) → Q v H') : rSlA K x lo hi H Q := by
  cases iv with
  | @tup a xs _ g e ia =>
  refine ⟨a, xs, rfl, SqT.of e, fun z => ?_, fun z p np => ?_⟩
  · have hw : cutV xs lo hi = xs := by
      unfold cutV
      rw [z.1, z.2, List.drop_zero, Nat.sub_zero, List.take_length]
    have := hc xs ia
    rw [hw] at this
    exact h _ H (Same.refl H) (fun _ q => q) (.tup (.inl g) e (Im.monoAll (fun _ _ _ e => e) (fun _ g => .inl g) _ _ this))
  · exact h _ _ (same_upd np) (fun _ q => q) (im_new np (hc xs ia))
theorem im_take {x : V} {ds : List PyData} {k : Nat} {Q : VK} (iv : Im K G H x (.tuple ds)) (hk : k ≤ ds.length) (h : ∀ v H', Same H H' → Im K (fun b => G b ∨ H b = Option.none) H' v (.tuple (ds.take k)) → Q v H') : rSlA K x Option.none (some (k : Int)) H Q :=
  im_cut iv (fun xs ia => by
    unfold cutV
    rw [HT.sIx_none, HT.sIx_nat, Nat.min_eq_left (by rw [ia.len]; exact hk), List.drop_zero, Nat.sub_zero]
    exact ImAll.taket _ ia) fun v H' s _ i => h v H' s i
theorem im_drop {x : V} {ds : List PyData} {k : Nat} {Q : VK} (iv : Im K G H x (.tuple ds)) (hk : k ≤ ds.length) (h : ∀ v H', Same H H' → Im K (fun b => G b ∨ H b = Option.none) H' v (.tuple (ds.drop k)) → Q v H') : rSlA K x (some (k : Int)) Option.none H Q :=
  im_cut iv (fun xs ia => by
    unfold cutV
    rw [HT.sIx_none, HT.sIx_nat, Nat.min_eq_left (by rw [ia.len]; exact hk), List.take_of_length_le (by rw [List.length_drop]; exact Nat.le_refl _)]
    exact ImAll.dropt _ ia) fun v H' s _ i => h v H' s i
theorem im_cat {x y : V} {ds es : List PyData} {Q : VK} (iv : Im K G H x (.tuple ds)) (iw : Im K G H y (.tuple es)) (hz : ds.length + es.length ≤ 1000) (h : ∀ v H', Same H H' → Im K (fun b => G b ∨ H b = Option.none) H' v (.tuple (ds ++ es)) → Q v H') : rCatA K x y H Q := by
  have w1 := Im.mono (G' := fun b => G b ∨ H b = Option.none) (fun _ _ _ e => e) (fun _ g => .inl g) _ _ iv
  have w2 := Im.mono (G' := fun b => G b ∨ H b = Option.none) (fun _ _ _ e => e) (fun _ g => .inl g) _ _ iw
  cases iv with
  | @tup a xs _ g e ia =>
  cases iw with
  | @tup b ys _ g2 e2 ib =>
  have l1 := ia.len
  have l2 := ib.len
  refine ⟨a, b, xs, ys, rfl, rfl, SqT.of e, SqT.of e2, small_of (by omega), fun z => ?_, fun z => ?_, fun p np => ?_⟩
  · subst z
    cases ia
    exact h _ H (Same.refl H) w2
  · subst z
    cases ib
    rw [List.append_nil] at h
    exact h _ H (Same.refl H) w1
  · exact h _ _ (same_upd np) (im_new np (ImAll.app ia ib))
end
end My

namespace My
open PySem PySem.Spec PyProof.Rows L2
/-! ### the text -/
def topS (i : Nat) : Stmt := PySem.Challenge.pw_hornbook_k04_variants.main.body.getD i (.Pass ⟨0, 0, 0, 0⟩)
abbrev s_is_variable : Stmt := topS 1
abbrev N_is_variable : List Str := ["node"]
theorem sc_is_variable : FnScope N_is_variable ["node"] (defScope s_is_variable) := ⟨rfl, rfl, rfl, by decide +kernel, rfl, by decide +kernel, by decide +kernel⟩
abbrev s_variables : Stmt := topS 2
abbrev N_variables : List Str := ["term", "found", "node"]
theorem sc_variables : FnScope N_variables ["term"] (defScope s_variables) := ⟨rfl, rfl, rfl, by decide +kernel, rfl, by decide +kernel, by decide +kernel⟩
abbrev s_renumber : Stmt := topS 3
abbrev N_renumber : List Str := ["term", "first", "names", "nodes", "node"]
theorem sc_renumber : FnScope N_renumber ["term", "first"] (defScope s_renumber) := ⟨rfl, rfl, rfl, by decide +kernel, rfl, by decide +kernel, by decide +kernel⟩
abbrev s_are_variants : Stmt := topS 4
abbrev N_are_variants : List Str := ["left", "right"]
theorem sc_are_variants : FnScope N_are_variants ["left", "right"] (defScope s_are_variants) := ⟨rfl, rfl, rfl, by decide +kernel, rfl, by decide +kernel, by decide +kernel⟩
abbrev s__law_stream : Stmt := topS 6
abbrev N__law_stream : List Str := ["script", "mixed", "cell"]
theorem sc__law_stream : FnScope N__law_stream ["script"] (defScope s__law_stream) := ⟨rfl, rfl, rfl, by decide +kernel, rfl, by decide +kernel, by decide +kernel⟩
abbrev s__law_draw : Stmt := topS 7
abbrev N__law_draw : List Str := ["stream", "many", "value"]
theorem sc__law_draw : FnScope N__law_draw ["stream", "many"] (defScope s__law_draw) := ⟨rfl, rfl, rfl, by decide +kernel, rfl, by decide +kernel, by decide +kernel⟩
abbrev s__law_name : Stmt := topS 8
abbrev N__law_name : List Str := ["stream", "names", "signs", "k"]
theorem sc__law_name : FnScope N__law_name ["stream"] (defScope s__law_name) := ⟨rfl, rfl, rfl, by decide +kernel, rfl, by decide +kernel, by decide +kernel⟩
abbrev s__law_leaf : Stmt := topS 9
abbrev N__law_leaf : List Str := ["stream", "widest", "pick"]
theorem sc__law_leaf : FnScope N__law_leaf ["stream", "widest"] (defScope s__law_leaf) := ⟨rfl, rfl, rfl, by decide +kernel, rfl, by decide +kernel, by decide +kernel⟩
abbrev s__law_term : Stmt := topS 10
abbrev N__law_term : List Str := ["stream", "size", "widest", "nodes", "missing", "room", "arity"]
theorem sc__law_term : FnScope N__law_term ["stream", "size", "widest"] (defScope s__law_term) := ⟨rfl, rfl, rfl, by decide +kernel, rfl, by decide +kernel, by decide +kernel⟩
abbrev s__law_numbers : Stmt := topS 11
abbrev N__law_numbers : List Str := ["term", "found", "node"]
theorem sc__law_numbers : FnScope N__law_numbers ["term"] (defScope s__law_numbers) := ⟨rfl, rfl, rfl, by decide +kernel, rfl, by decide +kernel, by decide +kernel⟩
abbrev s__law_mapped : Stmt := topS 12
abbrev N__law_mapped : List Str := ["term", "table", "nodes", "node"]
theorem sc__law_mapped : FnScope N__law_mapped ["term", "table"] (defScope s__law_mapped) := ⟨rfl, rfl, rfl, by decide +kernel, rfl, by decide +kernel, by decide +kernel⟩
abbrev s__law_variants : Stmt := topS 13
abbrev N__law_variants : List Str := ["left", "right", "pairs", "k", "a", "b", "one", "two"]
theorem sc__law_variants : FnScope N__law_variants ["left", "right"] (defScope s__law_variants) := ⟨rfl, rfl, rfl, by decide +kernel, rfl, by decide +kernel, by decide +kernel⟩
abbrev s_law : Stmt := topS 14
abbrev N_law : List Str := ["script", "stream", "left", "table", "numbers", "step", "k", "right", "first", "term", "due", "found", "names", "plain", "pair", "actual"]
theorem sc_law : FnScope N_law ["script"] (defScope s_law) := ⟨rfl, rfl, rfl, by decide +kernel, rfl, by decide +kernel, by decide +kernel⟩
/-- a def with defaults -/
def HasD (P : Program) (w : World) (K : PySem.W.Frag) (mg : Str → Option Value) (base : Heap) (k : Nat) (x : Str) (ps : List Str) (dvs : List V) (sp : Sp) : Prop :=
  ∃ (f : Addr) (fd : FuncData), FnOk P w K mg base CX0 k f fd ps sp ∧ mg x = some (.ref f) ∧ PySem.W.keepIn K (.ref f) = true ∧ (∃ ds, Vals dvs ds ∧ Binds K fd ps ds) ∧ ∃ ds, Vals ([] : List V) ds ∧ Binds K fd ps ds
/-- names that the top leaves to the built-ins, and its constants -/
structure Bi (K : PySem.W.Frag) (mg : Str → Option Value) : Prop where
  b_abs : mg "abs" = Option.none
  b_bool : mg "bool" = Option.none
  b_int : mg "int" = Option.none
  b_isinstance : mg "isinstance" = Option.none
  b_len : mg "len" = Option.none
  b_list : mg "list" = Option.none
  b_min : mg "min" = Option.none
  b_range : mg "range" = Option.none
  b_tuple : mg "tuple" = Option.none

/-! ### names, nodes, terms -/
def okSign (c : Nat) : Bool := decide (32 ≤ c) && decide (c ≤ 126) && !decide (c = 37)
def okName (x : Str) : Bool := decide (1 ≤ x.length) && decide (x.length ≤ 40) && x.cps.toList.all okSign
def names20 : List Str := ["a", "b", "f", "g", "hello", "[]", "+", "-", ",", "it's", "X", "a b", "{}", ".", "=", "'", "aB_1", "!", "0", "lvjkuwnd"]
def signs : Str := (Str.ofString " !\"#$&'()*+,-./0123456789:;<=>?@ABCDEFGHIJKLMNOPQRSTUVWXYZ[\\]^_`") ++ (Str.ofString "abcdefghijklmnopqrstuvwxyz{|}~")
theorem names20_ok : names20.all okName = true := by decide +kernel
theorem signs_ok : signs.cps.toList.all okSign = true := by decide +kernel
theorem signs_len : signs.length = 94 := by decide +kernel
theorem join_ones (e : Str) (he : e.cps = #[]) : ∀ cs : List Nat, (Str.join e (cs.map fun c => ⟨#[c]⟩)).cps.toList = cs
  | [] => rfl
  | [c] => rfl
  | c :: d :: r => by
    have ih := join_ones e he (d :: r)
    show ((⟨#[c]⟩ : Str) ++ e ++ Str.join e ((d :: r).map fun c => (⟨#[c]⟩ : Str))).cps.toList = c :: d :: r
    show (#[c] ++ e.cps ++ (Str.join e ((d :: r).map fun c => (⟨#[c]⟩ : Str))).cps).toList = c :: d :: r
    rw [he, Array.toList_append, ih]
    rfl
inductive Nd (wd : Int) : PyData → Prop
  | v (n : Int) : 0 ≤ n → n < wd → Nd wd (.tuple [.str "v", .int n])
  | i (n : Int) : -(10 ^ 40) < n → n < 10 ^ 40 → Nd wd (.int n)
  | f (x : Str) (n : Int) : okName x = true → 0 ≤ n → n ≤ 8 → Nd wd (.tuple [.str "f", .str x, .int n])
def arN : PyData → Nat
  | .tuple [_, _, c] => (match c with | .int n => n.toNat | _ => 0) | _ => 0
/-- from m missing terms on, the nodes are just these terms -/
def Cls : Nat → List PyData → Prop
  | m, [] => m = 0
  | m, d :: r => 0 < m ∧ Cls (m - 1 + arN d) r
structure Term (wd : Int) (ds : List PyData) : Prop where
  cl : Cls 1 ds
  nd : ∀ d ∈ ds, Nd wd d
/-! ### the promises -/
def sp__law_stream (K : PySem.W.Frag) : Sp := fun vs H Q _ => ∃ (a : Addr) (ns : List Int), vs = [.ref a] ∧ SqL K H a (ns.map V.int) ∧ ns.length ≤ 63 ∧ ∀ s l H', H s = Option.none → H l = Option.none → Same H H' → Stm H' s l → Q (.ref s) H'
def sp__law_draw (K : PySem.W.Frag) : Sp := fun vs H Q _ => ∃ (s l : Addr) (n : Int), vs = [.ref s, .int n] ∧ Stm H s l ∧ 0 < n ∧ n.natAbs < 2 ^ 9000 ∧ ∀ r H', 0 ≤ r → r < n → But s H H' → Stm H' s l → Q (.int r) H'
def sp__law_name (K : PySem.W.Frag) : Sp := fun vs H Q _ => ∃ s l, vs = [.ref s] ∧ Stm H s l ∧ ∀ x H', okName x = true → But s H H' → Stm H' s l → Q (.str x) H'
def sp__law_leaf (K : PySem.W.Frag) : Sp := fun vs H Q _ => ∃ (s l : Addr) (wd : Int), vs = [.ref s, .int wd] ∧ Stm H s l ∧ 0 < wd ∧ wd ≤ 1000 ∧ ∀ v d H', Nd wd d → arN d = 0 → But s H H' → Stm H' s l → Im K (fun b => H b = Option.none) H' v d → Q v H'
def sp__law_term (K : PySem.W.Frag) : Sp := fun vs H Q _ => ∃ (s l : Addr) (n wd : Int), vs = [.ref s, .int n, .int wd] ∧ Stm H s l ∧ 0 < n ∧ n ≤ 1000 ∧ 0 < wd ∧ wd ≤ 1000 ∧
  ∀ v ds H', Term wd ds → (ds.length : Int) ≤ n → But s H H' → Stm H' s l → Im K (fun b => H b = Option.none) H' v (.tuple ds) → Q v H'
/-! ### nodes -/
def isSymN : PyData → Bool
  | .tuple [_, _, _] => true | _ => false
def NdA (d : PyData) : Prop := ∃ wd, Nd wd d
/-- how many nodes m terms take -/
def tk : Nat → List PyData → Nat
  | _, [] => 0
  | m, d :: r => if m = 0 then 0 else 1 + tk (m - 1 + arN d) r
theorem tk_zero (l : List PyData) : tk 0 l = 0 := by
  cases l with
  | nil => rfl
  | cons d r => exact if_pos rfl
theorem tk_cons {m : Nat} (h : 0 < m) (d : PyData) (r : List PyData) : tk m (d :: r) = 1 + tk (m - 1 + arN d) r := if_neg (by omega)
theorem arN_nsym {d : PyData} (h : isSymN d = false) : arN d = 0 := by
  cases d with
  | tuple ds =>
    rcases ds with _ | ⟨a, _ | ⟨b, _ | ⟨c, _ | ⟨e, r⟩⟩⟩⟩
    · rfl
    · rfl
    · rfl
    · cases h
    · rfl
  | _ => rfl
theorem tk_le : ∀ (l : List PyData) (m : Nat), tk m l ≤ l.length
  | [], _ => Nat.le_refl 0
  | d :: r, m => by
    by_cases h : m = 0
    · subst h; rw [tk_zero]; exact Nat.zero_le _
    · rw [tk_cons (by omega)]
      have := tk_le r (m - 1 + arN d)
      rw [List.length_cons]
      omega
theorem tk_add : ∀ (l : List PyData) (j m : Nat), tk (j + m) l = tk j l + tk m (l.drop (tk j l))
  | [], j, m => by simp [tk]
  | d :: r, j, m => by
    by_cases h : j = 0
    · subst h
      rw [tk_zero, Nat.zero_add, Nat.zero_add, List.drop_zero]
    · rw [tk_cons (by omega), tk_cons (m := j) (by omega), show j + m - 1 + arN d = (j - 1 + arN d) + m by omega, tk_add r (j - 1 + arN d) m]
      rw [show 1 + tk (j - 1 + arN d) r = tk (j - 1 + arN d) r + 1 by omega, List.drop_succ_cons]
      omega
/-- the rest of what is closed is closed -/
theorem cls_drop : ∀ (l : List PyData) (k j : Nat), Cls k l → j ≤ k → Cls (k - j) (l.drop (tk j l))
  | [], k, j, h, hj => by
    have hk : k = 0 := h
    rw [List.drop_nil]
    show k - j = 0
    omega
  | d :: r, k, j, h, hj => by
    by_cases z : j = 0
    · subst z
      rw [tk_zero]
      exact h
    · rw [tk_cons (by omega), show 1 + tk (j - 1 + arN d) r = tk (j - 1 + arN d) r + 1 by omega, List.drop_succ_cons]
      have := cls_drop r (k - 1 + arN d) (j - 1 + arN d) h.2 (by omega)
      rwa [show k - 1 + arN d - (j - 1 + arN d) = k - j by omega] at this
theorem cls_take : ∀ (l : List PyData) (k j : Nat), Cls k l → j ≤ k → Cls j (l.take (tk j l))
  | [], k, j, h, hj => by
    have hk : k = 0 := h
    rw [List.take_nil]
    show j = 0
    omega
  | d :: r, k, j, h, hj => by
    by_cases z : j = 0
    · subst z
      rw [tk_zero]
      rfl
    · rw [tk_cons (by omega), show 1 + tk (j - 1 + arN d) r = tk (j - 1 + arN d) r + 1 by omega, List.take_succ_cons]
      exact ⟨by omega, cls_take r (k - 1 + arN d) (j - 1 + arN d) h.2 (by omega)⟩
theorem tk_take : ∀ (l : List PyData) (i j : Nat), i ≤ j → tk i (l.take (tk j l)) = tk i l
  | [], i, j, _ => by rw [List.take_nil]
  | d :: r, i, j, h => by
    by_cases z : i = 0
    · subst z
      rw [tk_zero, tk_zero]
    · rw [tk_cons (m := j) (by omega), show 1 + tk (j - 1 + arN d) r = tk (j - 1 + arN d) r + 1 by omega, List.take_succ_cons, tk_cons (by omega), tk_cons (by omega), tk_take r _ _ (by omega)]
theorem take_full : ∀ (l : List PyData) (k : Nat), Cls k l → l.take (tk k l) = l
  | [], _, _ => List.take_nil
  | d :: r, k, h => by
    rw [tk_cons h.1, show 1 + tk (k - 1 + arN d) r = tk (k - 1 + arN d) r + 1 by omega, List.take_succ_cons, take_full r _ h.2]
theorem cls_map : ∀ (ds es : List PyData) (m : Nat), es.map arN = ds.map arN → Cls m ds → Cls m es
  | [], [], m, _, h => h
  | [], e :: es, m, h, _ => by cases h
  | d :: ds, [], m, h, _ => by cases h
  | d :: ds, e :: es, m, h, hc => by
    rw [List.map_cons, List.map_cons] at h
    obtain ⟨h1, h2⟩ := List.cons.inj h
    exact ⟨hc.1, by rw [h1]; exact cls_map ds es _ h2 hc.2⟩
/-! ### nodes can be compared -/
theorem okName_cps {x : Str} (h : okName x = true) : PyData.strOk x = true := by
  unfold okName at h
  rw [Bool.and_eq_true] at h
  unfold PyData.strOk
  rw [← Array.all_toList]
  refine List.all_eq_true.mpr fun c hc => ?_
  have := List.all_eq_true.mp h.2 c hc
  unfold okSign at this
  simp only [Bool.and_eq_true, decide_eq_true_eq] at this
  exact decide_eq_true (by omega)
theorem nd_lay {d : PyData} (h : NdA d) : d.canLay0 = true ∧ d.depth ≤ 1 ∧ d.eqv d = true := by
  obtain ⟨wd, h⟩ := h
  cases h with
  | v n _ _ => exact ⟨by simp only [PyData.canLay0, PyData.canLayAll0]; decide +kernel, by simp [PyData.depth, PyData.depthAll], by simp only [PyData.eqv, PyData.eqvAll, beq_self_eq_true, Bool.and_self]⟩
  | i n _ _ => exact ⟨by simp only [PyData.canLay0], by simp [PyData.depth], by simp only [PyData.eqv, beq_self_eq_true]⟩
  | f x n hx _ _ => exact ⟨by simp only [PyData.canLay0, PyData.canLayAll0]; rw [okName_cps hx]; decide +kernel, by simp [PyData.depth, PyData.depthAll], by simp only [PyData.eqv, PyData.eqvAll, beq_self_eq_true, Bool.and_self]⟩
theorem nds_lay : ∀ {ds : List PyData}, (∀ d ∈ ds, NdA d) → PyData.canLayAll0 ds = true ∧ PyData.depthAll ds ≤ 1 ∧ PyData.eqvAll ds ds = true
  | [], _ => ⟨by simp only [PyData.canLayAll0], by simp [PyData.depthAll], by simp only [PyData.eqvAll]⟩
  | d :: r, h => by
    obtain ⟨a1, a2, a3⟩ := nd_lay (h d List.mem_cons_self)
    obtain ⟨b1, b2, b3⟩ := nds_lay (ds := r) fun e he => h e (List.mem_cons_of_mem _ he)
    refine ⟨by simp only [PyData.canLayAll0, a1, b1, Bool.and_self], ?_, by simp only [PyData.eqvAll, a3, b3, Bool.and_self]⟩
    simp only [PyData.depthAll]
    omega
theorem nd_shaped {d : PyData} (h : NdA d) : SeqAt.shaped d = true := by
  obtain ⟨a1, a2, _⟩ := nd_lay h
  show (d.canLay0 && decide (d.depth ≤ 64)) = true
  rw [a1, decide_eq_true (by omega)]
  rfl
theorem tup_shaped {ds : List PyData} (h : ∀ d ∈ ds, NdA d) : SeqAt.shaped (.tuple ds) = true := by
  obtain ⟨a1, a2, _⟩ := nds_lay h
  have hd : (PyData.tuple ds).depth ≤ 64 := by
    simp only [PyData.depth]
    omega
  have hc : (PyData.tuple ds).canLay0 = true := by
    simp only [PyData.canLay0]
    exact a1
  show ((PyData.tuple ds).canLay0 && decide ((PyData.tuple ds).depth ≤ 64)) = true
  rw [hc, decide_eq_true hd]
  rfl
theorem tup_eqv {ds : List PyData} (h : ∀ d ∈ ds, NdA d) : PyData.eqv (.tuple ds) (.tuple ds) = true := by
  simp only [PyData.eqv]
  exact (nds_lay h).2.2
theorem seq_via {t u : TS} {D : Ends} {σ : L2.St} {H : Hp} (P : L2.St → Hp → Prop) (hu : ∀ σ H, P σ H → u D σ H) (ht : (∀ σ H, P σ H → u D σ H) → t { D with nx := u D } σ H) : tSeq t u D σ H := ht hu
def isVarN : PyData → Bool
  | .tuple [_, _] => true | _ => false
def numN : PyData → Int
  | .tuple [_, .int n] => n | _ => 0
theorem nd_eq {d e : PyData} (h : NdA d) (h2 : NdA e) (q : PyData.eqv d e = true) : d = e := by
  obtain ⟨wd, h⟩ := h
  obtain ⟨we, h2⟩ := h2
  cases h with
  | v n _ _ =>
    cases h2 with
    | v m _ _ =>
      simp only [PyData.eqv, PyData.eqvAll, Bool.and_eq_true, beq_iff_eq] at q
      rw [q.2.1]
    | i m _ _ => simp [PyData.eqv] at q
    | f x m _ _ _ => simp [PyData.eqv, PyData.eqvAll] at q
  | i n _ _ =>
    cases h2 with
    | v m _ _ => simp [PyData.eqv] at q
    | i m _ _ =>
      simp only [PyData.eqv, beq_iff_eq] at q
      rw [q]
    | f x m _ _ _ => simp [PyData.eqv] at q
  | f x n _ _ _ =>
    cases h2 with
    | v m _ _ => simp [PyData.eqv, PyData.eqvAll] at q
    | i m _ _ => simp [PyData.eqv] at q
    | f y m _ _ _ =>
      simp only [PyData.eqv, PyData.eqvAll, Bool.and_eq_true, beq_iff_eq] at q
      rw [q.2.1, q.2.2.1]
theorem nds_eq : ∀ {ds es : List PyData}, (∀ d ∈ ds, NdA d) → (∀ e ∈ es, NdA e) → PyData.eqvAll ds es = true → ds = es
  | [], [], _, _, _ => rfl
  | [], _ :: _, _, _, h => by simp [PyData.eqvAll] at h
  | _ :: _, [], _, _, h => by simp [PyData.eqvAll] at h
  | d :: ds, e :: es, h1, h2, h => by
    simp only [PyData.eqvAll, Bool.and_eq_true] at h
    rw [nd_eq (h1 d List.mem_cons_self) (h2 e List.mem_cons_self) h.1, nds_eq (fun x hx => h1 x (List.mem_cons_of_mem _ hx)) (fun x hx => h2 x (List.mem_cons_of_mem _ hx)) h.2]
theorem tup_eq {ds es : List PyData} (h1 : ∀ d ∈ ds, NdA d) (h2 : ∀ e ∈ es, NdA e) (h : PyData.eqv (.tuple ds) (.tuple es) = true) : ds = es := by
  simp only [PyData.eqv] at h
  exact nds_eq h1 h2 h
mutual
def noL : PyData → Bool
  | .none => true
  | .bool _ => true
  | .int _ => true
  | .str _ => true
  | .tuple ds => noLA ds
  | .list _ => false
  | .dict _ => false
def noLA : List PyData → Bool
  | [] => true
  | d :: ds => noL d && noLA ds
end
def notTup (H : Hp) (p : Addr) : Prop := (∃ ys, H p = some (.lst ys)) ∨ ∃ kvs, H p = some (.dK kvs)
theorem sqT_put {K : PySem.W.Frag} {H : Hp} {p b : Addr} {o : HO} {xs : List V} (hp : notTup H p) (h : SqT K H b xs) : SqT K (upd H p o) b xs := by
  rcases h with (h | ⟨q, h⟩) | h
  · exact .inl (.inl (by rw [upd_ne (fun z => by rw [z] at h; rcases hp with ⟨_, hp⟩ | ⟨_, hp⟩ <;> (rw [hp] at h; cases h))]; exact h))
  · exact .inl (.inr ⟨q, by rw [upd_ne (fun z => by rw [z] at h; rcases hp with ⟨_, hp⟩ | ⟨_, hp⟩ <;> (rw [hp] at h; cases h))]; exact h⟩)
  · exact .inr h
section
variable {K : PySem.W.Frag} {H : Hp} {p : Addr} {o : HO}
mutual
theorem dp_put (hp : notTup H p) : ∀ (d : PyData) (v : V), noL d = true → Dp K H v d → Dp K (upd H p o) v d
  | .none, _, _, h => by cases h; exact .non
  | .bool b, _, _, h => by cases h; exact .bl b
  | .int i, _, _, h => by cases h; exact .int i
  | .str x, _, _, h => by cases h; exact .str x
  | .list ds, _, n, h => by simp [noL] at n
  | .tuple ds, _, n, h => by
    cases h with
    | tup g ha => exact .tup (sqT_put hp g) (dp_putAll hp ds _ (by simpa [noL] using n) ha)
  | .dict _, _, n, h => by cases h
theorem dp_putAll (hp : notTup H p) : ∀ (ds : List PyData) (vs : List V), noLA ds = true → DpAll K H vs ds → DpAll K (upd H p o) vs ds
  | [], _, _, h => by cases h; exact .nil
  | d :: ds, _, n, h => by
    rw [noLA, Bool.and_eq_true] at n
    cases h with
    | cons h1 h2 => exact .cons (dp_put hp d _ n.1 h1) (dp_putAll hp ds _ n.2 h2)
end
end
theorem nd_noL {d : PyData} (h : NdA d) : noL d = true := by
  obtain ⟨wd, h⟩ := h
  cases h <;> simp [noL, noLA]
theorem nds_noL : ∀ {ds : List PyData}, (∀ d ∈ ds, NdA d) → noLA ds = true
  | [], _ => by simp [noLA]
  | d :: r, h => by rw [noLA, nd_noL (h d List.mem_cons_self), nds_noL fun e he => h e (List.mem_cons_of_mem _ he)]; rfl
theorem tup_noL {ds : List PyData} (h : ∀ d ∈ ds, NdA d) : noL (.tuple ds) = true := by rw [noL]; exact nds_noL h
section
variable {K : PySem.W.Frag} {H H' : Hp}
mutual
theorem dp_map (f : ∀ b xs, SqT K H b xs → SqT K H' b xs) : ∀ (d : PyData) (v : V), noL d = true → Dp K H v d → Dp K H' v d
  | .none, _, _, h => by cases h; exact .non
  | .bool b, _, _, h => by cases h; exact .bl b
  | .int i, _, _, h => by cases h; exact .int i
  | .str x, _, _, h => by cases h; exact .str x
  | .list ds, _, n, h => by simp [noL] at n
  | .tuple ds, _, n, h => by
    cases h with
    | tup g ha => exact .tup (f _ _ g) (dp_mapAll f ds _ (by simpa [noL] using n) ha)
  | .dict _, _, n, h => by cases h
theorem dp_mapAll (f : ∀ b xs, SqT K H b xs → SqT K H' b xs) : ∀ (ds : List PyData) (vs : List V), noLA ds = true → DpAll K H vs ds → DpAll K H' vs ds
  | [], _, _, h => by cases h; exact .nil
  | d :: ds, _, n, h => by
    rw [noLA, Bool.and_eq_true] at n
    cases h with
    | cons h1 h2 => exact .cons (dp_map f d _ n.1 h1) (dp_mapAll f ds _ n.2 h2)
end
theorem sqT_but {p b : Addr} {xs : List V} (hp : notTup H p) (hb : But p H H') (h : SqT K H b xs) : SqT K H' b xs := by
  rcases h with (h | ⟨q, h⟩) | h
  · exact .inl (.inl (hb _ _ (fun z => by rw [z] at h; rcases hp with ⟨_, hp⟩ | ⟨_, hp⟩ <;> (rw [hp] at h; cases h)) h))
  · exact .inl (.inr ⟨q, hb _ _ (fun z => by rw [z] at h; rcases hp with ⟨_, hp⟩ | ⟨_, hp⟩ <;> (rw [hp] at h; cases h)) h⟩)
  · exact .inr h
/-- draws change the stream alone -/
theorem dp_but {s l : Addr} {v : V} {ds : List PyData} (S : Stm H s l) (b : But s H H') (n : ∀ d ∈ ds, NdA d) (h : Dp K H v (.tuple ds)) : Dp K H' v (.tuple ds) := by
  obtain ⟨x, y, m, ns, e, _⟩ := S.ex
  exact dp_map (fun c xs g => sqT_but (.inl ⟨_, e⟩) b g) _ _ (tup_noL n) h
end
/-! ### variables -/
def numS (acc : List Int) (d : PyData) : List Int := if isVarN d = true ∧ numN d ∉ acc then acc ++ [numN d] else acc
def nums (ds : List PyData) : List Int := ds.foldl numS []
def mapD (g : Int → Int) (d : PyData) : PyData := if isVarN d = true then .tuple [.str "v", .int (g (numN d))] else d
def renM (first : Int) (ds : List PyData) : List PyData := ds.map (mapD fun n => first + ((nums ds).idxOf n : Nat))
theorem nums_take {ds : List PyData} {i : Nat} {d : PyData} (h : ds[i]? = some d) : nums (ds.take (i + 1)) = numS (nums (ds.take i)) d := by
  unfold nums
  rw [List.take_add_one, h, List.foldl_append]
  rfl
theorem numS_pre (acc : List Int) (d : PyData) : ∃ t, numS acc d = acc ++ t := by
  unfold numS
  split
  · exact ⟨_, rfl⟩
  · exact ⟨[], (List.append_nil _).symm⟩
theorem fold_pre : ∀ (ds : List PyData) (acc : List Int), ∃ t, ds.foldl numS acc = acc ++ t
  | [], acc => ⟨[], (List.append_nil _).symm⟩
  | d :: r, acc => by
    obtain ⟨t1, h1⟩ := numS_pre acc d
    obtain ⟨t2, h2⟩ := fold_pre r (numS acc d)
    exact ⟨t1 ++ t2, by rw [List.foldl_cons, h2, h1, List.append_assoc]⟩
theorem nums_pre (ds : List PyData) (i : Nat) : ∃ t, nums ds = nums (ds.take i) ++ t := by
  have e : nums ds = (ds.drop i).foldl numS (nums (ds.take i)) := by
    unfold nums
    rw [← List.foldl_append, List.take_append_drop]
  rw [e]
  exact fold_pre _ _
theorem numS_mem {acc : List Int} {d : PyData} (h : isVarN d = true) : numN d ∈ numS acc d := by
  unfold numS
  by_cases hm : numN d ∈ acc
  · rw [if_neg (fun z => z.2 hm)]; exact hm
  · rw [if_pos ⟨h, hm⟩]; exact List.mem_append_right _ (List.mem_singleton.mpr rfl)
theorem nums_len : ∀ (ds : List PyData), (nums ds).length ≤ ds.length := by
  have h : ∀ (ds : List PyData) (acc : List Int), (ds.foldl numS acc).length ≤ acc.length + ds.length := by
    intro ds
    induction ds with
    | nil => intro acc; exact Nat.le_refl _
    | cons d r ih =>
      intro acc
      rw [List.foldl_cons, List.length_cons]
      have h1 := ih (numS acc d)
      have h2 : (numS acc d).length ≤ acc.length + 1 := by
        unfold numS
        split
        · rw [List.length_append]; exact Nat.le_refl _
        · exact Nat.le_succ _
      omega
  intro ds
  have := h ds []
  rwa [List.length_nil, Nat.zero_add] at this
theorem nums_mem {ds : List PyData} {i : Nat} {d : PyData} (h : ds[i]? = some d) (v : isVarN d = true) : numN d ∈ nums (ds.take (i + 1)) := by
  rw [nums_take h]; exact numS_mem v
theorem idx_pre {ds : List PyData} {i : Nat} {n : Int} (h : n ∈ nums (ds.take i)) : (nums ds).idxOf n = (nums (ds.take i)).idxOf n := by
  obtain ⟨t, e⟩ := nums_pre ds i
  rw [e, List.idxOf_append, if_pos h]
theorem mem_pre {ds : List PyData} {i : Nat} {n : Int} (h : n ∈ nums (ds.take i)) : n ∈ nums ds := by
  obtain ⟨t, e⟩ := nums_pre ds i
  rw [e]; exact List.mem_append_left _ h
theorem idx_inj {l : List Int} {a b : Int} (ha : a ∈ l) (hb : b ∈ l) (h : l.idxOf a = l.idxOf b) : a = b := by
  have h1 := List.getElem_idxOf (List.idxOf_lt_length_of_mem ha)
  have h2 := List.getElem_idxOf (List.idxOf_lt_length_of_mem hb)
  rw [← h1, ← h2]
  simp only [h]
def VarP (l r : List PyData) : Prop := l.length = r.length ∧ (∀ (k : Nat) (a b : PyData), l[k]? = some a → r[k]? = some b → (isVarN a = true ∧ isVarN b = true) ∨ PyData.eqv a b = true) ∧
  (∀ (j k : Nat) (a b c d : PyData), l[j]? = some a → r[j]? = some b → l[k]? = some c → r[k]? = some d → isVarN a = true → isVarN b = true → isVarN c = true → isVarN d = true → (numN a = numN c ↔ numN b = numN d))
theorem nd_refl {d : PyData} (h : NdA d) : PyData.eqv d d = true := (nd_lay h).2.2
theorem var_both {a b : PyData} (ha : NdA a) (hb : NdA b) (h : PyData.eqv a b = true) : isVarN a = isVarN b := by rw [nd_eq ha hb h]
/-- the lists of numbers grow side by side -/
theorem side {l r : List PyData} (nl : ∀ d ∈ l, NdA d) (nr : ∀ d ∈ r, NdA d) (h : VarP l r) : ∀ i, i ≤ l.length → (nums (l.take i)).length = (nums (r.take i)).length ∧
    ∀ (k : Nat) (x y : Int), (nums (l.take i))[k]? = some x → (nums (r.take i))[k]? = some y → ∃ (j : Nat) (a b : PyData), l[j]? = some a ∧ r[j]? = some b ∧ isVarN a = true ∧ isVarN b = true ∧ numN a = x ∧ numN b = y
  | 0, _ => ⟨rfl, fun k x y h => by simp [nums] at h⟩
  | i + 1, hi => by
    obtain ⟨ih1, ih2⟩ := side nl nr h i (by omega)
    have ha : l[i]? = some l[i] := List.getElem?_eq_getElem (by omega)
    have hlr := h.1
    have hb : r[i]? = some r[i] := List.getElem?_eq_getElem (by omega)
    generalize l[i] = a at ha
    generalize r[i] = b at hb
    have na := nl a (List.mem_of_getElem? ha)
    have nb := nr b (List.mem_of_getElem? hb)
    rw [nums_take ha, nums_take hb]
    rcases h.2.1 i a b ha hb with ⟨va, vb⟩ | e
    · have key : numN a ∈ nums (l.take i) ↔ numN b ∈ nums (r.take i) := by
        constructor
        · intro hm
          obtain ⟨k, hk⟩ := List.getElem?_of_mem hm
          have hk2 : k < (nums (r.take i)).length := by
            have := (List.getElem?_eq_some_iff.mp hk).1
            omega
          have hy : (nums (r.take i))[k]? = some (nums (r.take i))[k] := List.getElem?_eq_getElem hk2
          obtain ⟨j, a', b', g1, g2, g3, g4, g5, g6⟩ := ih2 k _ _ hk hy
          have := (h.2.2 j i a' b' a b g1 g2 ha hb g3 g4 va vb).mp g5
          rw [← this, g6]
          exact List.mem_of_getElem? hy
        · intro hm
          obtain ⟨k, hk⟩ := List.getElem?_of_mem hm
          have hk2 : k < (nums (l.take i)).length := by
            have := (List.getElem?_eq_some_iff.mp hk).1
            omega
          have hy : (nums (l.take i))[k]? = some (nums (l.take i))[k] := List.getElem?_eq_getElem hk2
          obtain ⟨j, a', b', g1, g2, g3, g4, g5, g6⟩ := ih2 k _ _ hy hk
          have := (h.2.2 j i a' b' a b g1 g2 ha hb g3 g4 va vb).mpr g6
          rw [← this, g5]
          exact List.mem_of_getElem? hy
      unfold numS
      by_cases hm : numN a ∈ nums (l.take i)
      · rw [if_neg (fun z => z.2 hm), if_neg (fun z => z.2 (key.mp hm))]
        exact ⟨ih1, ih2⟩
      · rw [if_pos ⟨va, hm⟩, if_pos ⟨vb, fun z => hm (key.mpr z)⟩]
        refine ⟨by rw [List.length_append, List.length_append, ih1]; rfl, fun k x y hx hy => ?_⟩
        by_cases hk : k < (nums (l.take i)).length
        · rw [List.getElem?_append_left hk] at hx
          rw [List.getElem?_append_left (by omega)] at hy
          exact ih2 k x y hx hy
        · rw [List.getElem?_append_right (by omega)] at hx
          rw [List.getElem?_append_right (by omega)] at hy
          have h0 : k - (nums (l.take i)).length = 0 := by
            have := (List.getElem?_eq_some_iff.mp hx).1
            rw [List.length_singleton] at this
            omega
          rw [h0] at hx
          rw [← ih1, h0] at hy
          rw [List.getElem?_cons_zero] at hx hy
          cases hx
          cases hy
          exact ⟨i, a, b, ha, hb, va, vb, rfl, rfl⟩
    · have ev := var_both na nb e
      have en := nd_eq na nb e
      by_cases va : isVarN a = true
      · have vb : isVarN b = true := by rw [← ev]; exact va
        have key : numN a ∈ nums (l.take i) ↔ numN b ∈ nums (r.take i) := by
          constructor
          · intro hm
            obtain ⟨k, hk⟩ := List.getElem?_of_mem hm
            have hk2 : k < (nums (r.take i)).length := by
              have := (List.getElem?_eq_some_iff.mp hk).1
              omega
            have hy : (nums (r.take i))[k]? = some (nums (r.take i))[k] := List.getElem?_eq_getElem hk2
            obtain ⟨j, a', b', g1, g2, g3, g4, g5, g6⟩ := ih2 k _ _ hk hy
            have := (h.2.2 j i a' b' a b g1 g2 ha hb g3 g4 va vb).mp g5
            rw [← this, g6]
            exact List.mem_of_getElem? hy
          · intro hm
            obtain ⟨k, hk⟩ := List.getElem?_of_mem hm
            have hk2 : k < (nums (l.take i)).length := by
              have := (List.getElem?_eq_some_iff.mp hk).1
              omega
            have hy : (nums (l.take i))[k]? = some (nums (l.take i))[k] := List.getElem?_eq_getElem hk2
            obtain ⟨j, a', b', g1, g2, g3, g4, g5, g6⟩ := ih2 k _ _ hy hk
            have := (h.2.2 j i a' b' a b g1 g2 ha hb g3 g4 va vb).mpr g6
            rw [← this, g5]
            exact List.mem_of_getElem? hy
        unfold numS
        by_cases hm : numN a ∈ nums (l.take i)
        · rw [if_neg (fun z => z.2 hm), if_neg (fun z => z.2 (key.mp hm))]
          exact ⟨ih1, ih2⟩
        · rw [if_pos ⟨va, hm⟩, if_pos ⟨vb, fun z => hm (key.mpr z)⟩]
          refine ⟨by rw [List.length_append, List.length_append, ih1]; rfl, fun k x y hx hy => ?_⟩
          by_cases hk : k < (nums (l.take i)).length
          · rw [List.getElem?_append_left hk] at hx
            rw [List.getElem?_append_left (by omega)] at hy
            exact ih2 k x y hx hy
          · rw [List.getElem?_append_right (by omega)] at hx
            rw [List.getElem?_append_right (by omega)] at hy
            have h0 : k - (nums (l.take i)).length = 0 := by
              have := (List.getElem?_eq_some_iff.mp hx).1
              rw [List.length_singleton] at this
              omega
            rw [h0] at hx
            rw [← ih1, h0] at hy
            rw [List.getElem?_cons_zero] at hx hy
            cases hx
            cases hy
            exact ⟨i, a, b, ha, hb, va, vb, rfl, rfl⟩
      · unfold numS
        rw [if_neg (fun z => va z.1), if_neg (fun z => va (by rw [ev]; exact z.1))]
        exact ⟨ih1, ih2⟩
theorem mapD_nd {g : Int → Int} {d : PyData} (h : NdA d) (hg : ∀ n, 0 ≤ g n) : NdA (mapD g d) := by
  unfold mapD
  split
  · exact ⟨g (numN d) + 1, .v _ (hg _) (by omega)⟩
  · exact h
theorem ren_nd {f : Int} {ds : List PyData} (h : ∀ d ∈ ds, NdA d) (hf : 0 ≤ f) : ∀ d ∈ renM f ds, NdA d := by
  intro d hd
  obtain ⟨e, he, rfl⟩ := List.mem_map.mp hd
  exact mapD_nd (h e he) fun n => by omega
theorem mapD_eq {g g' : Int → Int} {a b : PyData} (na : NdA a) (nb : NdA b) (h : mapD g a = mapD g' b) : (isVarN a = true ∧ isVarN b = true ∧ g (numN a) = g' (numN b)) ∨ (isVarN a = false ∧ a = b) := by
  unfold mapD at h
  by_cases va : isVarN a = true
  · rw [if_pos va] at h
    by_cases vb : isVarN b = true
    · rw [if_pos vb] at h
      left
      refine ⟨va, vb, ?_⟩
      injection h with h
      injection h with _ h
      injection h with h _
      injection h
    · rw [if_neg vb] at h
      rw [← h] at vb
      exact absurd rfl vb
  · rw [if_neg va] at h
    by_cases vb : isVarN b = true
    · rw [if_pos vb] at h
      rw [h] at va
      exact absurd rfl va
    · rw [if_neg vb] at h
      exact .inr ⟨Bool.eq_false_iff.mpr va, h⟩
theorem ren_var {l r : List PyData} (nl : ∀ d ∈ l, NdA d) (nr : ∀ d ∈ r, NdA d) : PyData.eqv (.tuple (renM 0 l)) (.tuple (renM 0 r)) = true ↔ VarP l r := by
  constructor
  · intro h
    have e := tup_eq (ren_nd nl (Int.le_refl 0)) (ren_nd nr (Int.le_refl 0)) h
    have el : l.length = r.length := by
      have := congrArg List.length e
      unfold renM at this
      rwa [List.length_map, List.length_map] at this
    have at_ : ∀ (k : Nat) (a b : PyData), l[k]? = some a → r[k]? = some b → (isVarN a = true ∧ isVarN b = true ∧ (0 : Int) + ((nums l).idxOf (numN a) : Nat) = 0 + ((nums r).idxOf (numN b) : Nat)) ∨ (isVarN a = false ∧ a = b) := by
      intro k a b ha hb
      have h1 : (renM 0 l)[k]? = some (mapD (fun n => 0 + ((nums l).idxOf n : Nat)) a) := by unfold renM; rw [List.getElem?_map, ha]; rfl
      have h2 : (renM 0 r)[k]? = some (mapD (fun n => 0 + ((nums r).idxOf n : Nat)) b) := by unfold renM; rw [List.getElem?_map, hb]; rfl
      rw [e, h2] at h1
      exact mapD_eq (nl a (List.mem_of_getElem? ha)) (nr b (List.mem_of_getElem? hb)) (Option.some.inj h1).symm
    refine ⟨el, fun k a b ha hb => ?_, fun j k a b c d ha hb hc hd va vb vc vd => ?_⟩
    · rcases at_ k a b ha hb with ⟨z1, z2, _⟩ | ⟨_, z⟩
      · exact .inl ⟨z1, z2⟩
      · rw [z]; exact .inr (nd_refl (nr b (List.mem_of_getElem? hb)))
    · have i1 : (nums l).idxOf (numN a) = (nums r).idxOf (numN b) := by
        rcases at_ j a b ha hb with ⟨_, _, z⟩ | ⟨z, _⟩
        · omega
        · rw [va] at z; cases z
      have i2 : (nums l).idxOf (numN c) = (nums r).idxOf (numN d) := by
        rcases at_ k c d hc hd with ⟨_, _, z⟩ | ⟨z, _⟩
        · omega
        · rw [vc] at z; cases z
      constructor
      · intro z
        rw [z] at i1
        exact idx_inj (mem_pre (nums_mem hb vb)) (mem_pre (nums_mem hd vd)) (i1.symm.trans i2)
      · intro z
        rw [z] at i1
        exact idx_inj (mem_pre (nums_mem ha va)) (mem_pre (nums_mem hc vc)) (i1.trans i2.symm)
  · intro h
    obtain ⟨s1, s2⟩ := side nl nr h l.length (Nat.le_refl _)
    rw [List.take_length, h.1, List.take_length] at s1 s2
    have idx : ∀ (j : Nat) (a b : PyData), l[j]? = some a → r[j]? = some b → isVarN a = true → isVarN b = true → (nums l).idxOf (numN a) = (nums r).idxOf (numN b) := by
      intro j a b ha hb va vb
      have ma := mem_pre (nums_mem ha va)
      have mb := mem_pre (nums_mem hb vb)
      have la := List.idxOf_lt_length_of_mem ma
      have lb := List.idxOf_lt_length_of_mem mb
      have pa : (nums l)[(nums l).idxOf (numN a)]? = some (numN a) := by rw [List.getElem?_eq_getElem la, List.getElem_idxOf la]
      have pb : (nums r)[(nums r).idxOf (numN b)]? = some (numN b) := by rw [List.getElem?_eq_getElem lb, List.getElem_idxOf lb]
      have pa2 : (nums r)[(nums l).idxOf (numN a)]? = some (nums r)[(nums l).idxOf (numN a)] := List.getElem?_eq_getElem (by omega)
      have pb2 : (nums l)[(nums r).idxOf (numN b)]? = some (nums l)[(nums r).idxOf (numN b)] := List.getElem?_eq_getElem (by omega)
      obtain ⟨j1, a1, b1, g1, g2, g3, g4, g5, g6⟩ := s2 _ _ _ pa pa2
      obtain ⟨j2, a2, b2, k1, k2, k3, k4, k5, k6⟩ := s2 _ _ _ pb2 pb
      have e1 := (h.2.2 j1 j a1 b1 a b g1 g2 ha hb g3 g4 va vb).mp g5
      have e2 := (h.2.2 j2 j a2 b2 a b k1 k2 ha hb k3 k4 va vb).mpr k6
      rw [g6] at e1
      rw [k5] at e2
      have le1 : (nums r).idxOf (numN b) ≤ (nums l).idxOf (numN a) := by
        rcases Nat.lt_or_ge ((nums l).idxOf (numN a)) ((nums r).idxOf (numN b)) with z | z
        · have := List.not_of_lt_findIdx (p := (· == numN b)) (xs := nums r) z
          simp [e1] at this
        · exact z
      have le2 : (nums l).idxOf (numN a) ≤ (nums r).idxOf (numN b) := by
        rcases Nat.lt_or_ge ((nums r).idxOf (numN b)) ((nums l).idxOf (numN a)) with z | z
        · have := List.not_of_lt_findIdx (p := (· == numN a)) (xs := nums l) z
          simp [e2] at this
        · exact z
      omega
    have e : renM 0 l = renM 0 r := by
      refine List.ext_getElem? fun k => ?_
      unfold renM
      rw [List.getElem?_map, List.getElem?_map]
      rcases Nat.lt_or_ge k l.length with z | z
      · have ha : l[k]? = some l[k] := List.getElem?_eq_getElem z
        have hb : r[k]? = some (r[k]'(by rw [← h.1]; exact z)) := List.getElem?_eq_getElem _
        generalize l[k] = a at ha
        generalize r[k]'(by rw [← h.1]; exact z) = b at hb
        rw [ha, hb]
        show some _ = some _
        congr 1
        unfold mapD
        rcases h.2.1 k a b ha hb with ⟨va, vb⟩ | q
        · rw [if_pos va, if_pos vb]; show PyData.tuple [.str "v", .int (0 + ((nums l).idxOf (numN a) : Nat))] = .tuple [.str "v", .int (0 + ((nums r).idxOf (numN b) : Nat))]; rw [idx k a b ha hb va vb]
        · have en := nd_eq (nl a (List.mem_of_getElem? ha)) (nr b (List.mem_of_getElem? hb)) q
          by_cases va : isVarN a = true
          · have vb : isVarN b = true := by rw [← en]; exact va
            rw [if_pos va, if_pos vb]; show PyData.tuple [.str "v", .int (0 + ((nums l).idxOf (numN a) : Nat))] = .tuple [.str "v", .int (0 + ((nums r).idxOf (numN b) : Nat))]; rw [idx k a b ha hb va vb]
          · rw [if_neg va, if_neg (by rw [← en]; exact va), en]
      · rw [List.getElem?_eq_none z, List.getElem?_eq_none (by rw [← h.1]; exact z)]
        rfl
    rw [e]
    exact tup_eqv (ren_nd nr (Int.le_refl 0))
theorem inV_int (n : Int) : ∀ l : List Int, inV (.int n) (l.map V.int) = decide (n ∈ l)
  | [] => rfl
  | m :: l => by
    have ih := inV_int n l
    unfold inV at *
    rw [List.map_cons, List.any_cons, ih]
    show ((m == n) || decide (n ∈ l)) = _
    by_cases h : m = n
    · subst h; simp
    · rw [beq_eq_false_iff_ne.mpr h, Bool.false_or]
      refine decide_eq_decide.mpr ⟨fun z => List.mem_cons_of_mem _ z, fun z => ?_⟩
      rcases List.mem_cons.mp z with y | y
      · exact absurd y.symm h
      · exact y
theorem ints_flat : ∀ l : List Int, (l.map V.int).all flatV = true
  | [] => rfl
  | m :: l => by rw [List.map_cons, List.all_cons, ints_flat l]; rfl
theorem numS_non {acc : List Int} {d : PyData} (h : ¬ isVarN d = true) : numS acc d = acc := if_neg fun z => h z.1
theorem numS_old {acc : List Int} {d : PyData} (h : numN d ∈ acc) : numS acc d = acc := if_neg fun z => z.2 h
theorem numS_new {acc : List Int} {d : PyData} (v : isVarN d = true) (h : numN d ∉ acc) : numS acc d = acc ++ [numN d] := if_pos ⟨v, h⟩
/-- the dict has these keys, in this order -/
theorem keys_put {kvs : List (Key × V)} {acc : List Int} {d : PyData} (x : V) (v : isVarN d = true) (h : kvs.map (·.1) = acc.map Sum.inl) : (putK kvs (Sum.inl (numN d)) x).map (·.1) = (numS acc d).map Sum.inl := by
  have hk : (kvs.any fun kv => decide (kv.1 = Sum.inl (numN d))) = decide (numN d ∈ acc) := by
    by_cases hm : numN d ∈ acc
    · rw [decide_eq_true hm]
      have : (Sum.inl (numN d) : Key) ∈ kvs.map (·.1) := by rw [h]; exact List.mem_map_of_mem hm
      obtain ⟨kv, h1, h2⟩ := List.mem_map.mp this
      exact List.any_eq_true.mpr ⟨kv, h1, decide_eq_true h2⟩
    · rw [decide_eq_false hm]
      refine Bool.eq_false_iff.mpr fun z => hm ?_
      obtain ⟨kv, h1, h2⟩ := List.any_eq_true.mp z
      have h3 : kv.1 ∈ kvs.map (·.1) := List.mem_map_of_mem h1
      rw [of_decide_eq_true h2, h] at h3
      obtain ⟨m, h4, h5⟩ := List.mem_map.mp h3
      rw [← Sum.inl.inj h5]
      exact h4
  unfold putK
  rw [hk]
  by_cases hm : numN d ∈ acc
  · rw [if_pos (decide_eq_true hm), numS_old hm, ← h, List.map_map]
    refine List.map_congr_left fun kv _ => ?_
    show (if kv.1 = Sum.inl (numN d) then (kv.1, x) else kv).1 = kv.1
    split <;> rfl
  · rw [if_neg (fun z => hm (of_decide_eq_true z)), numS_new v hm, List.map_append, List.map_append, h]
    rfl
theorem keys_kV {kvs : List (Key × V)} {acc : List Int} (h : kvs.map (·.1) = acc.map Sum.inl) : (kvs.map fun kv => kV kv.1) = acc.map V.int := by
  have : (kvs.map fun kv => kV kv.1) = (kvs.map (·.1)).map kV := by rw [List.map_map]; rfl
  rw [this, h, List.map_map]
  rfl
theorem var_form {d : PyData} (h : NdA d) (v : isVarN d = true) : ∃ n, d = .tuple [.str "v", .int n] := by
  obtain ⟨wd, nd⟩ := h
  cases nd with
  | v n _ _ => exact ⟨n, rfl⟩
  | i n _ _ => cases v
  | f x n _ _ _ => cases v
/-- the names that renumber has given -/
structure Given (K : PySem.W.Frag) (H : Hp) (f : Int) (acc : List Int) (kvs : List (Key × V)) : Prop where
  len : kvs.length = acc.length
  old : ∀ n ∈ acc, ∃ v, valV kvs (Sum.inl n) = some v ∧ Dp K H v (.tuple [.str "v", .int (f + (acc.idxOf n : Nat))])
  new : ∀ n, n ∉ acc → valV kvs (Sum.inl n) = none
theorem Given.mono {K : PySem.W.Frag} {H H' : Hp} {f : Int} {acc : List Int} {kvs : List (Key × V)} (g : Given K H f acc kvs) (h : ∀ v n, Dp K H v (.tuple [.str "v", .int n]) → Dp K H' v (.tuple [.str "v", .int n])) : Given K H' f acc kvs :=
  ⟨g.len, fun n hn => by obtain ⟨v, h1, h2⟩ := g.old n hn; exact ⟨v, h1, h _ _ h2⟩, g.new⟩
theorem Given.put {K : PySem.W.Frag} {H : Hp} {f : Int} {acc : List Int} {kvs : List (Key × V)} {n : Int} {v : V} (g : Given K H f acc kvs) (hn : n ∉ acc) (hv : Dp K H v (.tuple [.str "v", .int (f + (acc.length : Nat))])) : Given K H f (acc ++ [n]) (putK kvs (Sum.inl n) v) := by
  refine ⟨?_, fun m hm => ?_, fun m hm => ?_⟩
  · rw [putK_new _ (g.new n hn), List.length_append, List.length_append, g.len]
    rfl
  · rw [valV_put]
    by_cases e : m = n
    · subst e
      refine ⟨v, if_pos rfl, ?_⟩
      rw [List.idxOf_append, if_neg hn]
      rw [show ([m] : List Int).idxOf m = 0 by simp, Nat.zero_add]
      exact hv
    · rcases List.mem_append.mp hm with z | z
      · obtain ⟨w, h1, h2⟩ := g.old m z
        refine ⟨w, by rw [if_neg (fun y => e (Sum.inl.inj y))]; exact h1, ?_⟩
        rw [List.idxOf_append, if_pos z]
        exact h2
      · exact absurd (List.mem_singleton.mp z) e
  · rw [valV_put, if_neg (fun y => hm (by rw [Sum.inl.inj y]; exact List.mem_append_right _ (List.mem_singleton.mpr rfl)))]
    exact g.new m fun z => hm (List.mem_append_left _ z)
def pairD (p : Int × Int) : PyData := .tuple [.int p.1, .int p.2]
theorem pairs_noL : ∀ P : List (Int × Int), noLA (P.map pairD) = true
  | [] => by simp [noLA]
  | p :: P => by rw [List.map_cons, noLA, pairs_noL P]; simp [pairD, noL, noLA]
/-- what the pairs say -/
def PairsOf (l r : List PyData) (i : Nat) (P : List (Int × Int)) : Prop := ∀ n m, (n, m) ∈ P ↔ ∃ (j : Nat) (a b : PyData), j < i ∧ l[j]? = some a ∧ r[j]? = some b ∧ isVarN a = true ∧ isVarN b = true ∧ numN a = n ∧ numN b = m
theorem PairsOf.add {l r : List PyData} {i : Nat} {P : List (Int × Int)} {a b : PyData} (h : PairsOf l r i P) (ha : l[i]? = some a) (hb : r[i]? = some b) (va : isVarN a = true) (vb : isVarN b = true) : PairsOf l r (i + 1) (P ++ [(numN a, numN b)]) := by
  intro n m
  constructor
  · intro hm
    rcases List.mem_append.mp hm with z | z
    · obtain ⟨j, a', b', h1, h2⟩ := (h n m).mp z
      exact ⟨j, a', b', by omega, h2⟩
    · have := List.mem_singleton.mp z
      cases this
      exact ⟨i, a, b, by omega, ha, hb, va, vb, rfl, rfl⟩
  · rintro ⟨j, a', b', h1, h2, h3, h4, h5, h6, h7⟩
    by_cases e : j = i
    · subst e
      rw [ha] at h2
      rw [hb] at h3
      cases h2
      cases h3
      rw [← h6, ← h7]
      exact List.mem_append_right _ (List.mem_singleton.mpr rfl)
    · exact List.mem_append_left _ ((h n m).mpr ⟨j, a', b', by omega, h2, h3, h4, h5, h6, h7⟩)
theorem PairsOf.stay {l r : List PyData} {i : Nat} {P : List (Int × Int)} {a b : PyData} (h : PairsOf l r i P) (ha : l[i]? = some a) (hb : r[i]? = some b) (v : ¬ (isVarN a = true ∧ isVarN b = true)) : PairsOf l r (i + 1) P := by
  intro n m
  constructor
  · intro hm
    obtain ⟨j, a', b', h1, h2⟩ := (h n m).mp hm
    exact ⟨j, a', b', by omega, h2⟩
  · rintro ⟨j, a', b', h1, h2, h3, h4, h5, h6, h7⟩
    by_cases e : j = i
    · subst e
      rw [ha] at h2
      rw [hb] at h3
      cases h2
      cases h3
      exact absurd ⟨h4, h5⟩ v
    · exact (h n m).mpr ⟨j, a', b', by omega, h2, h3, h4, h5, h6, h7⟩
/-- one node is a variable: what isinstance(node, tuple) and node[0] == 'v' says -/
theorem nums_nodup (ds : List PyData) : (nums ds).Nodup := by
  have h : ∀ (ds : List PyData) (acc : List Int), acc.Nodup → (ds.foldl numS acc).Nodup := by
    intro ds
    induction ds with
    | nil => intro acc h; exact h
    | cons d r ih =>
      intro acc h
      rw [List.foldl_cons]
      refine ih _ ?_
      unfold numS
      split
      · next z =>
        refine List.nodup_append.mpr ⟨h, by simp, fun x hx y hy => ?_⟩
        rw [List.mem_singleton.mp hy]
        exact fun e => z.2 (e ▸ hx)
      · exact h
  exact h ds [] List.nodup_nil
theorem VarP.symm {l r : List PyData} (nl : ∀ d ∈ l, NdA d) (nr : ∀ d ∈ r, NdA d) (h : VarP l r) : VarP r l := by
  refine ⟨h.1.symm, fun k a b ha hb => ?_, fun j k a b c d ha hb hc hd va vb vc vd => (h.2.2 j k b a d c hb ha hd hc vb va vd vc).symm⟩
  rcases h.2.1 k b a hb ha with ⟨z1, z2⟩ | z
  · exact .inl ⟨z2, z1⟩
  · rw [nd_eq (nl b (List.mem_of_getElem? hb)) (nr a (List.mem_of_getElem? ha)) z]
    exact .inr (nd_refl (nr a (List.mem_of_getElem? ha)))
theorem VarP.refl {l : List PyData} (nl : ∀ d ∈ l, NdA d) : VarP l l := by
  refine ⟨rfl, fun k a b ha hb => ?_, fun j k a b c d ha hb hc hd _ _ _ _ => ?_⟩
  · rw [ha] at hb
    cases hb
    exact .inr (nd_refl (nl a (List.mem_of_getElem? ha)))
  · rw [ha] at hb
    rw [hc] at hd
    cases hb
    cases hd
    exact Iff.rfl
theorem ints_dp {K : PySem.W.Frag} {H : Hp} : ∀ l : List Int, DpAll K H (l.map V.int) (l.map PyData.int)
  | [] => .nil
  | n :: l => .cons (.int n) (ints_dp l)
theorem ints_lay : ∀ l : List Int, PyData.canLayAll0 (l.map PyData.int) = true ∧ PyData.depthAll (l.map PyData.int) ≤ 1 ∧ PyData.eqvAll (l.map PyData.int) (l.map PyData.int) = true
  | [] => ⟨by simp only [List.map_nil, PyData.canLayAll0], by simp [PyData.depthAll], by simp only [List.map_nil, PyData.eqvAll]⟩
  | n :: l => by
    obtain ⟨b1, b2, b3⟩ := ints_lay l
    refine ⟨by simp only [List.map_cons, PyData.canLayAll0, PyData.canLay0, b1, Bool.and_self], ?_, by simp only [List.map_cons, PyData.eqvAll, PyData.eqv, beq_self_eq_true, b3, Bool.and_self]⟩
    simp only [List.map_cons, PyData.depthAll, PyData.depth]
    omega
theorem ints_shaped (l : List Int) : SeqAt.shaped (.list (l.map PyData.int)) = true := by
  obtain ⟨a1, a2, _⟩ := ints_lay l
  have hd : (PyData.list (l.map PyData.int)).depth ≤ 64 := by
    simp only [PyData.depth]
    omega
  have hc : (PyData.list (l.map PyData.int)).canLay0 = true := by
    simp only [PyData.canLay0]
    exact a1
  show ((PyData.list (l.map PyData.int)).canLay0 && decide ((PyData.list (l.map PyData.int)).depth ≤ 64)) = true
  rw [hc, decide_eq_true hd]
  rfl
theorem ints_eqv (l : List Int) : PyData.eqv (.list (l.map PyData.int)) (.list (l.map PyData.int)) = true := by
  simp only [PyData.eqv]
  exact (ints_lay l).2.2
/-- the drawn table: its values are numbers that are not negative, and the first i of the numbers are in it -/
def Drawn (N : List Int) (i : Nat) (kvs : List (Key × V)) : Prop := (∀ m ∈ N.take i, ∃ z, valV kvs (Sum.inl m) = some (.int z)) ∧ ∀ k v, valV kvs k = some v → ∃ z : Int, v = .int z ∧ 0 ≤ z
theorem Drawn.put {N : List Int} {i : Nat} {kvs : List (Key × V)} {n z : Int} (h : Drawn N i kvs) (hz : 0 ≤ z) : Drawn N i (putK kvs (Sum.inl n) (.int z)) := by
  refine ⟨fun m hm => ?_, fun k v hv => ?_⟩
  · rw [valV_put]
    by_cases e : (Sum.inl m : Key) = Sum.inl n
    · rw [if_pos e]; exact ⟨z, rfl⟩
    · rw [if_neg e]; exact h.1 m hm
  · rw [valV_put] at hv
    by_cases e : k = Sum.inl n
    · rw [if_pos e] at hv; cases hv; exact ⟨z, rfl, hz⟩
    · rw [if_neg e] at hv; exact h.2 k v hv
theorem Drawn.next {N : List Int} {i : Nat} {kvs : List (Key × V)} {n z : Int} (h : Drawn N i kvs) (hn : N[i]? = some n) (hz : 0 ≤ z) : Drawn N (i + 1) (putK kvs (Sum.inl n) (.int z)) := by
  refine ⟨fun m hm => ?_, (h.put hz).2⟩
  rw [List.take_add_one, hn] at hm
  rcases List.mem_append.mp hm with y | y
  · exact (h.put hz).1 m y
  · rw [List.mem_singleton.mp y, valV_put, if_pos rfl]
    exact ⟨z, rfl⟩
/-- the first i of the numbers are named in their order -/
def Named (N : List Int) (f : Int) (i : Nat) (kvs : List (Key × V)) : Prop := ∀ m ∈ N.take i, valV kvs (Sum.inl m) = some (.int (f + (N.idxOf m : Nat)))
theorem Named.next {N : List Int} {f : Int} {i : Nat} {kvs : List (Key × V)} {n : Int} (h : Named N f i kvs) (nd : N.Nodup) (hn : N[i]? = some n) : Named N f (i + 1) (putK kvs (Sum.inl n) (.int (f + (i : Nat)))) := by
  have hi : N.idxOf n = i := by
    obtain ⟨h1, h2⟩ := List.getElem?_eq_some_iff.mp hn
    rw [← h2]
    exact nd.idxOf_getElem i h1
  intro m hm
  rw [valV_put]
  by_cases e : m = n
  · rw [if_pos (congrArg _ e), e, hi]
  · rw [if_neg (fun y => e (Sum.inl.inj y))]
    rw [List.take_add_one, hn] at hm
    rcases List.mem_append.mp hm with y | y
    · exact h m y
    · exact absurd (List.mem_singleton.mp y) e
/-! ### the promises -/
def sp_is_variable (K : PySem.W.Frag) : Sp := fun vs H Q _ => ∃ (x : V) (d : PyData), vs = [x] ∧ Dp K H x d ∧ NdA d ∧ Q (.bl (isVarN d)) H
def sp_variables (K : PySem.W.Frag) : Sp := fun vs H Q _ => ∃ (x : V) (ds : List PyData), vs = [x] ∧ Dp K H x (.tuple ds) ∧ (∀ d ∈ ds, NdA d) ∧ ds.length ≤ 100 ∧ ∀ p H', Same H H' → H p = Option.none → H' p = some (.lst ((nums ds).map V.int)) → Q (.ref p) H'
def sp__law_numbers (K : PySem.W.Frag) : Sp := sp_variables K
def sp_renumber (K : PySem.W.Frag) : Sp := fun vs H Q _ => ∃ (x : V) (ds : List PyData) (f : Int), vs = [x, .int f] ∧ Dp K H x (.tuple ds) ∧ (∀ d ∈ ds, NdA d) ∧ ds.length ≤ 100 ∧ ∀ v H', Same H H' → Dp K H' v (.tuple (renM f ds)) → Q v H'
def sp_are_variants (K : PySem.W.Frag) : Sp := fun vs H Q _ => ∃ (x y : V) (l r : List PyData), vs = [x, y] ∧ Dp K H x (.tuple l) ∧ Dp K H y (.tuple r) ∧ (∀ d ∈ l, NdA d) ∧ (∀ d ∈ r, NdA d) ∧ l.length ≤ 100 ∧ r.length ≤ 100 ∧ ∀ H', Same H H' → Q (.bl (PyData.eqv (.tuple (renM 0 l)) (.tuple (renM 0 r)))) H'
def sp__law_mapped (K : PySem.W.Frag) : Sp := fun vs H Q _ => ∃ (x : V) (p : Addr) (ds : List PyData) (kvs : List (Key × V)) (g : Int → Int), vs = [x, .ref p] ∧ Dp K H x (.tuple ds) ∧ (∀ d ∈ ds, NdA d) ∧ ds.length ≤ 100 ∧ H p = some (.dK kvs) ∧ (∀ d ∈ ds, isVarN d = true → valV kvs (Sum.inl (numN d)) = some (.int (g (numN d)))) ∧
  ∀ v H', Same H H' → Dp K H' v (.tuple (ds.map (mapD g))) → Q v H'
def sp__law_variants (K : PySem.W.Frag) : Sp := fun vs H Q _ => ∃ (x y : V) (l r : List PyData), vs = [x, y] ∧ Dp K H x (.tuple l) ∧ Dp K H y (.tuple r) ∧ (∀ d ∈ l, NdA d) ∧ (∀ d ∈ r, NdA d) ∧ l.length ≤ 100 ∧ r.length ≤ 100 ∧ ∀ b H', Same H H' → (b = true ↔ VarP l r) → Q (.bl b) H'
def sp_law (K : PySem.W.Frag) : Sp := fun vs H Q _ => ∃ (a : Addr) (ns : List Int), vs = [.ref a] ∧ SqL K H a (ns.map V.int) ∧ ns.length ≤ 63 ∧ ∀ H', Q (.bl true) H'

local macro_rules | `(tactic| walk_at "lits") => `(tactic| repeat' (first | exact lit_int | exact lit_str | exact lit_bl | exact lit_non | exact litA_nil | refine litA_cons ?_ ?_ | refine lit_tup ?_ (by decide) | refine lit_lst ?_ (by decide) | refine lit_neg ?_ | refine lit_sub ?_ ?_ | refine lit_pow ?_ ?_ ⟨by decide, by decide, by decide⟩ | refine lit_mulS ?_ ?_ ⟨by decide, by decide, by decide⟩))
section
variable {P : Program} {w : World} {K : PySem.W.Frag} {mg : Str → Option Value} {base : Heap}
theorem ok_is_variable {f : Addr} {fd : FuncData} (F : Fun K "is_variable" "is_variable" s_is_variable f fd) (E : Bi K mg)  : FnOk P w K mg base CX0 1 f fd ["node"] (sp_is_variable K) := by
  refine F.ok sc_is_variable (fun vs H Q E h => ?_) (fun cdv A outer s H vs Q E' hr h => ?_)
  · obtain ⟨x, d, rfl, _⟩ := h
    rfl
  · obtain ⟨x, d, rfl, hd, ⟨wd, nd⟩, q⟩ := h
    refine ⟨_, (pss_one (ps_ret (pe_and (pe_callB call_isi (by rfl) E.b_isinstance (by decide +kernel) (pa_cons (pv 0) (pa_cons (pe_ty "tuple" (by rfl) E.b_tuple (by decide +kernel)) pa_nil))) (pe_one (pe_cmpR op_eq (pe_ix ix_tup (pv 0) pe_int (fun _ _ => rfl)) pe_str (nomark _)))))), ?_⟩
    refine ⟨x, rfl, _, _, _, _, _, rfl, .ty _, tyx_of hd, kit_ty (kitT _), _, rfl, ?_⟩
    cases nd with
    | v n h1 h2 =>
      cases hd with
      | tup hs ha =>
        obtain ⟨v, hv, hdv⟩ := DpAll.get (i := 0) ha rfl
        cases hdv
        refine iteT ⟨_, rfl, _, _, _, _, rfl, rfl, hs, atI_nat (j := 0) hv, rfl, ?_⟩
        rw [decide_eq_true rfl]
        exact q
    | i n h1 h2 => exact iteF q
    | f y n h1 h2 h3 =>
      cases hd with
      | tup hs ha =>
        obtain ⟨v, hv, hdv⟩ := DpAll.get (i := 0) ha rfl
        cases hdv
        refine iteT ⟨_, rfl, _, _, _, _, rfl, rfl, hs, atI_nat (j := 0) hv, rfl, ?_⟩
        rw [show decide (V.str (Str.ofString "f") = V.str (Str.ofString "v")) = false by decide +kernel]
        exact q

theorem ok__law_stream {f : Addr} {fd : FuncData} (F : Fun K "_law_stream" "_law_stream" s__law_stream f fd) (E : Bi K mg)  : FnOk P w K mg base CX0 1 f fd ["script"] (sp__law_stream K) := by
  refine F.ok sc__law_stream (fun vs H Q E h => ?_) (fun cdv A outer s H vs Q E' hr h => ?_)
  · obtain ⟨a, ns, rfl, _⟩ := h
    rfl
  · obtain ⟨a, ns, rfl, hS, hl, q⟩ := h
    refine ⟨_, (pss_cons (ps_set (i := 1) sc__law_stream.nd rfl (Or.inl rfl) pe_int)
      (pss_cons (ps_for PassesOwn.never rfl (pi_list (pv 0)) (pg_name (i := 2) sc__law_stream.nd rfl (Or.inl rfl)) (pss_one (ps_set (i := 1) sc__law_stream.nd rfl (Or.inl rfl) (pe_op op_mod (pe_callTy call_int1 (by rfl) E.b_int (by decide +kernel) (pa_cons (pe_op op_add (pe_op op_add (pe_op op_mul (pv 1) pe_int) (pe_op op_mod (pe_callTy call_int1 (by rfl) E.b_int (by decide +kernel) (pa_cons (pv 2) pa_nil)) pe_int)) pe_int) pa_nil)) pe_int))))
      (pss_one (ps_ret (pe_lst (pa_cons (pe_callTy call_list_of (by rfl) E.b_list (by decide +kernel) (pa_cons (pv 0) pa_nil)) (pa_cons pe_int (pa_cons pe_int (pa_cons (pv 1) pa_nil))))))))), ?_⟩
    refine ⟨_, rfl, a, rfl, ⟨_, hS⟩, for_list (K := K) (a := a) (xs := ns.map V.int) (fun i σ H1 => ∃ (m : Int) (v : Option V), σ = [some (.ref a), some (.int m), v] ∧ H1 = H ∧ 0 ≤ m ∧ m < 2147483647)
      ⟨17, none, rfl, rfl, by decide, by decide⟩ (fun i σ H1 _ ⟨_, _, _, e, _⟩ => by rw [e]; exact hS) ?_ ?_⟩
    · rintro i y σ H1 hi ⟨m, v, rfl, rfl, h0, h1⟩
      obtain ⟨z, rfl⟩ : ∃ z, y = V.int z := by
        rw [List.getElem?_map] at hi
        cases e : ns[i]? with
        | none =>
          rw [e] at hi
          cases hi
        | some z =>
          rw [e] at hi
          exact ⟨z, (Option.some.inj hi).symm⟩
      refine ⟨_, rfl, _, _, rfl, rfl, .inr ⟨by decide, by decide⟩, _, rfl, .inl ⟨_, rfl, _, _, rfl, rfl, (by decide : (0 : Int) < 65521), _, _, rfl, rfl, _, _, rfl, rfl, .inl ⟨_, rfl, _, _, rfl, rfl, (by decide : (0 : Int) < 2147483647), ?_⟩⟩⟩
      exact ⟨_, _, rfl, rfl, Int.emod_nonneg _ (by decide), Int.emod_lt_of_pos _ (by decide)⟩
    · rintro σ H1 ⟨m, v, rfl, rfl, h0, h1⟩
      refine ⟨_, rfl, a, _, rfl, .inl hS, fun l hl2 => ⟨_, rfl, (by show 4 ≤ sizeLine; decide), fun p hp => ?_⟩⟩
      have npl : l ≠ p := fun z => by
        rw [← z, upd_same] at hp
        cases hp
      refine q p l _ ((same_upd hl2).free hp) hl2 ((same_upd hl2).trans (same_upd hp)) ⟨0, 0, m, ns, upd_same, ?_, hl, Int.le_refl 0, Int.le_refl 0, h0, h1⟩
      rw [upd_ne npl, upd_same]

theorem ok__law_draw {f : Addr} {fd : FuncData} (F : Fun K "_law_draw" "_law_draw" s__law_draw f fd) (E : Bi K mg)  : FnOk P w K mg base CX0 1 f fd ["stream", "many"] (sp__law_draw K) := by
  refine F.ok sc__law_draw (fun vs H Q E h => ?_) (fun cdv A outer s H vs Q E' hr h => ?_)
  · obtain ⟨s, l, n, rfl, _⟩ := h
    rfl
  · obtain ⟨p, l, n, rfl, hS, hn, hn2, q⟩ := h
    obtain ⟨a, b, m, ns, h1, h2, hlen, ha, hb, hm, hm2⟩ := hS.ex
    have nlp : l ≠ p := fun z => by
      rw [z, h1] at h2
      have h3 := HO.lst.inj (Option.some.inj h2)
      cases ns with
      | nil => cases h3
      | cons x r => cases (List.cons.inj h3).1
    refine ⟨_, (pss_cons (ps_if (pw_and (pt_cmpR op_eq (pe_ix ix_list (pv 0) pe_int (fun _ _ => rfl)) pe_int (nomark _)) (pw_and1 (pt_cmpR op_lt (pe_ix ix_list (pv 0) pe_int (fun _ _ => rfl)) (pe_callB call_len_seq (by rfl) E.b_len PySem.boot_len (pa_cons (pe_ix ix_list (pv 0) pe_int (fun _ _ => rfl)) pa_nil)) (nomark _)))).pt (pss_cons (ps_asg (pe_callB call_abs (by rfl) E.b_abs (by decide +kernel) (pa_cons (pe_callTy call_int1 (by rfl) E.b_int (by decide +kernel) (pa_cons (pe_ix ix_list (pe_ix ix_list (pv 0) pe_int (fun _ _ => rfl)) (pe_ix ix_list (pv 0) pe_int (fun _ _ => rfl)) (fun _ _ => rfl)) pa_nil)) pa_nil)) (pg_sub (pv 0) pe_int set_list))
      (pss_one (ps_asg (pe_op op_add (pe_ix ix_list (pv 0) pe_int (fun _ _ => rfl)) pe_int) (pg_sub (pv 0) pe_int set_list)))) pss_nil)
      (pss_cons (ps_if (pt_cmpR op_eq (pe_ix ix_list (pv 0) pe_int (fun _ _ => rfl)) pe_int (nomark _)) (pss_cons (ps_asg (pe_op op_mod (pe_callTy call_int1 (by rfl) E.b_int (by decide +kernel) (pa_cons (pe_op op_add (pe_op op_mul (pe_ix ix_list (pv 0) pe_int (fun _ _ => rfl)) pe_int) pe_int) pa_nil)) pe_int) (pg_sub (pv 0) pe_int set_list))
      (pss_one (ps_ret (pe_op op_mod (pe_callTy call_int1 (by rfl) E.b_int (by decide +kernel) (pa_cons (pe_op op_fdivW (pe_ix ix_list (pv 0) pe_int (fun _ _ => rfl)) pe_int) pa_nil)) (pv 1))))) pss_nil)
      (pss_cons (ps_set (i := 2) sc__law_draw.nd rfl (Or.inl rfl) (pe_op op_mod (pe_callTy call_int1 (by rfl) E.b_int (by decide +kernel) (pa_cons (pe_ix ix_list (pv 0) pe_int (fun _ _ => rfl)) pa_nil)) (pv 1)))
      (pss_cons (ps_asg (pe_op op_fdivW (pe_ix ix_list (pv 0) pe_int (fun _ _ => rfl)) (pv 1)) (pg_sub (pv 0) pe_int set_list))
      (pss_one (ps_ret (pv 2))))))), ?_⟩
    refine ⟨_, rfl, _, _, _, _, rfl, rfl, SqL.of h1, atI_nat (j := 1) rfl, rfl, _, rfl, ite2 (fun e => ?_) (fun e => ?_)⟩
    · refine ⟨_, rfl, _, _, _, _, rfl, rfl, SqL.of h1, atI_nat (j := 2) rfl, _, rfl, _, _, _, _, rfl, rfl, SqL.of h1, atI_nat (j := 0) rfl, _, _, rfl, .inl (SqL.of h2), _, _, rfl, rfl, _, rfl, ite2 (fun e1 => ?_) (fun e1 => ?_)⟩
      · have e2 : b < (ns.map V.int).length := of_decide_eq_true e1
        rw [List.length_map] at e2
        have hz : (ns.map V.int)[b.toNat]? = some (V.int (ns[b.toNat]'(by omega))) := by
          rw [List.getElem?_map, List.getElem?_eq_getElem (by omega)]
          rfl
        refine ⟨_, rfl, _, _, _, _, rfl, rfl, SqL.of h1, atI_nat (j := 0) rfl, _, rfl, _, _, _, _, rfl, rfl, SqL.of h1, atI_nat (j := 2) rfl, _, _, _, _, rfl, rfl, SqL.of h2, at_of (j := b.toNat) (by omega) hz, .inl ⟨_, rfl, _, rfl, _, rfl, _, _, _, _, rfl, rfl, h1, rfl, ?_⟩⟩
        refine ⟨_, rfl, _, _, _, _, rfl, rfl, SqL.of upd_same, atI_nat (j := 2) rfl, _, _, rfl, rfl, _, rfl, _, _, _, _, rfl, rfl, upd_same, rfl, ?_⟩
        generalize hH : upd _ p _ = H1
        have hX : ∃ a' b' : Int, H1 p = some (.lst [.ref l, .int a', .int b', .int m]) ∧ 0 ≤ a' ∧ 0 ≤ b' := ⟨_, _, by rw [← hH]; exact upd_same, by split <;> omega, by omega⟩
        have hB : But p H H1 := by rw [← hH]; exact But.put.trans But.put
        have hL : H1 l = some (.lst (ns.map V.int)) := hB l _ nlp h2
        clear hH
        obtain ⟨a', b', hX, ha', hb'⟩ := hX
        refine ⟨_, rfl, _, _, _, _, rfl, rfl, SqL.of hX, atI_nat (j := 1) rfl, rfl, _, rfl, ite2 (fun e3 => ?_) (fun e3 => ?_)⟩
        · refine ⟨_, rfl, _, _, _, _, rfl, rfl, SqL.of hX, atI_nat (j := 3) rfl, _, _, rfl, rfl, .inr ⟨by decide, by decide⟩, _, _, rfl, rfl, .inl ⟨_, rfl, _, _, rfl, rfl, (by decide : (0 : Int) < 2147483647), _, rfl, _, _, _, _, rfl, rfl, hX, rfl, ?_⟩⟩
          refine ⟨_, rfl, _, _, _, _, rfl, rfl, SqL.of upd_same, atI_nat (j := 3) rfl, _, _, rfl, rfl, wide_div (b := 64) (by decide) (by decide) (by decide) (by decide), .inl ⟨_, rfl, _, rfl, _, _, rfl, rfl, hn, ?_⟩⟩
          exact q _ _ (Int.emod_nonneg _ (by omega)) (Int.emod_lt_of_pos _ hn) (hB.trans But.put) ⟨a', b', _, ns, upd_same, by rw [upd_ne nlp]; exact hL, hlen, ha', hb', Int.emod_nonneg _ (by decide), Int.emod_lt_of_pos _ (by decide)⟩
        · refine ⟨_, rfl, _, _, _, _, rfl, rfl, SqL.of hX, atI_nat (j := 1) rfl, .inl ⟨_, rfl, _, rfl, _, _, rfl, rfl, hn, ?_⟩⟩
          refine ⟨_, rfl, _, _, _, _, rfl, rfl, SqL.of hX, atI_nat (j := 1) rfl, _, rfl, _, _, rfl, rfl, wide_div hn hn2 (by decide) (by decide), _, rfl, _, _, _, _, rfl, rfl, hX, rfl, ?_⟩
          refine ⟨_, rfl, ?_⟩
          exact q _ _ (Int.emod_nonneg _ (by omega)) (Int.emod_lt_of_pos _ hn) (hB.trans But.put) ⟨_, b', m, ns, upd_same, by rw [upd_ne nlp]; exact hL, hlen, Int.ediv_nonneg ha' (by omega), hb', hm, hm2⟩
      · have hX : ∃ a' b' : Int, H p = some (.lst [.ref l, .int a', .int b', .int m]) ∧ 0 ≤ a' ∧ 0 ≤ b' := ⟨_, _, h1, ha, hb⟩
        have hB : But p H H := But.refl p H
        have hL := h2
        obtain ⟨a', b', hX, ha', hb'⟩ := hX
        refine ⟨_, rfl, _, _, _, _, rfl, rfl, SqL.of hX, atI_nat (j := 1) rfl, rfl, _, rfl, ite2 (fun e3 => ?_) (fun e3 => ?_)⟩
        · refine ⟨_, rfl, _, _, _, _, rfl, rfl, SqL.of hX, atI_nat (j := 3) rfl, _, _, rfl, rfl, .inr ⟨by decide, by decide⟩, _, _, rfl, rfl, .inl ⟨_, rfl, _, _, rfl, rfl, (by decide : (0 : Int) < 2147483647), _, rfl, _, _, _, _, rfl, rfl, hX, rfl, ?_⟩⟩
          refine ⟨_, rfl, _, _, _, _, rfl, rfl, SqL.of upd_same, atI_nat (j := 3) rfl, _, _, rfl, rfl, wide_div (b := 64) (by decide) (by decide) (by decide) (by decide), .inl ⟨_, rfl, _, rfl, _, _, rfl, rfl, hn, ?_⟩⟩
          exact q _ _ (Int.emod_nonneg _ (by omega)) (Int.emod_lt_of_pos _ hn) (hB.trans But.put) ⟨a', b', _, ns, upd_same, by rw [upd_ne nlp]; exact hL, hlen, ha', hb', Int.emod_nonneg _ (by decide), Int.emod_lt_of_pos _ (by decide)⟩
        · refine ⟨_, rfl, _, _, _, _, rfl, rfl, SqL.of hX, atI_nat (j := 1) rfl, .inl ⟨_, rfl, _, rfl, _, _, rfl, rfl, hn, ?_⟩⟩
          refine ⟨_, rfl, _, _, _, _, rfl, rfl, SqL.of hX, atI_nat (j := 1) rfl, _, rfl, _, _, rfl, rfl, wide_div hn hn2 (by decide) (by decide), _, rfl, _, _, _, _, rfl, rfl, hX, rfl, ?_⟩
          refine ⟨_, rfl, ?_⟩
          exact q _ _ (Int.emod_nonneg _ (by omega)) (Int.emod_lt_of_pos _ hn) (hB.trans But.put) ⟨_, b', m, ns, upd_same, by rw [upd_ne nlp]; exact hL, hlen, Int.ediv_nonneg ha' (by omega), hb', hm, hm2⟩
    · have hX : ∃ a' b' : Int, H p = some (.lst [.ref l, .int a', .int b', .int m]) ∧ 0 ≤ a' ∧ 0 ≤ b' := ⟨_, _, h1, ha, hb⟩
      have hB : But p H H := But.refl p H
      have hL := h2
      obtain ⟨a', b', hX, ha', hb'⟩ := hX
      refine ⟨_, rfl, _, _, _, _, rfl, rfl, SqL.of hX, atI_nat (j := 1) rfl, rfl, _, rfl, ite2 (fun e3 => ?_) (fun e3 => ?_)⟩
      · refine ⟨_, rfl, _, _, _, _, rfl, rfl, SqL.of hX, atI_nat (j := 3) rfl, _, _, rfl, rfl, .inr ⟨by decide, by decide⟩, _, _, rfl, rfl, .inl ⟨_, rfl, _, _, rfl, rfl, (by decide : (0 : Int) < 2147483647), _, rfl, _, _, _, _, rfl, rfl, hX, rfl, ?_⟩⟩
        refine ⟨_, rfl, _, _, _, _, rfl, rfl, SqL.of upd_same, atI_nat (j := 3) rfl, _, _, rfl, rfl, wide_div (b := 64) (by decide) (by decide) (by decide) (by decide), .inl ⟨_, rfl, _, rfl, _, _, rfl, rfl, hn, ?_⟩⟩
        exact q _ _ (Int.emod_nonneg _ (by omega)) (Int.emod_lt_of_pos _ hn) (hB.trans But.put) ⟨a', b', _, ns, upd_same, by rw [upd_ne nlp]; exact hL, hlen, ha', hb', Int.emod_nonneg _ (by decide), Int.emod_lt_of_pos _ (by decide)⟩
      · refine ⟨_, rfl, _, _, _, _, rfl, rfl, SqL.of hX, atI_nat (j := 1) rfl, .inl ⟨_, rfl, _, rfl, _, _, rfl, rfl, hn, ?_⟩⟩
        refine ⟨_, rfl, _, _, _, _, rfl, rfl, SqL.of hX, atI_nat (j := 1) rfl, _, rfl, _, _, rfl, rfl, wide_div hn hn2 (by decide) (by decide), _, rfl, _, _, _, _, rfl, rfl, hX, rfl, ?_⟩
        refine ⟨_, rfl, ?_⟩
        exact q _ _ (Int.emod_nonneg _ (by omega)) (Int.emod_lt_of_pos _ hn) (hB.trans But.put) ⟨_, b', m, ns, upd_same, by rw [upd_ne nlp]; exact hL, hlen, Int.ediv_nonneg ha' (by omega), hb', hm, hm2⟩

theorem ok__law_numbers {f : Addr} {fd : FuncData} (F : Fun K "_law_numbers" "_law_numbers" s__law_numbers f fd) (E : Bi K mg)  : FnOk P w K mg base CX0 1 f fd ["term"] (sp__law_numbers K) := by
  refine F.ok sc__law_numbers (fun vs H Q E h => ?_) (fun cdv A outer s H vs Q E' hr h => ?_)
  · obtain ⟨x, ds, rfl, _⟩ := h
    rfl
  · obtain ⟨x, ds, rfl, hx, hn, hl, q⟩ := h
    refine ⟨_, (pss_cons (ps_set (i := 1) sc__law_numbers.nd rfl (Or.inl rfl) (pe_lst pa_nil))
      (pss_cons (ps_for PassesOwn.never rfl (pi_tup (pv 0)) (pg_name (i := 2) sc__law_numbers.nd rfl (Or.inl rfl)) (pss_one (ps_if (pw_and (pt_val (pe_callB call_isi (by rfl) E.b_isinstance (by decide +kernel) (pa_cons (pv 2) (pa_cons (pe_ty "tuple" (by rfl) E.b_tuple (by decide +kernel)) pa_nil)))) (pw_and (pt_cmpR op_eq (pe_ix ix_tup (pv 2) pe_int (fun _ _ => rfl)) pe_str (nomark _)) (pw_and1 (pt_cmpR op_notIn_seq (pe_ix ix_tup (pv 2) pe_int (fun _ _ => rfl)) (pv 1) (by rfl))))).pt (pss_one (ps_expr (pe_bm PySem.F.plainAttrs_list PySem.F.slot_list_append PySem.F.type_list_append mt_append (pv 1) (pa_cons (pe_ix ix_tup (pv 2) pe_int (fun _ _ => rfl)) pa_nil)))) pss_nil)))
      (pss_one (ps_ret (pv 1))))), ?_⟩
    refine seq_asg ?_
    refine ⟨Nat.zero_le _, fun r nr => ?_⟩
    refine gname (seq_any ?_)
    have s0 : Same H (upd H r (.lst [])) := same_upd nr
    have put : ∀ {H1 : Hp} {o : HO}, Same H H1 → Same H (upd H1 r o) := fun {H1 o} s1 b u e => by rw [upd_ne (ne_of_none e nr)]; exact s1 b u e
    cases id hx with
    | @tup a xs _ hs ha =>
    have hxl := DpAll.len ha
    refine ⟨_, rfl, a, rfl, ⟨_, same_sqT s0 hs⟩, for_tup (K := K) (a := a) (xs := xs) (fun i σ H' => ∃ (vn : Option V), σ = [some (.ref a), some (.ref r), vn] ∧ Same H H' ∧ H' r = some (.lst ((nums (ds.take i)).map V.int)))
      ⟨none, rfl, s0, upd_same⟩ (fun i σ H' _ ⟨_, _, e, _⟩ => same_sqT e hs) ?_ ?_⟩
    · rintro i y σ H1 hi ⟨vn, rfl, s1, h1⟩
      obtain ⟨d, hd, dy0⟩ := DpAll.getV ha hi
      have ndd := hn d (List.mem_of_getElem? hd)
      have dy := dp_same s1 _ _ dy0
      have hil := (List.getElem?_eq_some_iff.mp hd).1
      have hnl := nums_len (ds.take i)
      rw [List.length_take] at hnl
      have stay : ¬ isVarN d = true → ∃ (vn : Option V), [some (V.ref a), some (.ref r), some y] = [some (.ref a), some (.ref r), vn] ∧ Same H H1 ∧ H1 r = some (.lst ((nums (ds.take (i + 1))).map V.int)) := fun v => by
        refine ⟨_, rfl, s1, ?_⟩
        rw [nums_take hd, numS_non v]
        exact h1
      refine gname ?_
      refine ⟨_, rfl, _, _, _, _, _, rfl, .ty _, tyx_of dy, kit_ty (kitT _), _, rfl, ?_⟩
      obtain ⟨wd, nd⟩ := id ndd
      cases nd with
      | i n z1 z2 => exact iteF (iteF (stay (fun z => nomatch z)))
      | f x0 n z0 z1 z2 =>
        cases id dy with
        | @tup c zs _ hz az =>
        obtain ⟨v0, hv0, dv0⟩ := DpAll.get (i := 0) az rfl
        cases dv0
        refine iteT ⟨_, rfl, _, _, _, _, rfl, rfl, hz, atI_nat (j := 0) hv0, rfl, _, rfl, ?_⟩
        rw [show decide (V.str (Str.ofString "f") = V.str (Str.ofString "v")) = false by decide +kernel]
        exact iteF (iteF (stay (fun z => nomatch z)))
      | v n z1 z2 =>
        cases id dy with
        | @tup c zs _ hz az =>
        obtain ⟨v0, hv0, dv0⟩ := DpAll.get (i := 0) az rfl
        obtain ⟨v2, hv2, dv2⟩ := DpAll.get (i := 1) az rfl
        cases dv0
        cases dv2
        refine iteT ⟨_, rfl, _, _, _, _, rfl, rfl, hz, atI_nat (j := 0) hv0, rfl, _, rfl, ?_⟩
        rw [decide_eq_true rfl]
        refine iteT ?_
        refine ⟨_, rfl, _, _, _, _, rfl, rfl, hz, atI_nat (j := 1) hv2, _, rfl, r, _, rfl, .inl (SqL.of h1), rfl, ints_flat _, _, rfl, ?_⟩
        rw [if_pos rfl, inV_int]
        by_cases hm : n ∈ nums (ds.take i)
        · rw [decide_eq_true hm]
          refine iteF ⟨_, rfl, s1, ?_⟩
          rw [nums_take hd, numS_old (d := .tuple [.str "v", .int n]) hm]
          exact h1
        · rw [decide_eq_false hm]
          refine iteT ?_
          refine ⟨_, rfl, .inl ⟨rfl, _, SqL.of h1⟩, _, rfl, _, _, _, _, rfl, rfl, hz, atI_nat (j := 1) hv2, _, _, _, rfl, rfl, h1, small1000 (by rw [List.length_map]; omega), ?_⟩
          refine ⟨_, rfl, put s1, ?_⟩
          rw [upd_same, nums_take hd, numS_new (d := .tuple [.str "v", .int n]) rfl hm, List.map_append]
          rfl
    · rintro σ H1 ⟨vn, rfl, s1, h1⟩
      rw [hxl, List.take_length] at h1
      refine nxp ?_
      exact ⟨_, rfl, q r _ s1 nr h1⟩

theorem ok__law_mapped {f : Addr} {fd : FuncData} (F : Fun K "_law_mapped" "_law_mapped" s__law_mapped f fd) (E : Bi K mg)  : FnOk P w K mg base CX0 1 f fd ["term", "table"] (sp__law_mapped K) := by
  refine F.ok sc__law_mapped (fun vs H Q E h => ?_) (fun cdv A outer s H vs Q E' hr h => ?_)
  · obtain ⟨x, p, ds, kvs, g, rfl, _⟩ := h
    rfl
  · obtain ⟨x, p, ds, kvs, g, rfl, hx, hn, hl, hp, hg, q⟩ := h
    refine ⟨_, (pss_cons (ps_set (i := 2) sc__law_mapped.nd rfl (Or.inl rfl) (pe_lst pa_nil))
      (pss_cons (ps_for PassesOwn.never rfl (pi_tup (pv 0)) (pg_name (i := 3) sc__law_mapped.nd rfl (Or.inl rfl)) (pss_one (ps_if (pw_and (pt_val (pe_callB call_isi (by rfl) E.b_isinstance (by decide +kernel) (pa_cons (pv 3) (pa_cons (pe_ty "tuple" (by rfl) E.b_tuple (by decide +kernel)) pa_nil)))) (pw_and1 (pt_cmpR op_eq (pe_ix ix_tup (pv 3) pe_int (fun _ _ => rfl)) pe_str (nomark _)))).pt (pss_one (ps_expr (pe_bm PySem.F.plainAttrs_list PySem.F.slot_list_append PySem.F.type_list_append mt_append (pv 2) (pa_cons (pe_tup (pa_cons pe_str (pa_cons (pe_dget (hu_of hr) (pv 1) (pe_ix ix_tup (pv 3) pe_int (fun _ _ => rfl)) (fun _ _ => rfl)) pa_nil))) pa_nil)))) (pss_one (ps_expr (pe_bm PySem.F.plainAttrs_list PySem.F.slot_list_append PySem.F.type_list_append mt_append (pv 2) (pa_cons (pv 3) pa_nil)))))))
      (pss_one (ps_ret (pe_callTy call_tuple_of (by rfl) E.b_tuple (by decide +kernel) (pa_cons (pv 2) pa_nil)))))), ?_⟩
    refine seq_asg ?_
    refine ⟨Nat.zero_le _, fun r nr => ?_⟩
    refine gname (seq_any ?_)
    have s0 : Same H (upd H r (.lst [])) := same_upd nr
    have put : ∀ {H1 : Hp} {o : HO}, Same H H1 → Same H (upd H1 r o) := fun {H1 o} s1 b u e => by rw [upd_ne (ne_of_none e nr)]; exact s1 b u e
    cases id hx with
    | @tup a xs _ hs ha =>
    have hxl := DpAll.len ha
    refine ⟨_, rfl, a, rfl, ⟨_, same_sqT s0 hs⟩, for_tup (K := K) (a := a) (xs := xs) (fun i σ H' => ∃ (vn : Option V) (ys : List V), σ = [some (.ref a), some (.ref p), some (.ref r), vn] ∧ Same H H' ∧ H' r = some (.lst ys) ∧ DpAll K H' ys ((ds.take i).map (mapD g)) ∧ ys.length = i)
      ⟨none, [], rfl, s0, upd_same, .nil, rfl⟩ (fun i σ H' _ ⟨_, _, _, e, _⟩ => same_sqT e hs) ?_ ?_⟩
    · rintro i y σ H1 hi ⟨vn, ys, rfl, s1, h1, h2, h3⟩
      obtain ⟨d, hd, dy0⟩ := DpAll.getV ha hi
      have hdm := List.mem_of_getElem? hd
      have ndd := hn d hdm
      have dy := dp_same s1 _ _ dy0
      have hil := (List.getElem?_eq_some_iff.mp hd).1
      have noA : noLA ((ds.take i).map (mapD g)) = true := by
        have : ∀ l : List PyData, (∀ d ∈ l, NdA d) → noLA (l.map (mapD g)) = true := by
          intro l
          induction l with
          | nil => intro _; simp [noLA]
          | cons d r ih =>
            intro h
            rw [List.map_cons, noLA, ih fun x hx => h x (List.mem_cons_of_mem _ hx), Bool.and_true]
            unfold mapD
            split
            · simp [noL, noLA]
            · exact nd_noL (h d List.mem_cons_self)
        exact this _ fun x hx => hn x (List.mem_of_mem_take hx)
      -- a node is put behind
      have add : ∀ (H2 : Hp) (v : V), Same H1 H2 → Dp K H2 v (mapD g d) → noL (mapD g d) = true → ∃ (vn : Option V) (ys' : List V), [some (V.ref a), some (.ref p), some (.ref r), some y] = [some (.ref a), some (.ref p), some (.ref r), vn] ∧ Same H (upd H2 r (.lst (ys ++ [v]))) ∧ (upd H2 r (.lst (ys ++ [v]))) r = some (.lst ys') ∧ DpAll K (upd H2 r (.lst (ys ++ [v]))) ys' ((ds.take (i + 1)).map (mapD g)) ∧ ys'.length = i + 1 := by
        intro H2 v s2 dv nv
        refine ⟨_, ys ++ [v], rfl, put (s1.trans s2), upd_same, ?_, by rw [List.length_append, h3]; rfl⟩
        rw [List.take_add_one, hd, List.map_append]
        have nt : notTup H2 r := .inl ⟨_, s2 _ _ h1⟩
        exact DpAll.app (dp_putAll nt _ _ noA (dp_sameAll s2 _ _ h2)) (.cons (dp_put nt _ _ nv dv) .nil)
      have stay : ¬ isVarN d = true → mapD g d = d := fun v => if_neg v
      refine gname ?_
      refine ⟨_, rfl, _, _, _, _, _, rfl, .ty _, tyx_of dy, kit_ty (kitT _), _, rfl, ?_⟩
      obtain ⟨wd, nd⟩ := id ndd
      cases nd with
      | i n z1 z2 =>
        refine iteF (iteF ?_)
        refine ⟨_, rfl, .inl ⟨rfl, _, SqL.of h1⟩, _, rfl, _, _, _, rfl, rfl, h1, small1000 (by omega), ?_⟩
        exact add H1 _ (Same.refl _) dy (nd_noL ndd)
      | f x0 n z0 z1 z2 =>
        cases id dy with
        | @tup c zs _ hz az =>
        obtain ⟨v0, hv0, dv0⟩ := DpAll.get (i := 0) az rfl
        cases dv0
        refine iteT ⟨_, rfl, _, _, _, _, rfl, rfl, hz, atI_nat (j := 0) hv0, rfl, _, rfl, ?_⟩
        rw [show decide (V.str (Str.ofString "f") = V.str (Str.ofString "v")) = false by decide +kernel]
        refine iteF ?_
        refine ⟨_, rfl, .inl ⟨rfl, _, SqL.of h1⟩, _, rfl, _, _, _, rfl, rfl, h1, small1000 (by omega), ?_⟩
        exact add H1 _ (Same.refl _) dy (nd_noL ndd)
      | v n z1 z2 =>
        cases id dy with
        | @tup c zs _ hz az =>
        obtain ⟨v0, hv0, dv0⟩ := DpAll.get (i := 0) az rfl
        obtain ⟨v2, hv2, dv2⟩ := DpAll.get (i := 1) az rfl
        cases dv0
        cases dv2
        refine iteT ⟨_, rfl, _, _, _, _, rfl, rfl, hz, atI_nat (j := 0) hv0, rfl, _, rfl, ?_⟩
        rw [decide_eq_true rfl]
        refine iteT ?_
        have gg : DGet H1 p (.int n) (some (.int (g n))) := by
          have := DGet.k (k := Sum.inl n) (s1 _ _ hp)
          rw [show valV kvs (Sum.inl n) = some (.int (g n)) from hg _ hdm rfl] at this
          exact this
        refine ⟨_, rfl, .inl ⟨rfl, _, SqL.of h1⟩, _, rfl, _, rfl, _, _, _, _, rfl, rfl, hz, atI_nat (j := 1) hv2, p, _, rfl, gg, (by show 2 ≤ sizeLine; decide), fun t nt => ?_⟩
        have rt : r ≠ t := ne_of_none h1 nt
        refine ⟨_, _, _, rfl, rfl, by rw [upd_ne rt]; exact h1, small1000 (by omega), ?_⟩
        exact add _ _ (same_upd nt) (.tup (SqT.of upd_same) (.cons (.str _) (.cons (.int _) .nil))) (by show noL (.tuple [.str "v", .int (g n)]) = true; simp [noL, noLA])
    · rintro σ H1 ⟨vn, ys, rfl, s1, h1, h2, h3⟩
      rw [hxl, List.take_length] at h2
      refine nxp ?_
      refine ⟨_, rfl, _, _, rfl, .inl ⟨SqL.of h1, fun u nu => ?_⟩⟩
      exact q _ _ (s1.trans (same_upd nu)) (.tup (SqT.of upd_same) (dp_sameAll (same_upd nu) _ _ h2))

theorem ok__law_variants {f : Addr} {fd : FuncData} (F : Fun K "_law_variants" "_law_variants" s__law_variants f fd) (E : Bi K mg)  : FnOk P w K mg base CX0 1 f fd ["left", "right"] (sp__law_variants K) := by
  refine F.ok sc__law_variants (fun vs H Q E h => ?_) (fun cdv A outer s H vs Q E' hr h => ?_)
  · obtain ⟨x, y, l, r, rfl, _⟩ := h
    rfl
  · obtain ⟨x, y, l, r, rfl, hx, hy, nl, nr, ll, lr, q⟩ := h
    refine ⟨_, (pss_cons (ps_if (pt_cmpR op_ne (pe_callB call_len_seq (by rfl) E.b_len PySem.boot_len (pa_cons (pv 0) pa_nil)) (pe_callB call_len_seq (by rfl) E.b_len PySem.boot_len (pa_cons (pv 1) pa_nil)) (nomark _)) (pss_one (ps_ret pe_bl)) pss_nil)
      (pss_cons (ps_set (i := 2) sc__law_variants.nd rfl (Or.inl rfl) (pe_lst pa_nil))
      (pss_cons (ps_for PassesOwn.never rfl (pi_range1 (by rfl) E.b_range (pa_cons (pe_callB call_len_seq (by rfl) E.b_len PySem.boot_len (pa_cons (pv 0) pa_nil)) pa_nil)) (pg_name (i := 3) sc__law_variants.nd rfl (Or.inl rfl)) (pss_cons (ps_set (i := 4) sc__law_variants.nd rfl (Or.inl rfl) (pe_ix ix_tup (pv 0) (pv 3) (fun _ _ => rfl)))
      (pss_cons (ps_set (i := 5) sc__law_variants.nd rfl (Or.inl rfl) (pe_ix ix_tup (pv 1) (pv 3) (fun _ _ => rfl)))
      (pss_one (ps_if (pw_and (pt_val (pe_callB call_isi (by rfl) E.b_isinstance (by decide +kernel) (pa_cons (pv 4) (pa_cons (pe_ty "tuple" (by rfl) E.b_tuple (by decide +kernel)) pa_nil)))) (pw_and (pt_cmpR op_eq (pe_ix ix_tup (pv 4) pe_int (fun _ _ => rfl)) pe_str (nomark _)) (pw_and (pt_val (pe_callB call_isi (by rfl) E.b_isinstance (by decide +kernel) (pa_cons (pv 5) (pa_cons (pe_ty "tuple" (by rfl) E.b_tuple (by decide +kernel)) pa_nil)))) (pw_and1 (pt_cmpR op_eq (pe_ix ix_tup (pv 5) pe_int (fun _ _ => rfl)) pe_str (nomark _)))))).pt (pss_one (ps_expr (pe_bm PySem.F.plainAttrs_list PySem.F.slot_list_append PySem.F.type_list_append mt_append (pv 2) (pa_cons (pe_tup (pa_cons (pe_ix ix_tup (pv 4) pe_int (fun _ _ => rfl)) (pa_cons (pe_ix ix_tup (pv 5) pe_int (fun _ _ => rfl)) pa_nil))) pa_nil)))) (pss_one (ps_if (pt_cmpR (op_neD hr.units) (pv 4) (pv 5) (nomark _)) (pss_one (ps_ret pe_bl)) pss_nil)))))))
      (pss_cons (ps_for PassesOwn.never rfl (pi_list (pv 2)) (pg_name (i := 6) sc__law_variants.nd rfl (Or.inl rfl)) (pss_one (ps_for PassesOwn.never rfl (pi_list (pv 2)) (pg_name (i := 7) sc__law_variants.nd rfl (Or.inl rfl)) (pss_one (ps_if (pt_cmpR op_ne (pe_cmpR op_eq (pe_ix ix_tup (pv 6) pe_int (fun _ _ => rfl)) (pe_ix ix_tup (pv 7) pe_int (fun _ _ => rfl)) (nomark _)) (pe_cmpR op_eq (pe_ix ix_tup (pv 6) pe_int (fun _ _ => rfl)) (pe_ix ix_tup (pv 7) pe_int (fun _ _ => rfl)) (nomark _)) (nomark _)) (pss_one (ps_ret pe_bl)) pss_nil)))))
      (pss_one (ps_ret pe_bl)))))), ?_⟩
    have no : ∀ H', Same H H' → ¬ VarP l r → Q (.bl false) H' := fun H' s h => q false H' s (Iff.intro (fun z => nomatch z) (fun z => absurd z h))
    cases id hx with
    | @tup a xs _ hs ha =>
    cases id hy with
    | @tup b ys _ hb hay =>
    have lx := DpAll.len ha
    have ly := DpAll.len hay
    refine seq_ifN ?_
    refine ⟨_, rfl, _, _, rfl, .inr hs, _, rfl, _, _, rfl, .inr hb, rfl, _, rfl, ite2 (fun e => ?_) (fun e => ?_)⟩
    · refine no _ (Same.refl H) fun h => ?_
      rw [lx, ly, h.1, decide_eq_true rfl] at e
      cases e
    · have hlr : l.length = r.length := by
        rcases Nat.decEq l.length r.length with z | z
        · rw [lx, ly, decide_eq_false (fun y => z (by have := V.int.inj y; omega))] at e
          exact absurd rfl e
        · exact z
      refine seq_asg ?_
      refine ⟨Nat.zero_le _, fun p np => ?_⟩
      refine gname (seq_any ?_)
      have s0 : Same H (upd H p (.lst [])) := same_upd np
      have put : ∀ {H1 : Hp} {o : HO}, Same H H1 → Same H (upd H1 p o) := fun {H1 o} s1 b u e => by rw [upd_ne (ne_of_none e np)]; exact s1 b u e
      refine ⟨_, rfl, _, _, rfl, .inr (same_sqT s0 hs), _, rfl, by omega, by omega, for_range (lo := 0) (n := xs.length) (fun i σ H' => ∃ (vk va vb : Option V) (zs : List V) (P : List (Int × Int)), σ = [some (.ref a), some (.ref b), some (.ref p), vk, va, vb, none, none] ∧ Same H H' ∧ H' p = some (.lst zs) ∧ DpAll K H' zs (P.map pairD) ∧ PairsOf l r i P ∧ P.length ≤ i ∧ ∀ (k : Nat) (a b : PyData), k < i → l[k]? = some a → r[k]? = some b → (isVarN a = true ∧ isVarN b = true) ∨ PyData.eqv a b = true)
        ⟨none, none, none, [], [], rfl, s0, upd_same, .nil, (fun n m => Iff.intro (fun h => nomatch h) (fun ⟨j, _, _, h, _⟩ => absurd h (Nat.not_lt_zero _))), Nat.le_refl 0, fun k a b h => absurd h (Nat.not_lt_zero _)⟩ ?_ ?_⟩
      · rintro i σ H1 hi ⟨vk, va, vb, zs, P, rfl, s1, h1, h2, h3, h4, h5⟩
        have hda : l[i]? = some l[i] := List.getElem?_eq_getElem (by omega)
        have hdb : r[i]? = some r[i] := List.getElem?_eq_getElem (by omega)
        generalize l[i] = c at hda
        generalize r[i] = e at hdb
        obtain ⟨u, hu, du0⟩ := DpAll.get ha hda
        obtain ⟨w, hw, dw0⟩ := DpAll.get hay hdb
        have ndc := nl c (List.mem_of_getElem? hda)
        have nde := nr e (List.mem_of_getElem? hdb)
        have du := dp_same s1 _ _ du0
        have dw := dp_same s1 _ _ dw0
        have hzl := DpAll.len h2
        rw [List.length_map] at hzl
        have hi0 : (0 : Int) + (i : Int) = ((i : Nat) : Int) := Int.zero_add _
        rw [hi0]
        refine gname (seq_asg ?_)
        refine ⟨_, rfl, _, rfl, _, _, _, _, rfl, rfl, same_sqT s1 hs, atI_nat (j := i) hu, ?_⟩
        refine gname (seq_asg ?_)
        refine ⟨_, rfl, _, rfl, _, _, _, _, rfl, rfl, same_sqT s1 hb, atI_nat (j := i) hw, ?_⟩
        refine gname ?_
        have tf : decide (V.str (Str.ofString "f") = V.str (Str.ofString "v")) = false := by decide +kernel
        -- not both are variables
        have single : ¬ (isVarN c = true ∧ isVarN e = true) → ∀ (vk : Option V), PyData.eqv c e = true → ∃ (vk' va vb : Option V) (zs : List V) (P : List (Int × Int)), [some (V.ref a), some (.ref b), some (.ref p), vk, some u, some w, none, none] = [some (.ref a), some (.ref b), some (.ref p), vk', va, vb, none, none] ∧ Same H H1 ∧ H1 p = some (.lst zs) ∧ DpAll K H1 zs (P.map pairD) ∧ PairsOf l r (i + 1) P ∧ P.length ≤ i + 1 ∧ ∀ (k : Nat) (a b : PyData), k < i + 1 → l[k]? = some a → r[k]? = some b → (isVarN a = true ∧ isVarN b = true) ∨ PyData.eqv a b = true := by
          intro nv vk eq
          refine ⟨_, _, _, zs, P, rfl, s1, h1, h2, h3.stay hda hdb nv, by omega, fun k a' b' hk ha' hb' => ?_⟩
          by_cases ek : k = i
          · subst ek
            rw [hda] at ha'
            rw [hdb] at hb'
            cases ha'
            cases hb'
            exact .inr eq
          · exact h5 k a' b' (by omega) ha' hb'
        have stop : ¬ (isVarN c = true ∧ isVarN e = true) → PyData.eqv c e = false → Q (.bl false) H1 := fun nv eq => no _ s1 fun h => by
          rcases h.2.1 i c e hda hdb with z | z
          · exact nv z
          · rw [eq] at z; cases z
        refine ⟨_, rfl, _, _, _, _, _, rfl, .ty _, tyx_of du, kit_ty (kitT _), _, rfl, ?_⟩
        obtain ⟨wd, nd⟩ := id ndc
        cases nd with
        | i n z1 z2 =>
          refine iteF ?_
          refine ⟨_, rfl, _, rfl, _, _, du, dw, nd_shaped ndc, nd_shaped nde, _, rfl, ite2 (fun x => ?_) (fun x => ?_)⟩
          · exact stop (fun z => nomatch z.1) (by
              cases hq : PyData.eqv _ _ with
              | false => rfl
              | true => rw [hq] at x; cases x)
          · exact single (fun z => nomatch z.1) _ (by
              cases hq : PyData.eqv _ _ with
              | true => rfl
              | false => rw [hq] at x; exact absurd rfl x)
        | f x0 n z0 z1 z2 =>
          cases id du with
          | @tup c0 cs _ hz az =>
          obtain ⟨v0, hv0, dv0⟩ := DpAll.get (i := 0) az rfl
          cases dv0
          refine iteT ⟨_, rfl, _, _, _, _, rfl, rfl, hz, atI_nat (j := 0) hv0, rfl, _, rfl, ?_⟩
          rw [tf]
          refine iteF ?_
          refine ⟨_, rfl, _, rfl, _, _, du, dw, nd_shaped ndc, nd_shaped nde, _, rfl, ite2 (fun x => ?_) (fun x => ?_)⟩
          · exact stop (fun z => nomatch z.1) (by
              cases hq : PyData.eqv _ _ with
              | false => rfl
              | true => rw [hq] at x; cases x)
          · exact single (fun z => nomatch z.1) _ (by
              cases hq : PyData.eqv _ _ with
              | true => rfl
              | false => rw [hq] at x; exact absurd rfl x)
        | v n z1 z2 =>
          cases id du with
          | @tup c0 cs _ hz az =>
          obtain ⟨v0, hv0, dv0⟩ := DpAll.get (i := 0) az rfl
          obtain ⟨v1, hv1, dv1⟩ := DpAll.get (i := 1) az rfl
          cases dv0
          cases dv1
          refine iteT ⟨_, rfl, _, _, _, _, rfl, rfl, hz, atI_nat (j := 0) hv0, rfl, _, rfl, ?_⟩
          rw [decide_eq_true rfl]
          refine iteT ?_
          refine ⟨_, rfl, _, _, _, _, _, rfl, .ty _, tyx_of dw, kit_ty (kitT _), _, rfl, ?_⟩
          obtain ⟨wd2, nd2⟩ := id nde
          cases nd2 with
          | i n2 y1 y2 =>
            refine iteF ?_
            refine ⟨_, rfl, _, rfl, _, _, du, dw, nd_shaped ndc, nd_shaped nde, _, rfl, ite2 (fun x => ?_) (fun x => ?_)⟩
            · exact stop (fun z => nomatch z.2) (by
                cases hq : PyData.eqv _ _ with
                | false => rfl
                | true => rw [hq] at x; cases x)
            · exact single (fun z => nomatch z.2) _ (by
                cases hq : PyData.eqv _ _ with
                | true => rfl
                | false => rw [hq] at x; exact absurd rfl x)
          | f x2 n2 y0 y1 y2 =>
            cases id dw with
            | @tup d0 ds0 _ hy2 ay2 =>
            obtain ⟨u0, hu0, du0'⟩ := DpAll.get (i := 0) ay2 rfl
            cases du0'
            refine iteT ⟨_, rfl, _, _, _, _, rfl, rfl, hy2, atI_nat (j := 0) hu0, rfl, _, rfl, ?_⟩
            rw [tf]
            refine iteF ?_
            refine ⟨_, rfl, _, rfl, _, _, du, dw, nd_shaped ndc, nd_shaped nde, _, rfl, ite2 (fun x => ?_) (fun x => ?_)⟩
            · exact stop (fun z => nomatch z.2) (by
                cases hq : PyData.eqv _ _ with
                | false => rfl
                | true => rw [hq] at x; cases x)
            · exact single (fun z => nomatch z.2) _ (by
                cases hq : PyData.eqv _ _ with
                | true => rfl
                | false => rw [hq] at x; exact absurd rfl x)
          | v n2 y1 y2 =>
            cases id dw with
            | @tup d0 ds0 _ hy2 ay2 =>
            obtain ⟨u0, hu0, du0'⟩ := DpAll.get (i := 0) ay2 rfl
            obtain ⟨u1, hu1, du1'⟩ := DpAll.get (i := 1) ay2 rfl
            cases du0'
            cases du1'
            refine iteT ⟨_, rfl, _, _, _, _, rfl, rfl, hy2, atI_nat (j := 0) hu0, rfl, _, rfl, ?_⟩
            rw [decide_eq_true rfl]
            refine iteT ?_
            refine ⟨_, rfl, .inl ⟨rfl, _, SqL.of h1⟩, _, rfl, _, _, _, _, rfl, rfl, hz, atI_nat (j := 1) hv1, _, rfl, _, _, _, _, rfl, rfl, hy2, atI_nat (j := 1) hu1, (by show 2 ≤ sizeLine; decide), fun t nt => ?_⟩
            have pt : p ≠ t := ne_of_none h1 nt
            have e1 : (upd H1 t (.tup [.int n, .int n2])) p = some (.lst zs) := by rw [upd_ne pt]; exact h1
            have ntp : notTup (upd H1 t (.tup [.int n, .int n2])) p := .inl ⟨_, e1⟩
            refine ⟨_, _, _, rfl, rfl, e1, small1000 (by omega), ?_⟩
            refine ⟨_, _, _, _, P ++ [(n, n2)], rfl, put (s1.trans (same_upd nt)), upd_same, ?_, h3.add hda hdb rfl rfl, by rw [List.length_append, List.length_singleton]; omega, fun k a' b' hk ha' hb' => ?_⟩
            · rw [List.map_append]
              exact DpAll.app (dp_putAll ntp _ _ (pairs_noL P) (dp_sameAll (same_upd nt) _ _ h2)) (.cons (dp_put ntp _ _ (by simp [pairD, noL, noLA]) (.tup (SqT.of upd_same) (.cons (.int _) (.cons (.int _) .nil)))) .nil)
            · by_cases ek : k = i
              · subst ek
                rw [hda] at ha'
                rw [hdb] at hb'
                cases ha'
                cases hb'
                exact .inl ⟨rfl, rfl⟩
              · exact h5 k a' b' (by omega) ha' hb'
      · rintro σ H1 ⟨vk, va, vb, zs, P, rfl, s1, h1, h2, h3, h4, h5⟩
        rw [lx] at h3 h5
        have hc1 : ∀ (k : Nat) (a b : PyData), l[k]? = some a → r[k]? = some b → (isVarN a = true ∧ isVarN b = true) ∨ PyData.eqv a b = true := fun k a b ha hb => h5 k a b (List.getElem?_eq_some_iff.mp ha).1 ha hb
        have hp : ∀ n m, (n, m) ∈ P ↔ ∃ (j : Nat) (a b : PyData), l[j]? = some a ∧ r[j]? = some b ∧ isVarN a = true ∧ isVarN b = true ∧ numN a = n ∧ numN b = m := fun n m => by
          rw [h3 n m]
          constructor
          · rintro ⟨j, a, b, _, z⟩
            exact ⟨j, a, b, z⟩
          · rintro ⟨j, a, b, z⟩
            exact ⟨j, a, b, (List.getElem?_eq_some_iff.mp z.1).1, z⟩
        refine nxp (seq_any ?_)
        have hzl := DpAll.len h2
        rw [List.length_map] at hzl
        refine ⟨_, rfl, p, rfl, ⟨_, SqL.of h1⟩, for_list (K := K) (a := p) (xs := zs) (fun i σ H' => ∃ v6 v7, σ = [some (.ref a), some (.ref b), some (.ref p), vk, va, vb, v6, v7] ∧ H' = H1 ∧ ∀ x ∈ P.take i, ∀ y ∈ P, (x.1 = y.1 ↔ x.2 = y.2))
          ⟨none, none, rfl, rfl, fun x hx => by rw [List.take_zero] at hx; cases hx⟩ (fun i σ H' _ ⟨_, _, _, e, _⟩ => by rw [e]; exact SqL.of h1) ?_ ?_⟩
        · rintro i x σ H2 hx ⟨v6, v7, rfl, rfl, g⟩
          obtain ⟨d1, hd1, dx⟩ := DpAll.getV h2 hx
          rw [List.getElem?_map] at hd1
          obtain ⟨o, ho, rfl⟩ : ∃ o, P[i]? = some o ∧ pairD o = d1 := by
            cases e : P[i]? with
            | none => rw [e] at hd1; cases hd1
            | some o => rw [e] at hd1; exact ⟨o, rfl, Option.some.inj hd1⟩
          refine gname ?_
          refine ⟨_, rfl, p, rfl, ⟨_, SqL.of h1⟩, for_list (K := K) (a := p) (xs := zs) (fun j σ H' => ∃ v7, σ = [some (.ref a), some (.ref b), some (.ref p), vk, va, vb, some x, v7] ∧ H' = H2 ∧ ∀ y ∈ P.take j, (o.1 = y.1 ↔ o.2 = y.2))
            ⟨v7, rfl, rfl, fun x hx => by rw [List.take_zero] at hx; cases hx⟩ (fun i σ H' _ ⟨_, _, e, _⟩ => by rw [e]; exact SqL.of h1) ?_ ?_⟩
          · rintro j z σ H3 hz ⟨v7, rfl, rfl, g2⟩
            obtain ⟨d2, hd2, dz⟩ := DpAll.getV h2 hz
            rw [List.getElem?_map] at hd2
            obtain ⟨t, ht, rfl⟩ : ∃ t, P[j]? = some t ∧ pairD t = d2 := by
              cases e : P[j]? with
              | none => rw [e] at hd2; cases hd2
              | some t => rw [e] at hd2; exact ⟨t, rfl, Option.some.inj hd2⟩
            refine gname ?_
            unfold pairD at dx dz
            cases dx with
            | @tup c1 us _ hq1 aq1 =>
            cases dz with
            | @tup c2 ws _ hq2 aq2 =>
            obtain ⟨a0, ha0, da0⟩ := DpAll.get (i := 0) aq1 rfl
            obtain ⟨a1, ha1, da1⟩ := DpAll.get (i := 1) aq1 rfl
            obtain ⟨b0, hb0, db0⟩ := DpAll.get (i := 0) aq2 rfl
            obtain ⟨b1, hb1, db1⟩ := DpAll.get (i := 1) aq2 rfl
            cases da0
            cases da1
            cases db0
            cases db1
            refine ⟨_, rfl, _, _, _, _, rfl, rfl, hq1, atI_nat (j := 0) ha0, _, rfl, _, _, _, _, rfl, rfl, hq2, atI_nat (j := 0) hb0, rfl, _, rfl, _, _, _, _, rfl, rfl, hq1, atI_nat (j := 1) ha1, _, rfl, _, _, _, _, rfl, rfl, hq2, atI_nat (j := 1) hb1, rfl, rfl, _, rfl, ite2 (fun e => ?_) (fun e => ?_)⟩
            · refine no _ s1 fun h => ?_
              obtain ⟨j1, a', b', k1, k2, k3, k4, k5, k6⟩ := (hp o.1 o.2).mp (List.mem_of_getElem? ho)
              obtain ⟨j2, a'', b'', m1, m2, m3, m4, m5, m6⟩ := (hp t.1 t.2).mp (List.mem_of_getElem? ht)
              have := h.2.2 j1 j2 a' b' a'' b'' k1 k2 m1 m2 k3 k4 m3 m4
              rw [k5, k6, m5, m6] at this
              by_cases q1 : o.1 = t.1
              · rw [decide_eq_true (congrArg V.int q1), decide_eq_true (congrArg V.int (this.mp q1))] at e
                exact absurd e (by decide)
              · rw [decide_eq_false (fun y => q1 (V.int.inj y)), decide_eq_false (fun y => q1 (this.mpr (V.int.inj y)))] at e
                exact absurd e (by decide)
            · refine ⟨_, rfl, rfl, ?_⟩
              intro y hy
              rw [List.take_add_one, ht] at hy
              rcases List.mem_append.mp hy with z | z
              · exact g2 y z
              · rw [List.mem_singleton.mp z]
                by_cases q1 : o.1 = t.1
                · by_cases q2 : o.2 = t.2
                  · exact Iff.intro (fun _ => q2) (fun _ => q1)
                  · rw [decide_eq_true (congrArg V.int q1), decide_eq_false (fun y => q2 (V.int.inj y))] at e
                    exact absurd (by decide) e
                · by_cases q2 : o.2 = t.2
                  · rw [decide_eq_false (fun y => q1 (V.int.inj y)), decide_eq_true (congrArg V.int q2)] at e
                    exact absurd (by decide) e
                  · exact Iff.intro (fun z => absurd z q1) (fun z => absurd z q2)
          · rintro σ H3 ⟨v7, rfl, rfl, g2⟩
            refine ⟨_, _, rfl, rfl, ?_⟩
            intro x hx
            rw [List.take_add_one, ho] at hx
            rcases List.mem_append.mp hx with z | z
            · exact g x z
            · have := List.mem_singleton.mp z
              rw [this]
              rw [hzl, List.take_length] at g2
              exact g2
        · rintro σ H2 ⟨v6, v7, rfl, rfl, g⟩
          rw [hzl, List.take_length] at g
          refine nxp ?_
          refine q true _ s1 (Iff.intro (fun _ => ⟨hlr, hc1, fun j k a b c d ha hb hc hd va vb vc vd => ?_⟩) (fun _ => rfl))
          exact g (numN a, numN b) ((hp _ _).mpr ⟨j, a, b, ha, hb, va, vb, rfl, rfl⟩) (numN c, numN d) ((hp _ _).mpr ⟨k, c, d, hc, hd, vc, vd, rfl, rfl⟩)

theorem ok_variables {f : Addr} {fd : FuncData} (F : Fun K "variables" "variables" s_variables f fd) (E : Bi K mg) (D_is_variable : Has P w K mg base 1 "is_variable" ["node"] (sp_is_variable K)) : FnOk P w K mg base CX0 2 f fd ["term"] (sp_variables K) := by
  obtain ⟨f_is_variable, fd_is_variable, G_is_variable, g_is_variable, kp_is_variable, b_is_variable⟩ := D_is_variable
  refine F.ok sc_variables (fun vs H Q E h => ?_) (fun cdv A outer s H vs Q E' hr h => ?_)
  · obtain ⟨x, ds, rfl, _⟩ := h
    rfl
  · obtain ⟨x, ds, rfl, hx, hn, hl, q⟩ := h
    refine ⟨_, (pss_cons (ps_set (i := 1) sc_variables.nd rfl (Or.inl rfl) pe_dnewK)
      (pss_cons (ps_for PassesOwn.never rfl (pi_tup (pv 0)) (pg_name (i := 2) sc_variables.nd rfl (Or.inl rfl)) (pss_one (ps_if (pt_val (pe_call G_is_variable (hr.mono (by decide)) (by rfl) g_is_variable kp_is_variable b_is_variable .nil pass0 (pa_cons (pv 2) pa_nil))) (pss_one (ps_dput (hu_of hr) (pv 1) (pe_ix ix_tup (pv 2) pe_int (fun _ _ => rfl)) pe_bl (by rfl))) pss_nil)))
      (pss_one (ps_ret (pe_callTy (call_listD rfl) (by rfl) E.b_list (by decide +kernel) (pa_cons (pv 1) pa_nil)))))), ?_⟩
    refine seq_asg ?_
    refine fun r nr => ?_
    refine gname (seq_any ?_)
    have s0 : Same H (upd H r (.dK [])) := same_upd nr
    have put : ∀ {H1 : Hp} {o : HO}, Same H H1 → Same H (upd H1 r o) := fun {H1 o} s1 b u e => by rw [upd_ne (ne_of_none e nr)]; exact s1 b u e
    cases id hx with
    | @tup a xs _ hs ha =>
    have hxl := DpAll.len ha
    refine ⟨_, rfl, a, rfl, ⟨_, same_sqT s0 hs⟩, for_tup (K := K) (a := a) (xs := xs) (fun i σ H' => ∃ (vn : Option V) (kvs : List (Key × V)), σ = [some (.ref a), some (.ref r), vn] ∧ Same H H' ∧ H' r = some (.dK kvs) ∧ kvs.map (·.1) = (nums (ds.take i)).map Sum.inl ∧ kvs.length ≤ i)
      ⟨none, [], rfl, s0, upd_same, rfl, Nat.le_refl 0⟩ (fun i σ H' _ ⟨_, _, _, e, _⟩ => same_sqT e hs) ?_ ?_⟩
    · rintro i y σ H1 hi ⟨vn, kvs, rfl, s1, h1, h2, h3⟩
      obtain ⟨d, hd, dy0⟩ := DpAll.getV ha hi
      have ndd := hn d (List.mem_of_getElem? hd)
      have dy := dp_same s1 _ _ dy0
      have hil := (List.getElem?_eq_some_iff.mp hd).1
      refine gname ?_
      refine ⟨_, rfl, y, d, rfl, dy, ndd, _, rfl, ite2 (fun v => ?_) (fun v => ?_)⟩
      · obtain ⟨n, rfl⟩ := var_form ndd v
        cases dy with
        | @tup c zs _ hz az =>
        obtain ⟨v2, hv2, dv2⟩ := DpAll.get (i := 1) az rfl
        cases dv2
        refine ⟨_, rfl, _, rfl, _, _, _, _, rfl, rfl, hz, atI_nat (j := 1) hv2, r, _, rfl, DPut.k (k := Sum.inl n) h1 (small1000 (by omega)), ?_⟩
        refine ⟨_, _, rfl, put s1, upd_same, ?_, Nat.le_trans (length_putK _ _ _) (by omega)⟩
        rw [nums_take hd]
        exact keys_put _ v h2
      · refine ⟨_, kvs, rfl, s1, h1, ?_, by omega⟩
        rw [nums_take hd, numS_non v]
        exact h2
    · rintro σ H1 ⟨vn, kvs, rfl, s1, h1, h2, h3⟩
      rw [hxl, List.take_length] at h2
      refine nxp ?_
      refine ⟨_, rfl, r, kvs, rfl, .inl h1, fun p np => ?_⟩
      refine q p _ (s1.trans (same_upd np)) (s1.free np) ?_
      rw [upd_same, keys_kV h2]

theorem ok_renumber {f : Addr} {fd : FuncData} (F : FunD K "renumber" "renumber" (defArgs s_renumber) (defBody s_renumber) (defScope s_renumber) [V.int 0] [] f fd) (E : Bi K mg) (D_is_variable : Has P w K mg base 1 "is_variable" ["node"] (sp_is_variable K)) : FnOk P w K mg base CX0 2 f fd ["term", "first"] (sp_renumber K) := by
  obtain ⟨f_is_variable, fd_is_variable, G_is_variable, g_is_variable, kp_is_variable, b_is_variable⟩ := D_is_variable
  refine F.ok sc_renumber (fun vs H Q E h => ?_) (fun cdv A outer s H vs Q E' hr h => ?_)
  · obtain ⟨x, ds, f, rfl, _⟩ := h
    rfl
  · obtain ⟨x, ds, f, rfl, hx, hn, hl, q⟩ := h
    refine ⟨_, (PSs.nox (pss_cons (ps_set (i := 2) sc_renumber.nd rfl (Or.inl rfl) pe_dnewK)
      (pss_cons (ps_set (i := 3) sc_renumber.nd rfl (Or.inl rfl) (pe_lst pa_nil))
      (pss_cons (ps_for PassesOwn.never rfl (pi_tup (pv 0)) (pg_name (i := 4) sc_renumber.nd rfl (Or.inl rfl)) (pss_one (ps_if (pt_val (pe_call G_is_variable (hr.mono (by decide)) (by rfl) g_is_variable kp_is_variable b_is_variable .nil pass0 (pa_cons (pv 4) pa_nil))) (pss_cons (ps_if (pt_cmp (pc_dnotin (hu_of hr) (pe_ix ix_tup (pv 4) pe_int (fun _ _ => rfl)) (pv 2))) (pss_one (ps_dput (hu_of hr) (pv 2) (pe_ix ix_tup (pv 4) pe_int (fun _ _ => rfl)) (pe_tup (pa_cons pe_str (pa_cons (pe_op op_add (pv 1) (pe_callB call_lenD (by rfl) E.b_len PySem.boot_len (pa_cons (pv 2) pa_nil))) pa_nil))) (by rfl))) pss_nil)
      (pss_one (ps_expr (pe_bm PySem.F.plainAttrs_list PySem.F.slot_list_append PySem.F.type_list_append mt_append (pv 3) (pa_cons (pe_dget (hu_of hr) (pv 2) (pe_ix ix_tup (pv 4) pe_int (fun _ _ => rfl)) (fun _ _ => rfl)) pa_nil))))) (pss_one (ps_expr (pe_bm PySem.F.plainAttrs_list PySem.F.slot_list_append PySem.F.type_list_append mt_append (pv 3) (pa_cons (pv 4) pa_nil)))))))
      (pss_one (ps_ret (pe_callTy call_tuple_of (by rfl) E.b_tuple (by decide +kernel) (pa_cons (pv 3) pa_nil)))))))), ?_⟩
    refine seq_asg ?_
    refine fun d nd => ?_
    refine gname (seq_asg ?_)
    have s00 : Same H (upd H d (.dK [])) := same_upd nd
    refine ⟨Nat.zero_le _, fun r nr => ?_⟩
    refine gname (seq_any ?_)
    have nrH : H r = Option.none := s00.free nr
    have dr : d ≠ r := fun z => by rw [z, upd_same] at nr; cases nr
    have s0 : Same H (upd (upd H d (.dK [])) r (.lst [])) := s00.trans (same_upd nr)
    have put : ∀ {H1 : Hp} {o : HO}, Same H H1 → Same H (upd H1 r o) := fun {H1 o} s1 b u e => by rw [upd_ne (ne_of_none e nrH)]; exact s1 b u e
    have putd : ∀ {H1 : Hp} {o : HO}, Same H H1 → Same H (upd H1 d o) := fun {H1 o} s1 b u e => by rw [upd_ne (ne_of_none e nd)]; exact s1 b u e
    cases id hx with
    | @tup a xs _ hs ha =>
    have hxl := DpAll.len ha
    have gnd : ∀ (n : Int), noL (.tuple [.str "v", .int n]) = true := fun n => by simp [noL, noLA]
    have noA : ∀ i, noLA ((ds.take i).map (mapD fun n => f + ((nums ds).idxOf n : Nat))) = true := by
      intro i
      have : ∀ l : List PyData, (∀ d ∈ l, NdA d) → noLA (l.map (mapD fun n => f + ((nums ds).idxOf n : Nat))) = true := by
        intro l
        induction l with
        | nil => intro _; simp [noLA]
        | cons d r ih =>
          intro h
          rw [List.map_cons, noLA, ih fun x hx => h x (List.mem_cons_of_mem _ hx), Bool.and_true]
          unfold mapD
          split
          · exact gnd _
          · exact nd_noL (h d List.mem_cons_self)
      exact this _ fun x hx => hn x (List.mem_of_mem_take hx)
    refine ⟨_, rfl, a, rfl, ⟨_, same_sqT s0 hs⟩, for_tup (K := K) (a := a) (xs := xs) (fun i σ H' => ∃ (vn : Option V) (kvs : List (Key × V)) (ys : List V), σ = [some (.ref a), some (.int f), some (.ref d), some (.ref r), vn] ∧ Same H H' ∧ H' d = some (.dK kvs) ∧ H' r = some (.lst ys) ∧ Given K H' f (nums (ds.take i)) kvs ∧ DpAll K H' ys ((ds.take i).map (mapD fun n => f + ((nums ds).idxOf n : Nat))) ∧ ys.length = i)
      ⟨none, [], [], rfl, s0, by rw [upd_ne dr, upd_same], upd_same, ⟨rfl, (fun n hn => nomatch hn), fun n _ => rfl⟩, .nil, rfl⟩ (fun i σ H' _ ⟨_, _, _, _, e, _⟩ => same_sqT e hs) ?_ ?_⟩
    · rintro i y σ H1 hi ⟨vn, kvs, ys, rfl, s1, h1, h2, h3, h4, h5⟩
      obtain ⟨e, hd, dy0⟩ := DpAll.getV ha hi
      have ndd := hn e (List.mem_of_getElem? hd)
      have dy := dp_same s1 _ _ dy0
      have hil := (List.getElem?_eq_some_iff.mp hd).1
      have hnl := nums_len (ds.take i)
      rw [List.length_take] at hnl
      have hkl := h3.len
      refine gname ?_
      refine ⟨_, rfl, y, e, rfl, dy, ndd, _, rfl, ite2 (fun v => ?_) (fun v => ?_)⟩
      · obtain ⟨n, rfl⟩ := var_form ndd v
        have hmem := nums_mem hd v
        have hidx := idx_pre hmem
        rw [nums_take hd] at hmem hidx
        cases id dy0 with
        | @tup c zs _ hz0 az =>
        have hz := same_sqT s1 hz0
        obtain ⟨v2, hv2, dv2⟩ := DpAll.get (i := 1) az rfl
        cases dv2
        refine seq_via (fun σ H' => ∃ (kvs : List (Key × V)), σ = [some (.ref a), some (.int f), some (.ref d), some (.ref r), some (.ref c)] ∧ Same H H' ∧ H' d = some (.dK kvs) ∧ H' r = some (.lst ys) ∧ Given K H' f (numS (nums (ds.take i)) (.tuple [.str "v", .int n])) kvs ∧ DpAll K H' ys ((ds.take i).map (mapD fun n => f + ((nums ds).idxOf n : Nat)))) ?_ (fun go => ?_)
        · rintro σ H2 ⟨kvs, rfl, s2, g1, g2, g3, g4⟩
          obtain ⟨w, w1, w2⟩ := g3.old n hmem
          have hz2 := same_sqT s2 hz0
          have gg : DGet H2 d (.int n) (some w) := by
            have := DGet.k (k := Sum.inl n) g1
            rw [w1] at this
            exact this
          have nt : notTup H2 r := .inl ⟨_, g2⟩
          refine ⟨_, rfl, .inl ⟨rfl, _, SqL.of g2⟩, _, rfl, _, rfl, _, _, _, _, rfl, rfl, hz2, atI_nat (j := 1) hv2, d, _, rfl, gg, _, _, _, rfl, rfl, g2, small1000 (by omega), ?_⟩
          refine ⟨_, kvs, _, rfl, put s2, by rw [upd_ne dr]; exact g1, upd_same, ?_, ?_, by rw [List.length_append, h5]; rfl⟩
          · rw [nums_take hd]
            exact g3.mono fun v n hv => dp_put nt _ _ (gnd n) hv
          · rw [List.take_add_one, hd, List.map_append]
            refine DpAll.app (dp_putAll nt _ _ (noA i) g4) (.cons ?_ .nil)
            show Dp K _ w (.tuple [.str "v", .int (f + ((nums ds).idxOf n : Nat))])
            have hidx2 : (nums ds).idxOf n = (numS (nums (ds.take i)) (.tuple [.str "v", .int n])).idxOf n := hidx
            rw [hidx2]
            exact dp_put nt _ _ (gnd _) w2
        · refine ⟨_, rfl, _, _, _, _, rfl, rfl, hz, atI_nat (j := 1) hv2, _, rfl, d, _, rfl, DGet.k (k := Sum.inl n) h1, _, rfl, ?_⟩
          by_cases hm : n ∈ nums (ds.take i)
          · obtain ⟨w, w1, w2⟩ := h3.old n hm
            rw [w1]
            refine iteF (go _ _ ⟨kvs, rfl, s1, h1, h2, ?_, h4⟩)
            rw [numS_old (d := .tuple [.str "v", .int n]) hm]
            exact h3
          · rw [h3.new n hm]
            refine iteT ?_
            refine ⟨_, rfl, _, rfl, _, _, rfl, h1, _, _, rfl, rfl, (by show 2 ≤ sizeLine; decide), fun p np => ?_⟩
            have dp : d ≠ p := ne_of_none h1 np
            have rp : r ≠ p := ne_of_none h2 np
            have cz := same_sqT (same_upd (o := .tup [.str "v", .int (f + (kvs.length : Int))]) np) hz
            have e1 : (upd H1 p (.tup [.str "v", .int (f + (kvs.length : Int))])) d = some (.dK kvs) := by rw [upd_ne dp]; exact h1
            have nt : notTup (upd H1 p (.tup [.str "v", .int (f + (kvs.length : Int))])) d := .inr ⟨_, e1⟩
            refine ⟨_, rfl, _, rfl, _, _, _, _, rfl, rfl, cz, atI_nat (j := 1) hv2, d, _, rfl, DPut.k (k := Sum.inl n) e1 (small1000 (by omega)), ?_⟩
            refine go _ _ ⟨_, rfl, putd (s1.trans (same_upd np)), upd_same, by rw [upd_ne dr.symm, upd_ne rp]; exact h2, ?_, ?_⟩
            · rw [numS_new (d := .tuple [.str "v", .int n]) rfl hm]
              refine Given.put (h3.mono fun v n hv => dp_put nt _ _ (gnd n) (dp_same (same_upd np) _ _ hv)) hm (dp_put nt _ _ (gnd _) ?_)
              rw [← hkl]
              exact .tup (SqT.of upd_same) (.cons (.str _) (.cons (.int _) .nil))
            · exact dp_putAll nt _ _ (noA i) (dp_sameAll (same_upd np) _ _ h4)
      · refine ⟨_, rfl, .inl ⟨rfl, _, SqL.of h2⟩, _, rfl, _, _, _, rfl, rfl, h2, small1000 (by omega), ?_⟩
        have nt : notTup H1 r := .inl ⟨_, h2⟩
        refine ⟨_, kvs, _, rfl, put s1, by rw [upd_ne dr]; exact h1, upd_same, ?_, ?_, by rw [List.length_append, h5]; rfl⟩
        · rw [nums_take hd, numS_non v]
          exact h3.mono fun v n hv => dp_put nt _ _ (gnd n) hv
        · rw [List.take_add_one, hd, List.map_append]
          refine DpAll.app (dp_putAll nt _ _ (noA i) h4) (.cons ?_ .nil)
          show Dp K _ y (mapD _ e)
          unfold mapD
          rw [if_neg v]
          exact dp_put nt _ _ (nd_noL ndd) dy
    · rintro σ H1 ⟨vn, kvs, ys, rfl, s1, h1, h2, h3, h4, h5⟩
      rw [hxl, List.take_length] at h4
      refine nxp ?_
      refine ⟨_, rfl, _, _, rfl, .inl ⟨SqL.of h2, fun u nu => ?_⟩⟩
      exact q _ _ (s1.trans (same_upd nu)) (.tup (SqT.of upd_same) (dp_sameAll (same_upd nu) _ _ h4))

theorem ok__law_name {f : Addr} {fd : FuncData} (F : Fun K "_law_name" "_law_name" s__law_name f fd) (E : Bi K mg) (D__law_draw : Has P w K mg base 1 "_law_draw" ["stream", "many"] (sp__law_draw K)) : FnOk P w K mg base CX0 2 f fd ["stream"] (sp__law_name K) := by
  obtain ⟨f__law_draw, fd__law_draw, G__law_draw, g__law_draw, kp__law_draw, b__law_draw⟩ := D__law_draw
  refine F.ok sc__law_name (fun vs H Q E h => ?_) (fun cdv A outer s H vs Q E' hr h => ?_)
  · obtain ⟨s, l, rfl, _⟩ := h
    rfl
  · obtain ⟨s, l, rfl, hS, q⟩ := h
    have n9 : (2 : Nat) ^ 8 ≤ 2 ^ 9000 := Nat.pow_le_pow_right (by decide) (by decide)
    refine ⟨_, (pss_cons (ps_set (i := 1) sc__law_name.nd rfl (Or.inl rfl) (pe_lst (pa_cons pe_str (pa_cons pe_str (pa_cons pe_str (pa_cons pe_str (pa_cons pe_str (pa_cons pe_str (pa_cons pe_str (pa_cons pe_str (pa_cons pe_str (pa_cons pe_str (pa_cons pe_str (pa_cons pe_str (pa_cons pe_str (pa_cons pe_str (pa_cons pe_str (pa_cons pe_str (pa_cons pe_str (pa_cons pe_str (pa_cons pe_str (pa_cons pe_str pa_nil))))))))))))))))))))))
      (pss_cons (ps_if (pt_cmpR op_gt (pe_call G__law_draw (hr.mono (by decide)) (by rfl) g__law_draw kp__law_draw b__law_draw .nil pass0 (pa_cons (pv 0) (pa_cons pe_int pa_nil))) pe_int (nomark _)) (pss_one (ps_ret (pe_ix ix_list (pv 1) (pe_call G__law_draw (hr.mono (by decide)) (by rfl) g__law_draw kp__law_draw b__law_draw .nil pass0 (pa_cons (pv 0) (pa_cons pe_int pa_nil))) (fun _ _ => rfl)))) pss_nil)
      (pss_cons (ps_if (pt_cmpR op_gt (pe_call G__law_draw (hr.mono (by decide)) (by rfl) g__law_draw kp__law_draw b__law_draw .nil pass0 (pa_cons (pv 0) (pa_cons pe_int pa_nil))) pe_int (nomark _)) (pss_one (ps_ret (pe_ix ix_list (pv 1) (pe_call G__law_draw (hr.mono (by decide)) (by rfl) g__law_draw kp__law_draw b__law_draw .nil pass0 (pa_cons (pv 0) (pa_cons (pe_callB call_len_seq (by rfl) E.b_len PySem.boot_len (pa_cons (pv 1) pa_nil)) pa_nil))) (fun _ _ => rfl)))) pss_nil)
      (pss_cons (ps_set (i := 2) sc__law_name.nd rfl (Or.inr rfl) pe_str)
      (pss_cons (ps_set (i := 2) sc__law_name.nd rfl (Or.inr rfl) (pe_op op_add_str (pv 2) pe_str))
      (pss_one (ps_ret (pe_m1 PySem.F.slot_str_join PySem.F.type_str_join mt_join pe_str (pe_lc (own := [("k", 3)]) (g := gName 3) (tt := tYes) rfl sc__law_name.nd (pi_range1 (by rfl) E.b_range (pa_cons (pe_op op_add pe_int (pe_call G__law_draw (hr.mono (by decide)) (by rfl) g__law_draw kp__law_draw b__law_draw .nil pass0 (pa_cons (pv 0) (pa_cons pe_int pa_nil)))) pa_nil)) (blkOk_by (N := N__law_name) (sc := defScope s__law_name) (by decide +kernel)) (fun _ _ _ _ _ => pg_name (i := 3) sc__law_name.nd rfl (Or.inl rfl)) (fun _ _ _ _ _ => pts_nil) (fun _ _ _ _ _ => (pe_ix ix_str (pv 2) (pe_call G__law_draw (hr.mono (by decide)) (by rfl) g__law_draw kp__law_draw b__law_draw .nil pass0 (pa_cons (pv 0) (pa_cons (pe_callB call_len_str (by rfl) E.b_len PySem.boot_len (pa_cons (pv 2) pa_nil)) pa_nil))) (fun _ _ => rfl)))))))))))), ?_⟩
    refine seq_asg ?_
    refine lit_lst (K := K) (ds := names20.map PyData.str) ?_ (by decide) H _ fun v0 H0 t0 i0 => ?_
    · unfold names20
      simp only [List.map_cons, List.map_nil]
      walk_at "lits"
    cases i0 with
    | @lst p0 xs0 _ g0 e0 a0 =>
    obtain ⟨os, hos⟩ := hS.at_s
    have np : p0 ≠ s := fun z => by
      rw [z, hos] at g0
      cases g0
    have hl0 : xs0.length = 20 := by rw [a0.len, List.length_map]; decide
    have pick : ∀ (r : Int) (H' : Hp), 0 ≤ r → r < 20 → But s H H' → H' p0 = some (.lst xs0) → Stm H' s l → ∃ x, atI xs0 r = some (.str x) ∧ Q (.str x) H' := by
      intro r H' r0 r1 hB e1 St
      have hr : r.toNat < names20.length := by
        have : names20.length = 20 := by decide
        omega
      have hd : (names20.map PyData.str)[r.toNat]? = some (.str names20[r.toNat]) := by
        rw [List.getElem?_map, List.getElem?_eq_getElem hr]
        rfl
      obtain ⟨v, hv, iv⟩ := ImAll.get a0 hd
      cases iv
      exact ⟨_, at_of (j := r.toNat) (by omega) hv, q _ _ (List.all_eq_true.mp names20_ok _ (List.getElem_mem hr)) hB St⟩
    refine gname (seq_ifN ?_)
    refine ⟨_, rfl, s, l, 3, rfl, hS.keep t0, by decide, Nat.lt_of_lt_of_le (by decide) n9, fun r1 H1 _ _ hB1 S1 => ⟨_, _, rfl, rfl, _, rfl, ite2 (fun e => ?_) (fun e => ?_)⟩⟩
    · refine ⟨_, rfl, _, rfl, s, l, 4, rfl, S1, by decide, Nat.lt_of_lt_of_le (by decide) n9, fun r2 H2 r20 r21 hB2 S2 => ?_⟩
      obtain ⟨x, hx, hq⟩ := pick r2 H2 r20 (by omega) (((But.of t0).trans hB1).trans hB2) (hB2 _ _ np (hB1 _ _ np e0)) S2
      exact ⟨_, _, _, _, rfl, rfl, SqL.of (hB2 _ _ np (hB1 _ _ np e0)), hx, hq⟩
    · refine seq_ifN ?_
      refine ⟨_, rfl, s, l, 4, rfl, S1, by decide, Nat.lt_of_lt_of_le (by decide) n9, fun r2 H2 _ _ hB2 S2 => ⟨_, _, rfl, rfl, _, rfl, ite2 (fun e => ?_) (fun e => ?_)⟩⟩
      · refine ⟨_, rfl, _, rfl, _, rfl, _, _, rfl, .inl (SqL.of (hB2 _ _ np (hB1 _ _ np e0))), s, l, _, rfl, S2, by rw [hl0]; decide, by rw [hl0]; exact Nat.lt_of_lt_of_le (by decide) n9, fun r3 H3 r30 r31 hB3 S3 => ?_⟩
        obtain ⟨x, hx, hq⟩ := pick r3 H3 r30 (by rw [hl0] at r31; exact r31) ((((But.of t0).trans hB1).trans hB2).trans hB3) (hB3 _ _ np (hB2 _ _ np (hB1 _ _ np e0))) S3
        exact ⟨_, _, _, _, rfl, rfl, SqL.of (hB3 _ _ np (hB2 _ _ np (hB1 _ _ np e0))), hx, hq⟩
      · refine seq_asg (gname (seq_asg ?_))
        refine ⟨_, rfl, _, _, rfl, rfl, by decide +kernel, ?_⟩
        refine gname ?_
        have hB : But s H H2 := ((But.of t0).trans hB1).trans hB2
        refine ⟨⟨_, rfl⟩, ?_⟩
        refine ⟨_, rfl, s, l, 40, rfl, S2, by decide, Nat.lt_of_lt_of_le (by decide) n9, fun n H3 n0 n1 hB3 S3 => ⟨_, _, rfl, rfl, _, rfl, by omega, by omega, fun D hD => ?_⟩⟩
        obtain ⟨os3, hos3⟩ := S3.at_s
        obtain ⟨ol3, hol3⟩ := S3.at_l
        have sD : s ≠ D := ne_of_none hos3 hD
        have lD : l ≠ D := ne_of_none hol3 hD
        refine lc_range (fun i H' => ∃ cs : List Nat, H' D = some (.lst ((cs.map fun c => (⟨#[c]⟩ : Str)).map V.str)) ∧ cs.length = i ∧ cs.all okSign = true ∧ Stm H' s l ∧ (∀ b o, b ≠ s → b ≠ D → H3 b = some o → H' b = some o))
          ⟨[], upd_same, rfl, rfl, S3.put sD lD, fun b o _ h2 e => by rw [upd_ne h2]; exact e⟩ ?_ ?_
        · rintro i H4 hi ⟨cs, h1, h2, h3, h4, h5⟩
          refine ⟨rfl, _, rfl, _, rfl, _, rfl, _, rfl, (show signs.length ≤ sizeLine from by rw [signs_len]; decide), s, l, _, rfl, h4, (show (0 : Int) < (signs.length : Int) from by rw [signs_len]; decide),
            (show ((signs.length : Nat) : Int).natAbs < 2 ^ 9000 from by rw [signs_len]; exact Nat.lt_of_lt_of_le (by decide) n9), fun r H5 r0 r1 hB5 S5 => ?_⟩
          have r2 : r < (signs.length : Int) := r1
          have hr : r.toNat < signs.cps.toList.length := by
            have : signs.cps.toList.length = signs.length := by simp [Str.length]
            omega
          have hc : signs.cps.toList[r.toNat]? = some signs.cps.toList[r.toNat] := List.getElem?_eq_getElem hr
          have ok : okSign signs.cps.toList[r.toNat] = true := List.all_eq_true.mp signs_ok _ (List.getElem_mem hr)
          generalize signs.cps.toList[r.toNat] = c at hc ok
          refine ⟨_, _, c, rfl, rfl, (show signs.length ≤ sizeLine from by rw [signs_len]; decide), ?_, _, hB5 _ _ sD.symm h1, ?_, cs ++ [c], ?_, ?_, ?_, S5.put sD lD, fun b o hb1 hb2 e => ?_⟩
          · rw [show r = ((r.toNat : Nat) : Int) by omega]
            exact atI_nat hc
          · rw [List.length_map, List.length_map, h2]
            exact small1000 (by omega)
          · rw [upd_same, List.map_append, List.map_append]
            rfl
          · rw [List.length_append, h2]; rfl
          · rw [List.all_append, h3]
            show (true && (okSign c && true)) = true
            rw [ok]; rfl
          · rw [upd_ne hb2]
            exact hB5 b o hb1 (h5 b o hb1 hb2 e)
        · rintro H4 ⟨cs, h1, h2, h3, h4, h5⟩
          refine ⟨_, _, cs.map fun c => ⟨#[c]⟩, rfl, rfl, .inl (SqL.of h1), ?_, ?_⟩
          · rw [List.length_map, List.map_map, show (cs.map ((fun x : Str => x.length) ∘ fun c => (⟨#[c]⟩ : Str))).sum = cs.length from ?_]
            · show cs.length + cs.length * 0 ≤ 16777216
              omega
            · clear h1 h2 h3
              induction cs with
              | nil => rfl
              | cons c r ih =>
                rw [List.map_cons, List.sum_cons, ih, List.length_cons]
                show 1 + r.length = r.length + 1
                omega
          · rw [TL.join_eq]
            have ec := join_ones (Str.ofString "") (by decide +kernel) cs
            refine q _ H4 ?_ (fun b o hb e => h5 b o hb (fun z => ?_) (hB3 b o hb (hB b o hb e))) h4
            · unfold okName
              have el : (Str.join (Str.ofString "") (cs.map fun c => (⟨#[c]⟩ : Str))).length = cs.length := by
                show (Str.join (Str.ofString "") (cs.map fun c => (⟨#[c]⟩ : Str))).cps.size = _
                rw [← Array.length_toList, ec]
              rw [el, ec, h3, decide_eq_true (show 1 ≤ cs.length by omega), decide_eq_true (show cs.length ≤ 40 by omega)]
              rfl
            · rw [z] at e
              rw [hB3 _ _ (fun z => by subst z; exact sD rfl) (hB _ _ (fun z => by subst z; exact sD rfl) e)] at hD
              cases hD

theorem ok_are_variants {f : Addr} {fd : FuncData} (F : Fun K "are_variants" "are_variants" s_are_variants f fd) (E : Bi K mg) (D_renumber : HasD P w K mg base 2 "renumber" ["term", "first"] [V.int 0] (sp_renumber K)) : FnOk P w K mg base CX0 3 f fd ["left", "right"] (sp_are_variants K) := by
  obtain ⟨f_renumber, fd_renumber, G_renumber, g_renumber, kp_renumber, ⟨ds_renumber, v_renumber, b_renumber⟩, ⟨df_renumber, vf_renumber, bf_renumber⟩⟩ := D_renumber
  refine F.ok sc_are_variants (fun vs H Q E h => ?_) (fun cdv A outer s H vs Q E' hr h => ?_)
  · obtain ⟨x, y, l, r, rfl, _⟩ := h
    rfl
  · obtain ⟨x, y, l, r, rfl, hx, hy, nl, nr, ll, lr, q⟩ := h
    refine ⟨_, (pss_one (ps_ret (pe_cmpR (op_eqD hr.units) (pe_call G_renumber (hr.mono (by decide)) (by rfl) g_renumber kp_renumber b_renumber v_renumber pass0 (pa_cons (pv 0) pa_nil)) (pe_call G_renumber (hr.mono (by decide)) (by rfl) g_renumber kp_renumber b_renumber v_renumber pass0 (pa_cons (pv 1) pa_nil)) (nomark _)))), ?_⟩
    refine ⟨_, rfl, x, l, 0, rfl, hx, nl, ll, fun v1 H1 s1 d1 => ?_⟩
    refine ⟨_, rfl, y, r, 0, rfl, dp_same s1 _ _ hy, nr, lr, fun v2 H2 s2 d2 => ?_⟩
    exact ⟨_, _, dp_same s2 _ _ d1, d2, tup_shaped (ren_nd nl (Int.le_refl 0)), tup_shaped (ren_nd nr (Int.le_refl 0)), q _ (s1.trans s2)⟩

theorem ok__law_leaf {f : Addr} {fd : FuncData} (F : Fun K "_law_leaf" "_law_leaf" s__law_leaf f fd) (E : Bi K mg) (D__law_draw : Has P w K mg base 1 "_law_draw" ["stream", "many"] (sp__law_draw K)) (D__law_name : Has P w K mg base 2 "_law_name" ["stream"] (sp__law_name K)) : FnOk P w K mg base CX0 3 f fd ["stream", "widest"] (sp__law_leaf K) := by
  obtain ⟨f__law_draw, fd__law_draw, G__law_draw, g__law_draw, kp__law_draw, b__law_draw⟩ := D__law_draw
  obtain ⟨f__law_name, fd__law_name, G__law_name, g__law_name, kp__law_name, b__law_name⟩ := D__law_name
  refine F.ok sc__law_leaf (fun vs H Q E h => ?_) (fun cdv A outer s H vs Q E' hr h => ?_)
  · obtain ⟨s, l, wd, rfl, _⟩ := h
    rfl
  · obtain ⟨s, l, wd, rfl, hS, hw, hw2, q⟩ := h
    have n9 : (2 : Nat) ^ 140 ≤ 2 ^ 9000 := Nat.pow_le_pow_right (by decide) (by decide)
    refine ⟨_, (pss_cons (ps_set (i := 2) sc__law_leaf.nd rfl (Or.inl rfl) (pe_call G__law_draw (hr.mono (by decide)) (by rfl) g__law_draw kp__law_draw b__law_draw .nil pass0 (pa_cons (pv 0) (pa_cons pe_int pa_nil))))
      (pss_cons (ps_if (pw_and (pt_cmpR op_lt (pv 2) pe_int (nomark _)) (pw_and1 (pt_cmpR op_gt (pv 1) pe_int (nomark _)))).pt (pss_one (ps_ret (pe_tup (pa_cons pe_str (pa_cons (pe_call G__law_draw (hr.mono (by decide)) (by rfl) g__law_draw kp__law_draw b__law_draw .nil pass0 (pa_cons (pv 0) (pa_cons (pv 1) pa_nil))) pa_nil))))) pss_nil)
      (pss_cons (ps_if (pt_cmpR op_eq (pv 2) pe_int (nomark _)) (pss_one (ps_ret (pe_op op_sub (pe_call G__law_draw (hr.mono (by decide)) (by rfl) g__law_draw kp__law_draw b__law_draw .nil pass0 (pa_cons (pv 0) (pa_cons pe_int pa_nil))) pe_int))) pss_nil)
      (pss_cons (ps_if (pw_and (pt_cmpR op_eq (pv 2) pe_int (nomark _)) (pw_and1 (pt_cmpR op_eq (pe_call G__law_draw (hr.mono (by decide)) (by rfl) g__law_draw kp__law_draw b__law_draw .nil pass0 (pa_cons (pv 0) (pa_cons pe_int pa_nil))) pe_int (nomark _)))).pt (pss_one (ps_ret (pe_op op_sub (pe_call G__law_draw (hr.mono (by decide)) (by rfl) g__law_draw kp__law_draw b__law_draw .nil pass0 (pa_cons (pv 0) (pa_cons (pe_op op_pow pe_int pe_int) pa_nil))) (pe_call G__law_draw (hr.mono (by decide)) (by rfl) g__law_draw kp__law_draw b__law_draw .nil pass0 (pa_cons (pv 0) (pa_cons (pe_op op_pow pe_int pe_int) pa_nil)))))) pss_nil)
      (pss_one (ps_ret (pe_tup (pa_cons pe_str (pa_cons (pe_call G__law_name (hr.mono (by decide)) (by rfl) g__law_name kp__law_name b__law_name .nil pass0 (pa_cons (pv 0) pa_nil)) (pa_cons pe_int pa_nil)))))))))), ?_⟩
    have fin : ∀ H1 : Hp, But s H H1 → Stm H1 s l → ∀ x H2, okName x = true → But s H1 H2 → Stm H2 s l → ∀ p, H2 p = Option.none → Q (.ref p) (upd H2 p (.tup [.str "f", .str x, .int 0])) := by
      intro H1 b1 S1 x H2 hx b2 S2 p np
      obtain ⟨os, hos⟩ := S2.at_s
      obtain ⟨ol, hol⟩ := S2.at_l
      have hp : H p = Option.none := by
        cases e : H p with
        | none => rfl
        | some o =>
          by_cases z : p = s
          · rw [z, hos] at np; cases np
          · rw [b2 _ _ z (b1 _ _ z e)] at np; cases np
      exact q _ (.tuple [.str "f", .str x, .int 0]) _ (.f x 0 hx (by decide) (by decide)) rfl ((b1.trans b2).trans (But.of (same_upd np))) (S2.put (ne_of_none hos np) (ne_of_none hol np)) (.tup hp upd_same (.cons (.str _) (.cons (.str _) (.cons (.int _) .nil))))
    refine seq_asg ?_
    refine ⟨_, rfl, s, l, 5, rfl, hS, by decide, Nat.lt_of_lt_of_le (by decide) n9, fun pick H1 _ _ b1 S1 => ?_⟩
    refine gname (seq_ifN ?_)
    have fresh : ∀ (H2 : Hp), But s H H2 → Stm H2 s l → ∀ p, H2 p = Option.none → H p = Option.none := by
      intro H2 b2 S2 p np
      obtain ⟨os, hos⟩ := S2.at_s
      cases e : H p with
      | none => rfl
      | some o =>
        by_cases z : p = s
        · rw [z, hos] at np; cases np
        · rw [b2 _ _ z e] at np; cases np
    refine ⟨_, rfl, _, _, rfl, rfl, _, rfl, ite2 (fun e => ?_) (fun e => ?_)⟩
    · refine ⟨_, rfl, _, _, rfl, rfl, _, rfl, ite2 (fun e2 => ?_) (fun e2 => absurd (decide_eq_true hw) e2)⟩
      refine ⟨_, rfl, _, rfl, s, l, wd, rfl, S1, hw, Nat.lt_of_lt_of_le (show wd.natAbs < 2 ^ 140 from Nat.lt_of_le_of_lt (show wd.natAbs ≤ 1000 by omega) (by decide)) n9, fun r H2 r0 r1 b2 S2 => ⟨(by show 2 ≤ sizeLine; decide), fun p np => ?_⟩⟩
      obtain ⟨os, hos⟩ := S2.at_s
      obtain ⟨ol, hol⟩ := S2.at_l
      exact q _ (.tuple [.str "v", .int r]) _ (.v r r0 r1) rfl ((b1.trans b2).trans (But.of (same_upd np))) (S2.put (ne_of_none hos np) (ne_of_none hol np)) (.tup (fresh H2 (b1.trans b2) S2 p np) upd_same (.cons (.str _) (.cons (.int _) .nil)))
    · refine iteF (seq_ifN ?_)
      refine ⟨_, rfl, rfl, _, rfl, ite2 (fun e2 => ?_) (fun e2 => ?_)⟩
      · refine ⟨_, rfl, s, l, 10, rfl, S1, by decide, Nat.lt_of_lt_of_le (by decide) n9, fun r H2 r0 r1 b2 S2 => ⟨_, _, rfl, rfl, ?_⟩⟩
        exact q _ (.int (r - 4)) _ (.i _ (by omega) (by omega)) rfl (b1.trans b2) S2 (.int _)
      · refine seq_ifN ?_
        refine ⟨_, rfl, rfl, _, rfl, ite2 (fun e3 => ?_) (fun e3 => ?_)⟩
        · refine ⟨_, rfl, s, l, 4, rfl, S1, by decide, Nat.lt_of_lt_of_le (by decide) n9, fun r H2 r0 r1 b2 S2 => ⟨rfl, _, rfl, ite2 (fun e4 => ?_) (fun e4 => ?_)⟩⟩
          · have h40 : (10 : Int) ^ (40 : Int).toNat = 10 ^ 40 := rfl
            refine ⟨_, rfl, _, _, rfl, rfl, ⟨by decide, by decide, by decide⟩, s, l, _, rfl, S2, by decide, Nat.lt_of_lt_of_le (by decide) n9, fun r3 H3 r30 r31 b3 S3 => ?_⟩
            refine ⟨_, rfl, _, _, rfl, rfl, ⟨by decide, by decide, by decide⟩, s, l, _, rfl, S3, by decide, Nat.lt_of_lt_of_le (by decide) n9, fun r4 H4 r40 r41 b4 S4 => ⟨_, _, rfl, rfl, ?_⟩⟩
            rw [h40] at r31 r41
            exact q _ (.int (r3 - r4)) _ (.i _ (by omega) (by omega)) rfl (((b1.trans b2).trans b3).trans b4) S4 (.int _)
          · refine ⟨_, rfl, s, l, rfl, S2, fun x H3 hx b3 S3 => ⟨(by show 3 ≤ sizeLine; decide), fun p np => fin H2 (b1.trans b2) S2 x H3 hx b3 S3 p np⟩⟩
        · refine iteF ?_
          refine ⟨_, rfl, s, l, rfl, S1, fun x H3 hx b3 S3 => ⟨(by show 3 ≤ sizeLine; decide), fun p np => fin H1 b1 S1 x H3 hx b3 S3 p np⟩⟩

theorem ok__law_term {f : Addr} {fd : FuncData} (F : Fun K "_law_term" "_law_term" s__law_term f fd) (E : Bi K mg) (D__law_draw : Has P w K mg base 1 "_law_draw" ["stream", "many"] (sp__law_draw K)) (D__law_name : Has P w K mg base 2 "_law_name" ["stream"] (sp__law_name K)) (D__law_leaf : Has P w K mg base 3 "_law_leaf" ["stream", "widest"] (sp__law_leaf K)) : FnOk P w K mg base CX0 4 f fd ["stream", "size", "widest"] (sp__law_term K) := by
  obtain ⟨f__law_draw, fd__law_draw, G__law_draw, g__law_draw, kp__law_draw, b__law_draw⟩ := D__law_draw
  obtain ⟨f__law_name, fd__law_name, G__law_name, g__law_name, kp__law_name, b__law_name⟩ := D__law_name
  obtain ⟨f__law_leaf, fd__law_leaf, G__law_leaf, g__law_leaf, kp__law_leaf, b__law_leaf⟩ := D__law_leaf
  refine F.ok sc__law_term (fun vs H Q E h => ?_) (fun cdv A outer s H vs Q E' hr h => ?_)
  · obtain ⟨s, l, n, wd, rfl, _⟩ := h
    rfl
  · obtain ⟨s, l, n, wd, rfl, hS, hn, hn2, hw, hw2, q⟩ := h
    have n9 : (2 : Nat) ^ 140 ≤ 2 ^ 9000 := Nat.pow_le_pow_right (by decide) (by decide)
    refine ⟨_, (pss_cons (ps_set (i := 3) sc__law_term.nd rfl (Or.inl rfl) (pe_lst pa_nil))
      (pss_cons (ps_set (i := 4) sc__law_term.nd rfl (Or.inl rfl) pe_int)
      (pss_cons (ps_while PassesOwn.never (pt_cmpR op_gt (pv 4) pe_int (nomark _)) (pss_cons (ps_set (i := 4) sc__law_term.nd rfl (Or.inl rfl) (pe_op op_sub (pv 4) pe_int))
      (pss_cons (ps_set (i := 5) sc__law_term.nd rfl (Or.inl rfl) (pe_op op_sub (pe_op op_sub (pe_op op_sub (pv 1) (pe_callB call_len_seq (by rfl) E.b_len PySem.boot_len (pa_cons (pv 3) pa_nil))) (pv 4)) pe_int))
      (pss_one (ps_if (pw_and (pt_cmpR op_gt (pv 5) pe_int (nomark _)) (pw_and1 (pt_cmpR op_gt (pe_call G__law_draw (hr.mono (by decide)) (by rfl) g__law_draw kp__law_draw b__law_draw .nil pass0 (pa_cons (pv 0) (pa_cons pe_int pa_nil))) pe_int (nomark _)))).pt (pss_cons (ps_set (i := 6) sc__law_term.nd rfl (Or.inl rfl) (pe_op op_add pe_int (pe_call G__law_draw (hr.mono (by decide)) (by rfl) g__law_draw kp__law_draw b__law_draw .nil pass0 (pa_cons (pv 0) (pa_cons (pe_callB (call_min2 rfl) (by rfl) E.b_min (by decide +kernel) (pa_cons (pv 5) (pa_cons (pe_op op_add pe_int (pe_op op_mul pe_int (pe_callTy call_int1 (by rfl) E.b_int (by decide +kernel) (pa_cons (pe_cmpR op_eq (pe_call G__law_draw (hr.mono (by decide)) (by rfl) g__law_draw kp__law_draw b__law_draw .nil pass0 (pa_cons (pv 0) (pa_cons pe_int pa_nil))) pe_int (nomark _)) pa_nil)))) pa_nil))) pa_nil)))))
      (pss_cons (ps_set (i := 6) sc__law_term.nd rfl (Or.inl rfl) (pe_callB (call_min2 rfl) (by rfl) E.b_min (by decide +kernel) (pa_cons (pv 6) (pa_cons pe_int pa_nil))))
      (pss_cons (ps_expr (pe_bm PySem.F.plainAttrs_list PySem.F.slot_list_append PySem.F.type_list_append mt_append (pv 3) (pa_cons (pe_tup (pa_cons pe_str (pa_cons (pe_call G__law_name (hr.mono (by decide)) (by rfl) g__law_name kp__law_name b__law_name .nil pass0 (pa_cons (pv 0) pa_nil)) (pa_cons (pv 6) pa_nil)))) pa_nil)))
      (pss_one (ps_set (i := 4) sc__law_term.nd rfl (Or.inl rfl) (pe_op op_add (pv 4) (pv 6))))))) (pss_one (ps_expr (pe_bm PySem.F.plainAttrs_list PySem.F.slot_list_append PySem.F.type_list_append mt_append (pv 3) (pa_cons (pe_call G__law_leaf (hr.mono (by decide)) (by rfl) g__law_leaf kp__law_leaf b__law_leaf .nil pass0 (pa_cons (pv 0) (pa_cons (pv 2) pa_nil))) pa_nil)))))))))
      (pss_one (ps_ret (pe_callTy call_tuple_of (by rfl) E.b_tuple (by decide +kernel) (pa_cons (pv 3) pa_nil))))))), ?_⟩
    refine seq_asg ?_
    refine ⟨Nat.zero_le _, fun r nr => ?_⟩
    refine gname (seq_asg (gname (seq_any ?_)))
    obtain ⟨os, hos⟩ := hS.at_s
    obtain ⟨ol, hol⟩ := hS.at_l
    have sr : s ≠ r := ne_of_none hos nr
    have lr : l ≠ r := ne_of_none hol nr
    refine ⟨fun k σ H' => ∃ (m : Nat) (va vb : Option V) (xs : List V) (ds : List PyData), σ = [some (.ref s), some (.int n), some (.int wd), some (.ref r), some (.int (m : Int)), va, vb] ∧ H' r = some (.lst xs) ∧ ImAll K (fun b => H b = Option.none ∧ b ≠ r) H' xs ds ∧
        (∀ t, Cls m t → Cls 1 (ds ++ t)) ∧ (∀ d ∈ ds, Nd wd d) ∧ (ds.length : Int) + m ≤ n ∧ Stm H' s l ∧ But s H H' ∧ k = n.toNat - ds.length,
      ⟨_, 1, _, _, [], [], rfl, upd_same, .nil, fun t h => h, (fun d hd => nomatch hd), by show (0 : Int) + 1 ≤ n; omega, hS.put sr lr, But.of (same_upd nr), rfl⟩, ?_⟩
    rintro k σ H1 ⟨m, va, vb, xs, ds, rfl, h1, h2, h3, h4, h5, h6, h7, rfl⟩
    have hxl : xs.length = ds.length := h2.len
    refine ⟨_, rfl, _, _, rfl, rfl, _, rfl, ite2 (fun e => ?_) (fun e => ?_)⟩
    · have hm : 0 < m := by
        have := of_decide_eq_true e
        omega
      refine ⟨fun σ' H' => ∃ (m' : Nat) (va vb : Option V) (xs' : List V) (ds' : List PyData), σ' = [some (.ref s), some (.int n), some (.int wd), some (.ref r), some (.int (m' : Int)), va, vb] ∧ H' r = some (.lst xs') ∧ ImAll K (fun b => H b = Option.none ∧ b ≠ r) H' xs' ds' ∧
        (∀ t, Cls m' t → Cls 1 (ds' ++ t)) ∧ (∀ d ∈ ds', Nd wd d) ∧ (ds'.length : Int) + m' ≤ n ∧ Stm H' s l ∧ But s H H' ∧ ds'.length = ds.length + 1,
        fun σ' H' ⟨m', va', vb', xs', ds', g1, g2, g3, g4, g5, g6, g7, g8, g9⟩ => ⟨n.toNat - ds'.length, by omega, m', va', vb', xs', ds', g1, g2, g3, g4, g5, g6, g7, g8, rfl⟩, ?_⟩
      -- missing = missing - 1; room = ..
      refine seq_asg ?_
      refine ⟨_, rfl, _, _, rfl, rfl, ?_⟩
      refine gname (seq_asg ?_)
      refine ⟨_, rfl, _, rfl, _, _, rfl, .inl (SqL.of h1), _, _, rfl, rfl, _, rfl, _, _, rfl, rfl, _, _, rfl, rfl, ?_⟩
      refine gname ?_
      -- a new node is put behind
      have put : ∀ (H2 : Hp) (v : V) (d : PyData), But s H1 H2 → Stm H2 s l → Im K (fun b => H1 b = Option.none) H2 v d → Nd wd d → ∀ (m' : Nat) (z : Int), z = (m' : Int) → m' = m - 1 + arN d → (ds.length : Int) + 1 + m' ≤ n → ∀ va vb,
          ∃ (m'' : Nat) (va' vb' : Option V) (xs' : List V) (ds' : List PyData), [some (.ref s), some (.int n), some (.int wd), some (.ref r), some (.int z), va, vb] = [some (.ref s), some (.int n), some (.int wd), some (.ref r), some (.int (m'' : Int)), va', vb'] ∧ (upd H2 r (.lst (xs ++ [v]))) r = some (.lst xs') ∧ ImAll K (fun b => H b = Option.none ∧ b ≠ r) (upd H2 r (.lst (xs ++ [v]))) xs' ds' ∧
            (∀ t, Cls m'' t → Cls 1 (ds' ++ t)) ∧ (∀ d ∈ ds', Nd wd d) ∧ (ds'.length : Int) + m'' ≤ n ∧ Stm (upd H2 r (.lst (xs ++ [v]))) s l ∧ But s H (upd H2 r (.lst (xs ++ [v]))) ∧ ds'.length = ds.length + 1 := by
        intro H2 v d b2 S2 iv nd m' z hz em hle va vb
        have k1 : ∀ b o, (H b = Option.none ∧ b ≠ r) → H1 b = some o → (upd H2 r (.lst (xs ++ [v]))) b = some o := fun b o g e => by
          rw [upd_ne g.2]
          exact b2 b o (fun z => by rw [z, hos] at g; cases g.1) e
        have k2 : ∀ b o, H1 b = Option.none → H2 b = some o → (upd H2 r (.lst (xs ++ [v]))) b = some o := fun b o g e => by
          rw [upd_ne (fun z => by rw [z, h1] at g; cases g)]
          exact e
        have k3 : ∀ b, H1 b = Option.none → H b = Option.none ∧ b ≠ r := fun b g => by
          refine ⟨?_, fun z => by rw [z, h1] at g; cases g⟩
          cases eh : H b with
          | none => rfl
          | some o =>
            by_cases z : b = s
            · obtain ⟨o1, ho1⟩ := h6.at_s
              rw [z, ho1] at g; cases g
            · rw [h7 _ _ z eh] at g; cases g
        have k4 : ∀ t, Cls m' t → Cls 1 ((ds ++ [d]) ++ t) := fun t ht => by
          rw [List.append_assoc]
          exact h3 _ ⟨hm, by rw [em] at ht; exact ht⟩
        have k5 : ∀ d' ∈ ds ++ [d], Nd wd d' := fun d' hd' => by
          rcases List.mem_append.mp hd' with z | z
          · exact h4 _ z
          · rw [List.mem_singleton.mp z]; exact nd
        have k6 : ((ds ++ [d]).length : Int) + (m' : Int) ≤ n := by
          rw [List.length_append]
          show ((ds.length + 1 : Nat) : Int) + (m' : Int) ≤ n
          omega
        have k7 : But s H (upd H2 r (.lst (xs ++ [v]))) := fun b o hb e => by
          rw [upd_ne (ne_of_none e nr)]
          exact b2 b o hb (h7 b o hb e)
        exact ⟨m', va, vb, xs ++ [v], ds ++ [d], by rw [hz], upd_same, ImAll.snoc (Im.monoAll k1 (fun _ g => g) _ _ h2) (Im.mono k2 k3 _ _ iv), k4, k5, k6, S2.put sr lr, k7, by rw [List.length_append]; rfl⟩
      have hm1 : (m : Int) - 1 = ((m - 1 : Nat) : Int) := by omega
      -- if room > 0 and draw > 0
      refine ⟨_, rfl, _, _, rfl, rfl, _, rfl, ite2 (fun e1 => ?_) (fun e1 => ?_)⟩
      · have hroom : 0 < n - (xs.length : Int) - ((m : Int) - 1) - 1 := of_decide_eq_true e1
        refine ⟨_, rfl, s, l, 3, rfl, h6, by decide, Nat.lt_of_lt_of_le (by decide) n9, fun r1 H2 _ _ b2 S2 => ⟨_, _, rfl, rfl, _, rfl, ite2 (fun e2 => ?_) (fun e2 => ?_)⟩⟩
        · refine seq_asg ?_
          refine ⟨_, rfl, _, rfl, _, rfl, s, l, 8, rfl, S2, by decide, Nat.lt_of_lt_of_le (by decide) n9, fun r2 H3 _ _ b3 S3 => ⟨rfl, .inr ⟨_, rfl, _, _, rfl, rfl, .inl ⟨by decide, by decide⟩, _, _, rfl, rfl, _, _, rfl, ?_⟩⟩⟩
          have hk : (0 : Int) ≤ (if decide (V.int r2 = V.int 0) = true then 1 else 0) ∧ (if decide (V.int r2 = V.int 0) = true then (1 : Int) else 0) ≤ 1 := by split <;> decide
          generalize (if decide (V.int r2 = V.int 0) = true then (1 : Int) else 0) = k at hk
          refine ⟨s, l, _, rfl, S3, by split <;> omega, Nat.lt_of_lt_of_le (show _ < 2 ^ 140 from Nat.lt_of_le_of_lt (show _ ≤ 1000 by split <;> omega) (by decide)) n9, fun r3 H4 r30 r31 b4 S4 => ⟨_, _, rfl, rfl, ?_⟩⟩
          have h3r : 1 + r3 ≤ n - (xs.length : Int) - ((m : Int) - 1) - 1 := by
            split at r31 <;> omega
          refine gname (seq_asg ?_)
          refine ⟨_, rfl, _, _, rfl, ?_⟩
          refine gname (seq_any ?_)
          have har : 1 ≤ (if (8 : Int) < 1 + r3 then 8 else 1 + r3) ∧ (if (8 : Int) < 1 + r3 then 8 else 1 + r3) ≤ 8 ∧ (if (8 : Int) < 1 + r3 then 8 else 1 + r3) ≤ 1 + r3 := by split <;> omega
          have e4 : H4 r = some (.lst xs) := b4 _ _ sr.symm (b3 _ _ sr.symm (b2 _ _ sr.symm h1))
          generalize hga : (if (8 : Int) < 1 + r3 then (8 : Int) else 1 + r3) = ar at har
          obtain ⟨ha1, ha8, har3⟩ := har
          refine ⟨_, rfl, .inl ⟨rfl, _, SqL.of e4⟩, _, rfl, s, l, rfl, S4, fun x H5 hx b5 S5 => ⟨_, rfl, (by show 3 ≤ sizeLine; decide), fun p np => ?_⟩⟩
          have e5 : H5 r = some (.lst xs) := b5 _ _ sr.symm e4
          obtain ⟨os5, hos5⟩ := S5.at_s
          obtain ⟨ol5, hol5⟩ := S5.at_l
          have bb : But s H1 H5 := ((b2.trans b3).trans b4).trans b5
          have fp : H1 p = Option.none := by
            cases eh : H1 p with
            | none => rfl
            | some o =>
              by_cases z : p = s
              · rw [z, hos5] at np; cases np
              · rw [bb _ _ z eh] at np; cases np
          have rp : r ≠ p := ne_of_none e5 np
          refine ⟨_, _, _, rfl, rfl, by rw [upd_ne rp]; exact e5, small1000 (by omega), ?_⟩
          refine nxp (asg1 ?_)
          refine ⟨_, rfl, _, rfl, _, _, rfl, rfl, ?_⟩
          refine gname ?_
          have ea : arN (.tuple [.str "f", .str x, .int ar]) = ar.toNat := rfl
          exact put _ (.ref p) (.tuple [.str "f", .str x, .int ar]) (bb.trans (But.of (same_upd np))) (S5.put (ne_of_none hos5 np) (ne_of_none hol5 np)) (.tup fp upd_same (.cons (.str _) (.cons (.str _) (.cons (.int _) .nil)))) (.f x ar hx (by omega) ha8) (m - 1 + ar.toNat) _ (by omega) rfl (by omega) _ _
        · have e2r : H2 r = some (.lst xs) := b2 _ _ sr.symm h1
          refine ⟨_, rfl, .inl ⟨rfl, _, SqL.of e2r⟩, _, rfl, _, rfl, s, l, wd, rfl, S2, hw, hw2, fun v d H3 nd na b3 S3 iv => ?_⟩
          have fr : ∀ b, H2 b = Option.none → H1 b = Option.none := fun b g => by
            cases eh : H1 b with
            | none => rfl
            | some o =>
              by_cases z : b = s
              · obtain ⟨o1, ho1⟩ := S2.at_s
                rw [z, ho1] at g; cases g
              · rw [b2 _ _ z eh] at g; cases g
          refine ⟨_, _, _, rfl, rfl, b3 _ _ sr.symm e2r, small1000 (by omega), ?_⟩
          exact put H3 v d (b2.trans b3) S3 (Im.mono (fun _ _ _ e => e) fr _ _ iv) nd (m - 1) _ hm1 (by rw [na]; rfl) (by omega) _ _
      · refine iteF ?_
        refine ⟨_, rfl, .inl ⟨rfl, _, SqL.of h1⟩, _, rfl, _, rfl, s, l, wd, rfl, h6, hw, hw2, fun v d H3 nd na b3 S3 iv => ?_⟩
        refine ⟨_, _, _, rfl, rfl, b3 _ _ sr.symm h1, small1000 (by omega), ?_⟩
        exact put H3 v d b3 S3 iv nd (m - 1) _ hm1 (by rw [na]; rfl) (by omega) _ _
    · refine nxp ?_
      have hm : m = 0 := by
        cases m with
        | zero => rfl
        | succ m => exact absurd (decide_eq_true (by omega)) e
      subst hm
      have ht : Term wd ds := ⟨by have := h3 [] rfl; rwa [List.append_nil] at this, h4⟩
      refine ⟨_, rfl, _, _, rfl, .inl ⟨SqL.of h1, fun t nt => ?_⟩⟩
      obtain ⟨os1, hos1⟩ := h6.at_s
      obtain ⟨ol1, hol1⟩ := h6.at_l
      have ft : H t = Option.none := by
        cases eh : H t with
        | none => rfl
        | some o =>
          by_cases z : t = s
          · rw [z, hos1] at nt; cases nt
          · rw [h7 _ _ z eh] at nt; cases nt
      exact q _ ds _ ht (by omega) (h7.trans (But.of (same_upd nt))) (h6.put (ne_of_none hos1 nt) (ne_of_none hol1 nt)) (.tup ft upd_same (Im.monoAll (fun b o _ e => same_upd nt b o e) (fun _ g => g.1) _ _ h2))

theorem ok_law {f : Addr} {fd : FuncData} (F : Fun K "law" "law" s_law f fd) (E : Bi K mg) (D__law_stream : Has P w K mg base 1 "_law_stream" ["script"] (sp__law_stream K)) (D__law_term : Has P w K mg base 4 "_law_term" ["stream", "size", "widest"] (sp__law_term K)) (D__law_draw : Has P w K mg base 1 "_law_draw" ["stream", "many"] (sp__law_draw K)) (D__law_numbers : Has P w K mg base 1 "_law_numbers" ["term"] (sp__law_numbers K)) (D__law_mapped : Has P w K mg base 1 "_law_mapped" ["term", "table"] (sp__law_mapped K)) (D_variables : Has P w K mg base 2 "variables" ["term"] (sp_variables K)) (D_renumber : HasD P w K mg base 2 "renumber" ["term", "first"] [V.int 0] (sp_renumber K)) (D__law_variants : Has P w K mg base 1 "_law_variants" ["left", "right"] (sp__law_variants K)) (D_are_variants : Has P w K mg base 3 "are_variants" ["left", "right"] (sp_are_variants K)) : FnOk P w K mg base CX0 5 f fd ["script"] (sp_law K) := by
  obtain ⟨f__law_stream, fd__law_stream, G__law_stream, g__law_stream, kp__law_stream, b__law_stream⟩ := D__law_stream
  obtain ⟨f__law_term, fd__law_term, G__law_term, g__law_term, kp__law_term, b__law_term⟩ := D__law_term
  obtain ⟨f__law_draw, fd__law_draw, G__law_draw, g__law_draw, kp__law_draw, b__law_draw⟩ := D__law_draw
  obtain ⟨f__law_numbers, fd__law_numbers, G__law_numbers, g__law_numbers, kp__law_numbers, b__law_numbers⟩ := D__law_numbers
  obtain ⟨f__law_mapped, fd__law_mapped, G__law_mapped, g__law_mapped, kp__law_mapped, b__law_mapped⟩ := D__law_mapped
  obtain ⟨f_variables, fd_variables, G_variables, g_variables, kp_variables, b_variables⟩ := D_variables
  obtain ⟨f_renumber, fd_renumber, G_renumber, g_renumber, kp_renumber, ⟨ds_renumber, v_renumber, b_renumber⟩, ⟨df_renumber, vf_renumber, bf_renumber⟩⟩ := D_renumber
  obtain ⟨f__law_variants, fd__law_variants, G__law_variants, g__law_variants, kp__law_variants, b__law_variants⟩ := D__law_variants
  obtain ⟨f_are_variants, fd_are_variants, G_are_variants, g_are_variants, kp_are_variants, b_are_variants⟩ := D_are_variants
  refine F.ok sc_law (fun vs H Q E h => ?_) (fun cdv A outer s H vs Q E' hr h => ?_)
  · obtain ⟨a, ns, rfl, _⟩ := h
    rfl
  · obtain ⟨a, ns, rfl, hS, hl, q⟩ := h
    have n9 : (2 : Nat) ^ 8 ≤ 2 ^ 9000 := Nat.pow_le_pow_right (by decide) (by decide)
    have n10 : (2 : Nat) ^ 10 ≤ 2 ^ 9000 := Nat.pow_le_pow_right (by decide) (by decide)
    refine ⟨_, (pss_cons (ps_set (i := 1) sc_law.nd rfl (Or.inl rfl) (pe_call G__law_stream (hr.mono (by decide)) (by rfl) g__law_stream kp__law_stream b__law_stream .nil pass0 (pa_cons (pv 0) pa_nil)))
      (pss_cons (ps_set (i := 2) sc_law.nd rfl (Or.inl rfl) (pe_call G__law_term (hr.mono (by decide)) (by rfl) g__law_term kp__law_term b__law_term .nil pass0 (pa_cons (pv 1) (pa_cons (pe_op op_add pe_int (pe_call G__law_draw (hr.mono (by decide)) (by rfl) g__law_draw kp__law_draw b__law_draw .nil pass0 (pa_cons (pv 1) (pa_cons pe_int pa_nil)))) (pa_cons pe_int pa_nil)))))
      (pss_cons (ps_set (i := 3) sc_law.nd rfl (Or.inl rfl) pe_dnewK)
      (pss_cons (ps_set (i := 4) sc_law.nd rfl (Or.inl rfl) (pe_call G__law_numbers (hr.mono (by decide)) (by rfl) g__law_numbers kp__law_numbers b__law_numbers .nil pass0 (pa_cons (pv 2) pa_nil)))
      (pss_cons (ps_set (i := 5) sc_law.nd rfl (Or.inl rfl) (pe_op op_add pe_int (pe_op op_mul (pe_call G__law_draw (hr.mono (by decide)) (by rfl) g__law_draw kp__law_draw b__law_draw .nil pass0 (pa_cons (pv 1) (pa_cons pe_int pa_nil))) (pe_op op_pow pe_int pe_int))))
      (pss_cons (ps_for PassesOwn.never rfl (pi_range1 (by rfl) E.b_range (pa_cons (pe_callB call_len_seq (by rfl) E.b_len PySem.boot_len (pa_cons (pv 4) pa_nil)) pa_nil)) (pg_name (i := 6) sc_law.nd rfl (Or.inl rfl)) (pss_cons (ps_dput (hu_of hr) (pv 3) (pe_ix ix_list (pv 4) (pv 6) (fun _ _ => rfl)) (pe_op op_mul (pe_call G__law_draw (hr.mono (by decide)) (by rfl) g__law_draw kp__law_draw b__law_draw .nil pass0 (pa_cons (pv 1) (pa_cons pe_int pa_nil))) (pv 5)) (by rfl))
      (pss_one (ps_if (pt_cmpR op_gt (pe_call G__law_draw (hr.mono (by decide)) (by rfl) g__law_draw kp__law_draw b__law_draw .nil pass0 (pa_cons (pv 1) (pa_cons pe_int pa_nil))) pe_int (nomark _)) (pss_one (ps_dput (hu_of hr) (pv 3) (pe_ix ix_list (pv 4) (pv 6) (fun _ _ => rfl)) (pe_op op_add (pe_op op_mul pe_int (pv 6)) (pe_call G__law_draw (hr.mono (by decide)) (by rfl) g__law_draw kp__law_draw b__law_draw .nil pass0 (pa_cons (pv 1) (pa_cons pe_int pa_nil)))) (by rfl))) pss_nil))))
      (pss_cons (ps_set (i := 7) sc_law.nd rfl (Or.inl rfl) (pe_call G__law_mapped (hr.mono (by decide)) (by rfl) g__law_mapped kp__law_mapped b__law_mapped .nil pass0 (pa_cons (pv 2) (pa_cons (pv 3) pa_nil))))
      (pss_cons (ps_if (pt_cmpR op_eq (pe_call G__law_draw (hr.mono (by decide)) (by rfl) g__law_draw kp__law_draw b__law_draw .nil pass0 (pa_cons (pv 1) (pa_cons pe_int pa_nil))) pe_int (nomark _)) (pss_one (ps_set (i := 7) sc_law.nd rfl (Or.inl rfl) (pe_call G__law_term (hr.mono (by decide)) (by rfl) g__law_term kp__law_term b__law_term .nil pass0 (pa_cons (pv 1) (pa_cons (pe_callB call_len_seq (by rfl) E.b_len PySem.boot_len (pa_cons (pv 2) pa_nil)) (pa_cons pe_int pa_nil)))))) pss_nil)
      (pss_cons (ps_set (i := 8) sc_law.nd rfl (Or.inl rfl) (pe_call G__law_draw (hr.mono (by decide)) (by rfl) g__law_draw kp__law_draw b__law_draw .nil pass0 (pa_cons (pv 1) (pa_cons pe_int pa_nil))))
      (pss_cons (ps_for PassesOwn.never rfl (pi_tup (pe_tup (pa_cons (pv 2) (pa_cons (pv 7) pa_nil)))) (pg_name (i := 9) sc_law.nd rfl (Or.inl rfl)) (pss_cons (ps_set (i := 10) sc_law.nd rfl (Or.inl rfl) (pe_call G__law_numbers (hr.mono (by decide)) (by rfl) g__law_numbers kp__law_numbers b__law_numbers .nil pass0 (pa_cons (pv 9) pa_nil)))
      (pss_cons (ps_set (i := 11) sc_law.nd rfl (Or.inl rfl) (pe_call G_variables (hr.mono (by decide)) (by rfl) g_variables kp_variables b_variables .nil pass0 (pa_cons (pv 9) pa_nil)))
      (pss_cons (ps_if (pw_or (pt_not (pt_val (pe_callB call_isi (by rfl) E.b_isinstance (by decide +kernel) (pa_cons (pv 11) (pa_cons (pe_ty "list" (by rfl) E.b_list (by decide +kernel)) pa_nil))))) (pw_or1 (pt_cmpR (op_neD hr.units) (pv 11) (pv 10) (nomark _)))).pt (pss_one (ps_ret pe_bl)) pss_nil)
      (pss_cons (ps_expr (pe_bm PySem.F.plainAttrs_list PySem.F.slot_list_append PySem.F.type_list_append mt_append (pv 11) (pa_cons pe_int pa_nil)))
      (pss_cons (ps_if (pt_cmpR (op_neD hr.units) (pe_call G_variables (hr.mono (by decide)) (by rfl) g_variables kp_variables b_variables .nil pass0 (pa_cons (pv 9) pa_nil)) (pv 10) (nomark _)) (pss_one (ps_ret pe_bl)) pss_nil)
      (pss_cons (ps_set (i := 12) sc_law.nd rfl (Or.inl rfl) pe_dnewK)
      (pss_cons (ps_set (i := 13) sc_law.nd rfl (Or.inl rfl) pe_dnewK)
      (pss_cons (ps_for PassesOwn.never rfl (pi_range1 (by rfl) E.b_range (pa_cons (pe_callB call_len_seq (by rfl) E.b_len PySem.boot_len (pa_cons (pv 10) pa_nil)) pa_nil)) (pg_name (i := 6) sc_law.nd rfl (Or.inl rfl)) (pss_cons (ps_dput (hu_of hr) (pv 12) (pe_ix ix_list (pv 10) (pv 6) (fun _ _ => rfl)) (pe_op op_add (pv 8) (pv 6)) (by rfl))
      (pss_one (ps_dput (hu_of hr) (pv 13) (pe_ix ix_list (pv 10) (pv 6) (fun _ _ => rfl)) (pv 6) (by rfl)))))
      (pss_one (ps_if (pw_or (pt_cmpR (op_neD hr.units) (pe_call G_renumber (hr.mono (by decide)) (by rfl) g_renumber kp_renumber bf_renumber vf_renumber pass0 (pa_cons (pv 9) (pa_cons (pv 8) pa_nil))) (pe_call G__law_mapped (hr.mono (by decide)) (by rfl) g__law_mapped kp__law_mapped b__law_mapped .nil pass0 (pa_cons (pv 9) (pa_cons (pv 12) pa_nil))) (nomark _)) (pw_or1 (pt_cmpR (op_neD hr.units) (pe_call G_renumber (hr.mono (by decide)) (by rfl) g_renumber kp_renumber b_renumber v_renumber pass0 (pa_cons (pv 9) pa_nil)) (pe_call G__law_mapped (hr.mono (by decide)) (by rfl) g__law_mapped kp__law_mapped b__law_mapped .nil pass0 (pa_cons (pv 9) (pa_cons (pv 13) pa_nil))) (nomark _)))).pt (pss_one (ps_ret pe_bl)) pss_nil)))))))))))
      (pss_cons (ps_set (i := 10) sc_law.nd rfl (Or.inl rfl) (pe_call G__law_variants (hr.mono (by decide)) (by rfl) g__law_variants kp__law_variants b__law_variants .nil pass0 (pa_cons (pv 2) (pa_cons (pv 7) pa_nil))))
      (pss_cons (ps_for PassesOwn.never rfl (pi_tup (pe_tup (pa_cons (pe_tup (pa_cons (pv 2) (pa_cons (pv 7) (pa_cons (pv 10) pa_nil)))) (pa_cons (pe_tup (pa_cons (pv 7) (pa_cons (pv 2) (pa_cons (pv 10) pa_nil)))) (pa_cons (pe_tup (pa_cons (pv 2) (pa_cons (pv 2) (pa_cons pe_bl pa_nil)))) pa_nil))))) (pg_name (i := 14) sc_law.nd rfl (Or.inl rfl)) (pss_cons (ps_set (i := 15) sc_law.nd rfl (Or.inl rfl) (pe_call G_are_variants (hr.mono (by decide)) (by rfl) g_are_variants kp_are_variants b_are_variants .nil pass0 (pa_cons (pe_ix ix_tup (pv 14) pe_int (fun _ _ => rfl)) (pa_cons (pe_ix ix_tup (pv 14) pe_int (fun _ _ => rfl)) pa_nil))))
      (pss_one (ps_if (pw_or (pt_not (pt_val (pe_callB call_isi (by rfl) E.b_isinstance (by decide +kernel) (pa_cons (pv 15) (pa_cons (pe_ty "bool" (by rfl) E.b_bool (by decide +kernel)) pa_nil))))) (pw_or1 (pt_cmpR op_ne (pv 15) (pe_ix ix_tup (pv 14) pe_int (fun _ _ => rfl)) (nomark _)))).pt (pss_one (ps_ret pe_bl)) pss_nil))))
      (pss_one (ps_ret pe_bl)))))))))))))), ?_⟩
    refine seq_asg ?_
    refine ⟨_, rfl, a, ns, rfl, hS, hl, fun s l H1 hs hl1 s1 St1 => ?_⟩
    refine gname (seq_asg ?_)
    refine ⟨_, rfl, _, rfl, s, l, 12, rfl, St1, by decide, Nat.lt_of_lt_of_le (by decide) n9, fun n1 H2 n10' n11 b2 S2 => ⟨_, _, rfl, rfl, ?_⟩⟩
    refine ⟨s, l, 1 + n1, 5, rfl, S2, by omega, by omega, by decide, by decide, fun lx ls H3 ht hlen b3 S3 il => ?_⟩
    have nl : ∀ d ∈ ls, NdA d := fun d hd => ⟨5, ht.nd d hd⟩
    have hls : ls.length ≤ 12 := by omega
    have hlp : 0 < ls.length := by
      cases ls with
      | nil => exact absurd ht.cl (by show ¬ (1 = 0); decide)
      | cons _ _ => exact Nat.succ_pos _
    have dl3 : Dp K H3 lx (.tuple ls) := Im.dp _ _ il
    refine gname (seq_asg ?_)
    refine fun t nt => ?_
    refine gname (seq_asg ?_)
    obtain ⟨os3, hos3⟩ := S3.at_s
    obtain ⟨ol3, hol3⟩ := S3.at_l
    have st : s ≠ t := ne_of_none hos3 nt
    have lt : l ≠ t := ne_of_none hol3 nt
    refine ⟨_, rfl, lx, ls, rfl, dp_same (same_upd nt) _ _ dl3, nl, by omega, fun nb H4 s4 nn4 e4 => ?_⟩
    refine gname (seq_asg ?_)
    have S4 := (S3.put (o := .dK []) st lt).keep s4
    have et4 : H4 t = some (.dK []) := s4 _ _ upd_same
    have tb : t ≠ nb := fun z => by rw [← z, upd_same] at nn4; cases nn4
    have sb : s ≠ nb := fun z => by rw [← z, upd_ne st, hos3] at nn4; cases nn4
    have dl4 := dp_same ((same_upd (o := .dK []) nt).trans s4) _ _ dl3
    have hN := nums_len ls
    refine ⟨_, rfl, s, l, 3, rfl, S4, by decide, Nat.lt_of_lt_of_le (by decide) n9, fun r5 H5 r50 r51 b5 S5 => ⟨_, _, rfl, rfl, ⟨by decide, by decide, by decide⟩, _, _, rfl, rfl, .inl ⟨by omega, by omega⟩, _, _, rfl, rfl, ?_⟩⟩
    obtain ⟨step, hstep⟩ : ∃ step : Int, step = 1 + r5 * (10 : Int) ^ (12 : Int).toNat := ⟨_, rfl⟩
    have hst : (0 : Int) ≤ step := by
      have : (0 : Int) ≤ r5 * (10 : Int) ^ (12 : Int).toNat := Int.mul_nonneg r50 (by decide)
      omega
    refine gname (seq_any ?_)
    have dl5 := dp_but S4 b5 nl dl4
    have et5 := b5 _ _ st.symm et4
    have en5 := b5 _ _ sb.symm e4
    refine ⟨_, rfl, _, _, rfl, .inl (SqL.of en5), _, rfl, by rw [List.length_map]; omega, by rw [List.length_map]; omega, for_range (lo := 0) (n := ((nums ls).map V.int).length) (fun i σ H' => ∃ (vk : Option V) (kvs : List (Key × V)), σ = [some (.ref a), some (.ref s), some lx, some (.ref t), some (.ref nb), some (.int step), vk, none, none, none, none, none, none, none, none, none] ∧ H' t = some (.dK kvs) ∧ H' nb = some (.lst ((nums ls).map V.int)) ∧ Stm H' s l ∧ Dp K H' lx (.tuple ls) ∧ Drawn (nums ls) i kvs ∧ kvs.length ≤ 2 * i)
      ⟨none, [], by rw [hstep]; rfl, et5, en5, S5, dl5, ⟨(fun m hm => by rw [List.take_zero] at hm; cases hm), fun k v h => nomatch h⟩, Nat.le_refl 0⟩ ?_ ?_⟩
    · rintro i σ H6 hi ⟨vk, kvs, rfl, h1, h2, h3, h4, h5, h6⟩
      rw [List.length_map] at hi
      have hn : (nums ls)[i]? = some (nums ls)[i] := List.getElem?_eq_getElem hi
      generalize (nums ls)[i] = n at hn
      have hv : ((nums ls).map V.int)[i]? = some (.int n) := by rw [List.getElem?_map, hn]; rfl
      have hi0 : (0 : Int) + (i : Int) = ((i : Nat) : Int) := Int.zero_add _
      rw [hi0]
      obtain ⟨_, e3l⟩ := h3.at_l
      refine gname (seq_any ?_)
      refine ⟨_, rfl, s, l, 5, rfl, h3, by decide, Nat.lt_of_lt_of_le (by decide) n9, fun r7 H7 r70 r71 b7 S7 => ⟨_, rfl, _, _, rfl, rfl, .inl ⟨by omega, by omega⟩, _, rfl, _, rfl, _, rfl, _, _, _, _, rfl, rfl, SqL.of (b7 _ _ sb.symm h2), atI_nat (j := i) hv, t, _, rfl, DPut.k (k := Sum.inl n) (b7 _ _ st.symm h1) (small1000 (by omega)), ?_⟩⟩
      refine nxp ?_
      have e7 := b7 _ _ st.symm h1
      have nt7 : notTup H7 t := .inr ⟨_, e7⟩
      have D1 := h5.next hn (Int.mul_nonneg r70 hst)
      have l1 := length_putK kvs (Sum.inl n) (.int (r7 * step))
      have S8 : Stm (upd H7 t (.dK (putK kvs (Sum.inl n) (.int (r7 * step))))) s l := S7.put st (fun z => by
        obtain ⟨x0, y0, m0, ns0, q1, q2, _⟩ := S7.ex
        rw [z, e7] at q2; cases q2)
      have n8 : (upd H7 t (.dK (putK kvs (Sum.inl n) (.int (r7 * step))))) nb = some (.lst ((nums ls).map V.int)) := by rw [upd_ne tb.symm]; exact b7 _ _ sb.symm h2
      have d8 := dp_put (o := .dK (putK kvs (Sum.inl n) (.int (r7 * step)))) nt7 _ _ (tup_noL nl) (dp_but h3 b7 nl h4)
      have e8 : (upd H7 t (.dK (putK kvs (Sum.inl n) (.int (r7 * step))))) t = some (.dK (putK kvs (Sum.inl n) (.int (r7 * step)))) := upd_same
      generalize upd H7 t (.dK (putK kvs (Sum.inl n) (.int (r7 * step)))) = H8 at S8 n8 d8 e8
      generalize putK kvs (Sum.inl n) (.int (r7 * step)) = kv1 at D1 l1 e8
      refine ⟨_, rfl, s, l, 3, rfl, S8, by decide, Nat.lt_of_lt_of_le (by decide) n9, fun r9 H9 _ _ b9 S9 => ⟨_, _, rfl, rfl, _, rfl, ite2 (fun e => ?_) (fun e => ?_)⟩⟩
      · refine ⟨_, rfl, _, _, rfl, rfl, .inl ⟨by decide, by decide⟩, _, rfl, s, l, 7, rfl, S9, by decide, Nat.lt_of_lt_of_le (by decide) n9, fun rA HA rA0 rA1 bA SA => ⟨_, _, rfl, rfl, _, rfl, _, rfl, _, rfl, _, _, _, _, rfl, rfl, SqL.of (bA _ _ sb.symm (b9 _ _ sb.symm n8)), atI_nat (j := i) hv, t, _, rfl, DPut.k (k := Sum.inl n) (bA _ _ st.symm (b9 _ _ st.symm e8)) (small1000 (by omega)), ?_⟩⟩
        have eA := bA _ _ st.symm (b9 _ _ st.symm e8)
        have ntA : notTup HA t := .inr ⟨_, eA⟩
        refine ⟨_, _, rfl, upd_same, by rw [upd_ne tb.symm]; exact bA _ _ sb.symm (b9 _ _ sb.symm n8), SA.put st (fun z => by
          obtain ⟨x0, y0, m0, ns0, q1, q2, _⟩ := SA.ex
          rw [z, eA] at q2; cases q2), dp_put ntA _ _ (tup_noL nl) (dp_but S9 bA nl (dp_but S8 b9 nl d8)), D1.put (by omega), ?_⟩
        exact Nat.le_trans (length_putK _ _ _) (by omega)
      · exact ⟨_, kv1, rfl, b9 _ _ st.symm e8, b9 _ _ sb.symm n8, S9, dp_but S8 b9 nl d8, D1, by omega⟩
    · rintro σ H6 ⟨vk, kvs, rfl, h1, h2, h3, h4, h5, h6⟩
      rw [List.length_map] at h5
      have hall : ∀ m ∈ nums ls, ∃ z, valV kvs (Sum.inl m) = some (.int z) := fun m hm => h5.1 m (by rw [List.take_length]; exact hm)
      refine nxp (seq_asg ?_)
      have gdef : ∃ g : Int → Int, (∀ n, 0 ≤ g n) ∧ ∀ m ∈ nums ls, valV kvs (Sum.inl m) = some (.int (g m)) := by
        refine ⟨fun n => match valV kvs (Sum.inl n) with | some (.int z) => z | _ => 0, fun n => ?_, fun m hm => ?_⟩
        · cases e : valV kvs (Sum.inl n) with
          | none => simp only [e]; exact Int.le_refl 0
          | some v =>
            obtain ⟨z, rfl, hz⟩ := h5.2 _ _ e
            simp only [e]
            exact hz
        · obtain ⟨z, hz⟩ := hall m hm
          simp only [hz]
      obtain ⟨g, g0, g1⟩ := gdef
      refine ⟨_, rfl, _, rfl, lx, t, ls, kvs, g, rfl, h4, nl, by omega, h1, fun d hd v => ?_, fun rv H7 s7 d7 => ?_⟩
      · obtain ⟨k, hk⟩ := List.getElem?_of_mem hd
        exact g1 _ (mem_pre (nums_mem hk v))
      refine gname ?_
      have nr0 : ∀ d ∈ ls.map (mapD g), NdA d := fun d hd => by
        obtain ⟨e, he, rfl⟩ := List.mem_map.mp hd
        exact mapD_nd (nl e he) g0
      have S7 := h3.keep s7
      have dl7 := dp_same s7 _ _ h4
      refine seq_via (fun σ H' => ∃ rv rs, σ = [some (.ref a), some (.ref s), some lx, some (.ref t), some (.ref nb), some (.int step), vk, some rv, none, none, none, none, none, none, none, none] ∧ Dp K H' lx (.tuple ls) ∧ Dp K H' rv (.tuple rs) ∧ (∀ d ∈ rs, NdA d) ∧ rs.length ≤ 12 ∧ Stm H' s l) ?_ (fun go => ?_)
      · clear d7 dl7 S7 nr0 h1 h2 h3 h4
        rintro σ H8 ⟨rv, rs, rfl, dl8, dr8, nr, hrs, S8⟩
        refine seq_asg ?_
        refine ⟨_, rfl, s, l, 1001, rfl, S8, by decide, Nat.lt_of_lt_of_le (by decide) n10, fun fi H9 f0 f1 b9 S9 => ?_⟩
        refine gname (seq_any ?_)
        have dl9 := dp_but S8 b9 nl dl8
        have dr9 := dp_but S8 b9 nr dr8
        refine ⟨_, rfl, _, rfl, (by show 2 ≤ sizeLine; decide), fun tp ntp => ?_⟩
        have sT := same_upd (o := .tup [lx, rv]) ntp
        have dlT := dp_same sT _ _ dl9
        have drT := dp_same sT _ _ dr9
        have eT : SqT K (upd H9 tp (.tup [lx, rv])) tp [lx, rv] := SqT.of upd_same
        generalize upd H9 tp (.tup [lx, rv]) = HT at dlT drT eT
        refine ⟨tp, rfl, ⟨_, eT⟩, for_tup (K := K) (a := tp) (xs := [lx, rv]) (fun i σ H' => ∃ v6 v9 v10 v11 v12 v13, σ = [some (.ref a), some (.ref s), some lx, some (.ref t), some (.ref nb), some (.int step), v6, some rv, some (.int fi), v9, v10, v11, v12, v13, none, none] ∧ Same HT H')
          ⟨_, none, none, none, none, none, rfl, Same.refl HT⟩ (fun i σ H' _ ⟨_, _, _, _, _, _, _, e⟩ => same_sqT e eT) ?_ ?_⟩
        · rintro i x σ HA hi ⟨v6, v9, v10, v11, v12, v13, rfl, sA⟩
          obtain ⟨ds, dx, nd, hd⟩ : ∃ ds, Dp K HT x (.tuple ds) ∧ (∀ d ∈ ds, NdA d) ∧ ds.length ≤ 12 := by
            match i, hi with
            | 0, hi => cases hi; exact ⟨ls, dlT, nl, hls⟩
            | 1, hi => cases hi; exact ⟨rs, drT, nr, hrs⟩
            | i + 2, hi => simp at hi
          have dxA := dp_same sA _ _ dx
          have hNd := nums_len ds
          refine gname (seq_asg ?_)
          refine ⟨_, rfl, x, ds, rfl, dxA, nd, by omega, fun p1 H1 s1 n1 e1 => ?_⟩
          refine gname (seq_asg ?_)
          have dx1 := dp_same s1 _ _ dxA
          refine ⟨_, rfl, x, ds, rfl, dx1, nd, by omega, fun p2 H2 s2 n2 e2 => ?_⟩
          refine gname (seq_ifN ?_)
          have dx2 := dp_same s2 _ _ dx1
          have p12 : p1 ≠ p2 := ne_of_none e1 n2
          have sA2 := (sA.trans s1).trans s2
          refine ⟨_, rfl, _, _, _, _, _, rfl, .ty _, .base (.lst e2), kit_ty (show kitB "list" "list" = some true by decide +kernel), _, rfl, iteF ?_⟩
          refine ⟨_, rfl, _, rfl, .list ((nums ds).map PyData.int), .list ((nums ds).map PyData.int), .lst (SqL.of e2) (ints_dp _), .lst (SqL.of (s2 _ _ e1)) (ints_dp _), ints_shaped _, ints_shaped _, _, rfl, ?_⟩
          rw [ints_eqv]
          refine iteF (seq_any ?_)
          refine ⟨_, rfl, .inl ⟨rfl, _, SqL.of e2⟩, _, _, _, rfl, rfl, e2, small1000 (by rw [List.length_map]; omega), ?_⟩
          refine nxp (seq_ifN ?_)
          have nTp2 : HT p2 = Option.none := (sA.trans s1).free n2
          have sA3 : Same HT (upd H2 p2 (.lst ((nums ds).map V.int ++ [.int 77]))) := fun b o e => by rw [upd_ne (ne_of_none e nTp2)]; exact sA2 _ _ e
          have e13 : (upd H2 p2 (.lst ((nums ds).map V.int ++ [.int 77]))) p1 = some (.lst ((nums ds).map V.int)) := by rw [upd_ne p12]; exact s2 _ _ e1
          generalize upd H2 p2 (.lst ((nums ds).map V.int ++ [.int 77])) = H3 at sA3 e13
          have dx3 := dp_same sA3 _ _ dx
          refine ⟨_, rfl, x, ds, rfl, dx3, nd, by omega, fun p3 H4 s4 n4 e4 => ?_⟩
          refine ⟨_, rfl, .list ((nums ds).map PyData.int), .list ((nums ds).map PyData.int), .lst (SqL.of e4) (ints_dp _), .lst (SqL.of (s4 _ _ e13)) (ints_dp _), ints_shaped _, ints_shaped _, _, rfl, ?_⟩
          rw [ints_eqv]
          refine iteF (seq_asg ?_)
          refine fun p4 n4' => ?_
          refine gname (seq_asg ?_)
          refine fun p5 n5' => ?_
          refine gname (seq_any ?_)
          have e14 := s4 _ _ e13
          have sA4 := sA3.trans s4
          have p45 : p4 ≠ p5 := fun z => by rw [z, upd_same] at n5'; cases n5'
          have s45 := (same_upd (o := .dK []) n4').trans (same_upd (o := .dK []) n5')
          have e15 := s45 _ _ e14
          have ed4 : (upd (upd H4 p4 (.dK [])) p5 (.dK [])) p4 = some (.dK []) := by rw [upd_ne p45]; exact upd_same
          have ed5 : (upd (upd H4 p4 (.dK [])) p5 (.dK [])) p5 = some (.dK []) := upd_same
          have sA5 := sA4.trans s45
          have nT4 : HT p4 = Option.none := sA4.free n4'
          have nT5 : HT p5 = Option.none := (sA4.trans (same_upd (o := .dK []) n4')).free n5'
          have p14 : p1 ≠ p4 := ne_of_none e14 n4'
          have p15 : p1 ≠ p5 := ne_of_none ((same_upd (o := .dK []) n4') _ _ e14) n5'
          generalize upd (upd H4 p4 (.dK [])) p5 (.dK []) = H5 at e15 ed4 ed5 sA5
          refine ⟨_, rfl, _, _, rfl, .inl (SqL.of e15), _, rfl, by rw [List.length_map]; omega, by rw [List.length_map]; omega, for_range (lo := 0) (n := ((nums ds).map V.int).length) (fun i σ H' => ∃ (vk : Option V) (k1 k2 : List (Key × V)), σ = [some (.ref a), some (.ref s), some lx, some (.ref t), some (.ref nb), some (.int step), vk, some rv, some (.int fi), some x, some (.ref p1), some (.ref p2), some (.ref p4), some (.ref p5), none, none] ∧ Same HT H' ∧ H' p1 = some (.lst ((nums ds).map V.int)) ∧ H' p4 = some (.dK k1) ∧ H' p5 = some (.dK k2) ∧ Named (nums ds) fi i k1 ∧ Named (nums ds) 0 i k2 ∧ k1.length ≤ i ∧ k2.length ≤ i)
            ⟨v6, [], [], rfl, sA5, e15, ed4, ed5, (fun m hm => by rw [List.take_zero] at hm; cases hm), (fun m hm => by rw [List.take_zero] at hm; cases hm), Nat.le_refl 0, Nat.le_refl 0⟩ ?_ ?_⟩
          · rintro j σ H6 hj ⟨vk, k1, k2, rfl, g1, g2, g3, g4, g5, g6, g7, g8⟩
            rw [List.length_map] at hj
            have hn : (nums ds)[j]? = some (nums ds)[j] := List.getElem?_eq_getElem hj
            generalize (nums ds)[j] = n at hn
            have hv : ((nums ds).map V.int)[j]? = some (.int n) := by rw [List.getElem?_map, hn]; rfl
            have hi0 : (0 : Int) + (j : Int) = ((j : Nat) : Int) := Int.zero_add _
            have N2 := g6.next (nums_nodup ds) hn
            rw [hi0] at N2 ⊢
            have N1 := g5.next (nums_nodup ds) hn
            refine gname (seq_any ?_)
            refine ⟨_, rfl, _, rfl, _, _, rfl, rfl, _, rfl, _, rfl, _, rfl, _, _, _, _, rfl, rfl, SqL.of g2, atI_nat (j := j) hv, p4, _, rfl, DPut.k (k := Sum.inl n) g3 (small1000 (by omega)), ?_⟩
            refine nxp ?_
            refine ⟨_, rfl, _, rfl, _, rfl, _, rfl, _, _, _, _, rfl, rfl, SqL.of (by rw [upd_ne p14]; exact g2), atI_nat (j := j) hv, p5, _, rfl, DPut.k (k := Sum.inl n) (by rw [upd_ne p45.symm]; exact g4) (small1000 (by omega)), ?_⟩
            refine ⟨_, _, _, rfl, fun b o e => ?_, by rw [upd_ne p15, upd_ne p14]; exact g2, by rw [upd_ne p45]; exact upd_same, upd_same, N1, N2, Nat.le_trans (length_putK _ _ _) (by omega), Nat.le_trans (length_putK _ _ _) (by omega)⟩
            rw [upd_ne (ne_of_none e nT5), upd_ne (ne_of_none e nT4)]
            exact g1 _ _ e
          · rintro σ H6 ⟨vk, k1, k2, rfl, g1, g2, g3, g4, g5, g6, g7, g8⟩
            rw [List.length_map] at g5 g6
            have G5 : ∀ d ∈ ds, isVarN d = true → valV k1 (Sum.inl (numN d)) = some (.int (fi + ((nums ds).idxOf (numN d) : Nat))) := fun d hd v => by
              obtain ⟨k, hk⟩ := List.getElem?_of_mem hd
              exact g5 _ (by rw [List.take_length]; exact mem_pre (nums_mem hk v))
            have G6 : ∀ d ∈ ds, isVarN d = true → valV k2 (Sum.inl (numN d)) = some (.int (0 + ((nums ds).idxOf (numN d) : Nat))) := fun d hd v => by
              obtain ⟨k, hk⟩ := List.getElem?_of_mem hd
              exact g6 _ (by rw [List.take_length]; exact mem_pre (nums_mem hk v))
            refine nxp ?_
            have dx6 := dp_same g1 _ _ dx
            refine ⟨_, rfl, _, rfl, x, ds, fi, rfl, dx6, nd, by omega, fun v1 H7 s7 d1 => ?_⟩
            refine ⟨_, rfl, _, rfl, x, p4, ds, k1, fun n => fi + ((nums ds).idxOf n : Nat), rfl, dp_same s7 _ _ dx6, nd, by omega, s7 _ _ g3, G5, fun v2 H8 s8 d2 => ?_⟩
            have sh1 := tup_shaped (ren_nd (f := fi) nd f0)
            refine ⟨.tuple (renM fi ds), .tuple (renM fi ds), dp_same s8 _ _ d1, d2, sh1, sh1, _, rfl, ?_⟩
            rw [tup_eqv (ren_nd (f := fi) nd f0)]
            refine iteF ?_
            have s78 := s7.trans s8
            have dx8 := dp_same s78 _ _ dx6
            refine ⟨_, rfl, x, ds, 0, rfl, dx8, nd, by omega, fun v3 H9' s9 d3 => ?_⟩
            refine ⟨_, rfl, _, rfl, x, p5, ds, k2, fun n => 0 + ((nums ds).idxOf n : Nat), rfl, dp_same s9 _ _ dx8, nd, by omega, s9 _ _ (s78 _ _ g4), G6, fun v4 HB sB d4 => ?_⟩
            have sh2 := tup_shaped (ren_nd (f := 0) nd (Int.le_refl 0))
            refine ⟨.tuple (renM 0 ds), .tuple (renM 0 ds), dp_same sB _ _ d3, d4, sh2, sh2, _, rfl, ?_⟩
            rw [tup_eqv (ren_nd (f := 0) nd (Int.le_refl 0))]
            exact iteF ⟨_, _, _, _, _, _, rfl, ((g1.trans s78).trans s9).trans sB⟩
        · rintro σ HA ⟨v6, v9, v10, v11, v12, v13, rfl, sA⟩
          refine nxp (seq_asg ?_)
          refine ⟨_, rfl, _, rfl, lx, rv, ls, rs, rfl, dp_same sA _ _ dlT, dp_same sA _ _ drT, nl, nr, by omega, by omega, fun bb HB sB hb => ?_⟩
          refine gname (seq_any ?_)
          have dlB := dp_same (sA.trans sB) _ _ dlT
          have drB := dp_same (sA.trans sB) _ _ drT
          refine ⟨_, rfl, _, rfl, _, rfl, (by show 3 ≤ sizeLine; decide), fun q1 nq1 => ?_⟩
          refine ⟨_, rfl, _, rfl, _, rfl, (by show 3 ≤ sizeLine; decide), fun q2 nq2 => ?_⟩
          refine ⟨_, rfl, _, rfl, (by show 3 ≤ sizeLine; decide), fun q3 nq3 => ?_⟩
          refine ⟨(by show 3 ≤ sizeLine; decide), fun q4 nq4 => ?_⟩
          have t1 := same_upd (o := .tup [lx, rv, .bl bb]) nq1
          have t2 := same_upd (o := .tup [rv, lx, .bl bb]) nq2
          have t3 := same_upd (o := .tup [lx, lx, .bl true]) nq3
          have t4 := same_upd (o := .tup [.ref q1, .ref q2, .ref q3]) nq4
          have f1 := t4 _ _ (t3 _ _ (t2 _ _ (upd_same (H := HB) (a := q1) (o := .tup [lx, rv, .bl bb]))))
          have f2 := t4 _ _ (t3 _ _ (upd_same (H := upd HB q1 (.tup [lx, rv, .bl bb])) (a := q2) (o := .tup [rv, lx, .bl bb])))
          have f3 := t4 _ _ (upd_same (H := upd (upd HB q1 (.tup [lx, rv, .bl bb])) q2 (.tup [rv, lx, .bl bb])) (a := q3) (o := .tup [lx, lx, .bl true]))
          have tt := (t1.trans t2).trans (t3.trans t4)
          have dlC := dp_same tt _ _ dlB
          have drC := dp_same tt _ _ drB
          have e4 := SqT.of (K := K) (upd_same (H := upd (upd (upd HB q1 (.tup [lx, rv, .bl bb])) q2 (.tup [rv, lx, .bl bb])) q3 (.tup [lx, lx, .bl true])) (a := q4) (o := .tup [.ref q1, .ref q2, .ref q3]))
          generalize upd (upd (upd (upd HB q1 (.tup [lx, rv, .bl bb])) q2 (.tup [rv, lx, .bl bb])) q3 (.tup [lx, lx, .bl true])) q4 (.tup [.ref q1, .ref q2, .ref q3]) = HC at f1 f2 f3 e4 dlC drC
          refine ⟨q4, rfl, ⟨_, e4⟩, for_tup (K := K) (a := q4) (xs := [.ref q1, .ref q2, .ref q3]) (fun i σ H' => ∃ w14 w15, σ = [some (.ref a), some (.ref s), some lx, some (.ref t), some (.ref nb), some (.int step), v6, some rv, some (.int fi), v9, some (.bl bb), v11, v12, v13, w14, w15] ∧ Same HC H')
            ⟨none, none, rfl, Same.refl HC⟩ (fun i σ H' _ ⟨_, _, _, e⟩ => same_sqT e e4) ?_ ?_⟩
          · rintro i x σ HD hi ⟨w14, w15, rfl, sD⟩
            obtain ⟨c, u1, u2, l1, l2, b', rfl, hc, du1, du2, m1, m2, k1, k2, hiff⟩ : ∃ (c : Addr) (u1 u2 : V) (l1 l2 : List PyData) (b' : Bool), x = .ref c ∧ HC c = some (.tup [u1, u2, .bl b']) ∧ Dp K HC u1 (.tuple l1) ∧ Dp K HC u2 (.tuple l2) ∧ (∀ d ∈ l1, NdA d) ∧ (∀ d ∈ l2, NdA d) ∧ l1.length ≤ 12 ∧ l2.length ≤ 12 ∧ (b' = true ↔ VarP l1 l2) := by
              match i, hi with
              | 0, hi => cases hi; exact ⟨q1, lx, rv, ls, rs, bb, rfl, f1, dlC, drC, nl, nr, hls, hrs, hb⟩
              | 1, hi => cases hi; exact ⟨q2, rv, lx, rs, ls, bb, rfl, f2, drC, dlC, nr, nl, hrs, hls, hb.trans (Iff.intro (VarP.symm nl nr) (VarP.symm nr nl))⟩
              | 2, hi => cases hi; exact ⟨q3, lx, lx, ls, ls, true, rfl, f3, dlC, dlC, nl, nl, hls, hls, Iff.intro (fun _ => VarP.refl nl) (fun _ => rfl)⟩
              | i + 3, hi => simp at hi
            have hcD := SqT.of (K := K) (sD _ _ hc)
            refine gname (seq_asg ?_)
            refine ⟨_, rfl, _, _, _, _, rfl, rfl, hcD, atI_nat (j := 0) rfl, _, rfl, _, _, _, _, rfl, rfl, hcD, atI_nat (j := 1) rfl, u1, u2, l1, l2, rfl, dp_same sD _ _ du1, dp_same sD _ _ du2, m1, m2, by omega, by omega, fun HE sE => ?_⟩
            refine gname ?_
            have hbe : PyData.eqv (.tuple (renM 0 l1)) (.tuple (renM 0 l2)) = b' := by
              have z := (ren_var m1 m2).trans hiff.symm
              cases b' with
              | true => exact z.mpr rfl
              | false => exact Bool.eq_false_iff.mpr fun y => nomatch (z.mp y)
            rw [hbe]
            refine ⟨_, rfl, _, _, _, _, _, rfl, .ty _, .base (.bl b'), kit_ty (show kitB "bool" "bool" = some true by decide +kernel), _, rfl, iteF ?_⟩
            refine ⟨_, rfl, _, rfl, _, _, _, _, rfl, rfl, same_sqT sE hcD, atI_nat (j := 2) rfl, rfl, _, rfl, ?_⟩
            rw [decide_eq_true rfl]
            exact iteF ⟨_, _, rfl, sD.trans sE⟩
          · rintro σ HD ⟨w14, w15, rfl, sD⟩
            exact q _
      · refine ⟨_, rfl, s, l, 2, rfl, S7, by decide, Nat.lt_of_lt_of_le (by decide) n9, fun rB HB _ _ bB SB => ⟨rfl, _, rfl, ite2 (fun e => ?_) (fun e => ?_)⟩⟩
        · refine asg1 ?_
          have dlB := dp_but S7 bB nl dl7
          cases id dlB with
          | @tup c zs _ hz az =>
          have hzl := DpAll.len az
          refine ⟨_, rfl, _, rfl, _, _, rfl, .inr hz, s, l, _, 5, rfl, SB, by omega, by omega, by decide, by decide, fun v ds HC ht2 hlen2 bC SC iv => ?_⟩
          refine gname ?_
          exact go _ _ ⟨v, ds, rfl, dp_but SB bC nl dlB, Im.dp _ _ iv, fun d hd => ⟨5, ht2.nd d hd⟩, by omega, SC⟩
        · exact go _ _ ⟨rv, _, rfl, dp_but S7 bB nl dl7, dp_but S7 bB nr0 d7, nr0, by rw [List.length_map]; exact hls, SB⟩

end
/-! ### the end -/
theorem all_mk {l : PySem.W.OpenLaw} {w : World} {K : PySem.W.Frag} {h : Heap} {mg : Str → Option Value} {fa f1 f2 f3 f4 f5 f6 f7 f8 f9 f10 f11 f12 f13 : Addr} (X : K.In h) (G : h.Ns mainGlobals mg) (hfa : mg "law" = some (.ref fa))
    {od1 an1 od2 an2 od3 an3 od4 an4 od5 an5 od6 an6 od7 an7 od8 an8 od9 an9 od10 an10 od11 an11 od12 an12 od13 an13 : Option Addr} {sl1 sl2 sl3 sl4 sl5 sl6 sl7 sl8 sl9 sl10 sl11 sl12 sl13 : Array (Option Value)} {oc1 kV1 dc1 pm1 cd1 ct1 oc2 kV2 dc2 pm2 cd2 ct2 oc3 kV3 dc3 pm3 cd3 ct3 oc4 kV4 dc4 pm4 cd4 ct4 oc5 kV5 dc5 pm5 cd5 ct5 oc6 kV6 dc6 pm6 cd6 ct6 oc7 kV7 dc7 pm7 cd7 ct7 oc8 kV8 dc8 pm8 cd8 ct8 oc9 kV9 dc9 pm9 cd9 ct9 oc10 kV10 dc10 pm10 cd10 ct10 oc11 kV11 dc11 pm11 cd11 ct11 oc12 kV12 dc12 pm12 cd12 ct12 oc13 kV13 dc13 pm13 cd13 ct13 : Value}
 {T3o : Addr} {td3 : Option Addr} {tn3 : Nat} {ts3 : Array (Option Value)} {tt3_0 : Tok}
    (a1 : PySem.W.nsIn K mainGlobals "is_variable" = some (some (.ref f1))) (l1 : K.lookup f1 = some ⟨oc1, od1, .func (PySem.W.fnOf "is_variable" "is_variable" (defArgs s_is_variable) (defBody s_is_variable) (defScope s_is_variable) .none kV1 dc1 pm1 an1 cd1 ct1), sl1⟩) (c1 : PySem.W.codeIn K cd1 "is_variable" = true) (k1 : PySem.W.keepIn K (.ref f1) = true)
    (a2 : PySem.W.nsIn K mainGlobals "variables" = some (some (.ref f2))) (l2 : K.lookup f2 = some ⟨oc2, od2, .func (PySem.W.fnOf "variables" "variables" (defArgs s_variables) (defBody s_variables) (defScope s_variables) .none kV2 dc2 pm2 an2 cd2 ct2), sl2⟩) (c2 : PySem.W.codeIn K cd2 "variables" = true) (k2 : PySem.W.keepIn K (.ref f2) = true)
    (a3 : PySem.W.nsIn K mainGlobals "renumber" = some (some (.ref f3))) (l3 : K.lookup f3 = some ⟨oc3, od3, .func (PySem.W.fnOf "renumber" "renumber" (defArgs s_renumber) (defBody s_renumber) (defScope s_renumber) (.ref T3o) kV3 dc3 pm3 an3 cd3 ct3), sl3⟩) (c3 : PySem.W.codeIn K cd3 "renumber" = true) (k3 : PySem.W.keepIn K (.ref f3) = true)
    (t3 : K.lookup T3o = some ⟨.type "tuple", td3, .seq #[.int 0 tt3_0] tn3, ts3⟩)
    (a4 : PySem.W.nsIn K mainGlobals "are_variants" = some (some (.ref f4))) (l4 : K.lookup f4 = some ⟨oc4, od4, .func (PySem.W.fnOf "are_variants" "are_variants" (defArgs s_are_variants) (defBody s_are_variants) (defScope s_are_variants) .none kV4 dc4 pm4 an4 cd4 ct4), sl4⟩) (c4 : PySem.W.codeIn K cd4 "are_variants" = true) (k4 : PySem.W.keepIn K (.ref f4) = true)
    (a5 : PySem.W.nsIn K mainGlobals "_law_stream" = some (some (.ref f5))) (l5 : K.lookup f5 = some ⟨oc5, od5, .func (PySem.W.fnOf "_law_stream" "_law_stream" (defArgs s__law_stream) (defBody s__law_stream) (defScope s__law_stream) .none kV5 dc5 pm5 an5 cd5 ct5), sl5⟩) (c5 : PySem.W.codeIn K cd5 "_law_stream" = true) (k5 : PySem.W.keepIn K (.ref f5) = true)
    (a6 : PySem.W.nsIn K mainGlobals "_law_draw" = some (some (.ref f6))) (l6 : K.lookup f6 = some ⟨oc6, od6, .func (PySem.W.fnOf "_law_draw" "_law_draw" (defArgs s__law_draw) (defBody s__law_draw) (defScope s__law_draw) .none kV6 dc6 pm6 an6 cd6 ct6), sl6⟩) (c6 : PySem.W.codeIn K cd6 "_law_draw" = true) (k6 : PySem.W.keepIn K (.ref f6) = true)
    (a7 : PySem.W.nsIn K mainGlobals "_law_name" = some (some (.ref f7))) (l7 : K.lookup f7 = some ⟨oc7, od7, .func (PySem.W.fnOf "_law_name" "_law_name" (defArgs s__law_name) (defBody s__law_name) (defScope s__law_name) .none kV7 dc7 pm7 an7 cd7 ct7), sl7⟩) (c7 : PySem.W.codeIn K cd7 "_law_name" = true) (k7 : PySem.W.keepIn K (.ref f7) = true)
    (a8 : PySem.W.nsIn K mainGlobals "_law_leaf" = some (some (.ref f8))) (l8 : K.lookup f8 = some ⟨oc8, od8, .func (PySem.W.fnOf "_law_leaf" "_law_leaf" (defArgs s__law_leaf) (defBody s__law_leaf) (defScope s__law_leaf) .none kV8 dc8 pm8 an8 cd8 ct8), sl8⟩) (c8 : PySem.W.codeIn K cd8 "_law_leaf" = true) (k8 : PySem.W.keepIn K (.ref f8) = true)
    (a9 : PySem.W.nsIn K mainGlobals "_law_term" = some (some (.ref f9))) (l9 : K.lookup f9 = some ⟨oc9, od9, .func (PySem.W.fnOf "_law_term" "_law_term" (defArgs s__law_term) (defBody s__law_term) (defScope s__law_term) .none kV9 dc9 pm9 an9 cd9 ct9), sl9⟩) (c9 : PySem.W.codeIn K cd9 "_law_term" = true) (k9 : PySem.W.keepIn K (.ref f9) = true)
    (a10 : PySem.W.nsIn K mainGlobals "_law_numbers" = some (some (.ref f10))) (l10 : K.lookup f10 = some ⟨oc10, od10, .func (PySem.W.fnOf "_law_numbers" "_law_numbers" (defArgs s__law_numbers) (defBody s__law_numbers) (defScope s__law_numbers) .none kV10 dc10 pm10 an10 cd10 ct10), sl10⟩) (c10 : PySem.W.codeIn K cd10 "_law_numbers" = true) (k10 : PySem.W.keepIn K (.ref f10) = true)
    (a11 : PySem.W.nsIn K mainGlobals "_law_mapped" = some (some (.ref f11))) (l11 : K.lookup f11 = some ⟨oc11, od11, .func (PySem.W.fnOf "_law_mapped" "_law_mapped" (defArgs s__law_mapped) (defBody s__law_mapped) (defScope s__law_mapped) .none kV11 dc11 pm11 an11 cd11 ct11), sl11⟩) (c11 : PySem.W.codeIn K cd11 "_law_mapped" = true) (k11 : PySem.W.keepIn K (.ref f11) = true)
    (a12 : PySem.W.nsIn K mainGlobals "_law_variants" = some (some (.ref f12))) (l12 : K.lookup f12 = some ⟨oc12, od12, .func (PySem.W.fnOf "_law_variants" "_law_variants" (defArgs s__law_variants) (defBody s__law_variants) (defScope s__law_variants) .none kV12 dc12 pm12 an12 cd12 ct12), sl12⟩) (c12 : PySem.W.codeIn K cd12 "_law_variants" = true) (k12 : PySem.W.keepIn K (.ref f12) = true)
    (a13 : PySem.W.nsIn K mainGlobals "law" = some (some (.ref f13))) (l13 : K.lookup f13 = some ⟨oc13, od13, .func (PySem.W.fnOf "law" "law" (defArgs s_law) (defBody s_law) (defScope s_law) .none kV13 dc13 pm13 an13 cd13 ct13), sl13⟩) (c13 : PySem.W.codeIn K cd13 "law" = true) (k13 : PySem.W.keepIn K (.ref f13) = true)
    (z0 : PySem.W.nsIn K mainGlobals "abs" = some none)
    (z1 : PySem.W.nsIn K mainGlobals "bool" = some none)
    (z2 : PySem.W.nsIn K mainGlobals "int" = some none)
    (z3 : PySem.W.nsIn K mainGlobals "isinstance" = some none)
    (z4 : PySem.W.nsIn K mainGlobals "len" = some none)
    (z5 : PySem.W.nsIn K mainGlobals "list" = some none)
    (z6 : PySem.W.nsIn K mainGlobals "min" = some none)
    (z7 : PySem.W.nsIn K mainGlobals "range" = some none)
    (z8 : PySem.W.nsIn K mainGlobals "tuple" = some none)
    : ∃ fd : FuncData, (∀ (s : Shared) (v : Value), BindsTo s fd ⟨[v], []⟩ [("script", v)]) ∧ ∀ base : Heap, K.In base → base.Ns mainGlobals mg → FnOk l.prog w K mg base CX0 5 fa fd ["script"] (sp_law K) := by
  have e := hfa.symm.trans (PySem.W.mg_of X G a13)
  cases e
  have F1 := fun_mk (st := s_is_variable) l1 c1 k1
  have b1 := F1.binds (ps := ["node"]) fun _ _ _ _ _ _ us hl => match us, hl with | [_], _ => rfl
  have F2 := fun_mk (st := s_variables) l2 c2 k2
  have b2 := F2.binds (ps := ["term"]) fun _ _ _ _ _ _ us hl => match us, hl with | [_], _ => rfl
  have F3 : FunD K "renumber" "renumber" (defArgs s_renumber) (defBody s_renumber) (defScope s_renumber) [V.int 0] [] f3 _ := ⟨⟨_, _, _, _, _, _, _, _, _, _, rfl, l3, c3, .inr ⟨by simp, _, _, [.int 0 tt3_0], _, rfl, t3, rfl, .cons (relInt _ _) (.nil)⟩, .inl rfl⟩, k3⟩
  have b3 := F3.binds1 (ps := ["term", "first"]) 1 0 (by simp) rfl fun T _ _ _ _ _ _ us its h1 h2 => match us, h1, its, h2 with | [_], _, [_], _ => ⟨_, rfl, rfl⟩
  have bf3 := F3.binds1 (ps := ["term", "first"]) 2 1 (by simp) rfl fun T _ _ _ _ _ _ us its h1 h2 => match us, h1, its, h2 with | [_, _], _, [_], _ => ⟨_, rfl, rfl⟩
  have F4 := fun_mk (st := s_are_variants) l4 c4 k4
  have b4 := F4.binds (ps := ["left", "right"]) fun _ _ _ _ _ _ us hl => match us, hl with | [_, _], _ => rfl
  have F5 := fun_mk (st := s__law_stream) l5 c5 k5
  have b5 := F5.binds (ps := ["script"]) fun _ _ _ _ _ _ us hl => match us, hl with | [_], _ => rfl
  have F6 := fun_mk (st := s__law_draw) l6 c6 k6
  have b6 := F6.binds (ps := ["stream", "many"]) fun _ _ _ _ _ _ us hl => match us, hl with | [_, _], _ => rfl
  have F7 := fun_mk (st := s__law_name) l7 c7 k7
  have b7 := F7.binds (ps := ["stream"]) fun _ _ _ _ _ _ us hl => match us, hl with | [_], _ => rfl
  have F8 := fun_mk (st := s__law_leaf) l8 c8 k8
  have b8 := F8.binds (ps := ["stream", "widest"]) fun _ _ _ _ _ _ us hl => match us, hl with | [_, _], _ => rfl
  have F9 := fun_mk (st := s__law_term) l9 c9 k9
  have b9 := F9.binds (ps := ["stream", "size", "widest"]) fun _ _ _ _ _ _ us hl => match us, hl with | [_, _, _], _ => rfl
  have F10 := fun_mk (st := s__law_numbers) l10 c10 k10
  have b10 := F10.binds (ps := ["term"]) fun _ _ _ _ _ _ us hl => match us, hl with | [_], _ => rfl
  have F11 := fun_mk (st := s__law_mapped) l11 c11 k11
  have b11 := F11.binds (ps := ["term", "table"]) fun _ _ _ _ _ _ us hl => match us, hl with | [_, _], _ => rfl
  have F12 := fun_mk (st := s__law_variants) l12 c12 k12
  have b12 := F12.binds (ps := ["left", "right"]) fun _ _ _ _ _ _ us hl => match us, hl with | [_, _], _ => rfl
  have F13 := fun_mk (st := s_law) l13 c13 k13
  have E : Bi K mg := ⟨PySem.W.mg_none_of X G z0, PySem.W.mg_none_of X G z1, PySem.W.mg_none_of X G z2, PySem.W.mg_none_of X G z3, PySem.W.mg_none_of X G z4, PySem.W.mg_none_of X G z5, PySem.W.mg_none_of X G z6, PySem.W.mg_none_of X G z7, PySem.W.mg_none_of X G z8⟩
  refine ⟨PySem.W.fnOf "law" "law" (defArgs s_law) (defBody s_law) (defScope s_law) .none kV13 dc13 pm13 an13 cd13 ct13, fun s v => .of_eq rfl, fun base _ _ => ?_⟩
  have D1 : Has l.prog w K mg base 1 "is_variable" ["node"] (sp_is_variable K) := ⟨_, _, ok_is_variable F1 E , PySem.W.mg_of X G a1, k1, b1⟩
  have D5 : Has l.prog w K mg base 1 "_law_stream" ["script"] (sp__law_stream K) := ⟨_, _, ok__law_stream F5 E , PySem.W.mg_of X G a5, k5, b5⟩
  have D6 : Has l.prog w K mg base 1 "_law_draw" ["stream", "many"] (sp__law_draw K) := ⟨_, _, ok__law_draw F6 E , PySem.W.mg_of X G a6, k6, b6⟩
  have D10 : Has l.prog w K mg base 1 "_law_numbers" ["term"] (sp__law_numbers K) := ⟨_, _, ok__law_numbers F10 E , PySem.W.mg_of X G a10, k10, b10⟩
  have D11 : Has l.prog w K mg base 1 "_law_mapped" ["term", "table"] (sp__law_mapped K) := ⟨_, _, ok__law_mapped F11 E , PySem.W.mg_of X G a11, k11, b11⟩
  have D12 : Has l.prog w K mg base 1 "_law_variants" ["left", "right"] (sp__law_variants K) := ⟨_, _, ok__law_variants F12 E , PySem.W.mg_of X G a12, k12, b12⟩
  have D2 : Has l.prog w K mg base 2 "variables" ["term"] (sp_variables K) := ⟨_, _, ok_variables F2 E D1, PySem.W.mg_of X G a2, k2, b2⟩
  have D3 : HasD l.prog w K mg base 2 "renumber" ["term", "first"] [V.int 0] (sp_renumber K) := ⟨_, _, ok_renumber F3 E D1, PySem.W.mg_of X G a3, k3, b3, bf3⟩
  have D7 : Has l.prog w K mg base 2 "_law_name" ["stream"] (sp__law_name K) := ⟨_, _, ok__law_name F7 E D6, PySem.W.mg_of X G a7, k7, b7⟩
  have D4 : Has l.prog w K mg base 3 "are_variants" ["left", "right"] (sp_are_variants K) := ⟨_, _, ok_are_variants F4 E D3, PySem.W.mg_of X G a4, k4, b4⟩
  have D8 : Has l.prog w K mg base 3 "_law_leaf" ["stream", "widest"] (sp__law_leaf K) := ⟨_, _, ok__law_leaf F8 E D6 D7, PySem.W.mg_of X G a8, k8, b8⟩
  have D9 : Has l.prog w K mg base 4 "_law_term" ["stream", "size", "widest"] (sp__law_term K) := ⟨_, _, ok__law_term F9 E D6 D7 D8, PySem.W.mg_of X G a9, k9, b9⟩
  exact ok_law F13 E D5 D9 D6 D10 D11 D2 D3 D12 D4
end My
open PySem PySem.W PyProof.Rows
set_option maxRecDepth 100000 in
set_option maxHeartbeats 0 in
theorem PySem.Challenge.cw_hornbook_k04_variants_holds : PySem.Challenge.rw_hornbook_k04_variants.Holds := by
  w_on; o_law; k_head; (case hw => w_witness2)
  k_fill
  refine L2.walk_of (l := PySem.Challenge.rw_hornbook_k04_variants) (n := 63) (k := 5) (x := "script") (CX := fun _ => L2.CX0) (sp := fun w => My.sp_law _) rfl (by decide) rfl ⟨rfl, by decide, by decide⟩ (fun w h Y => PySem.W.kIn_of Y) ?F (fun _ _ a ns hl _ hS => ⟨a, ns, rfl, hS, hl, fun _ => rfl⟩) (fun _ _ _ _ _ h => h)
  case F =>
    intro w mg fa h KX G hmg
    refine' My.all_mk KX G hmg ?a1 ?l1 ?c1 ?k1 ?a2 ?l2 ?c2 ?k2 ?a3 ?l3 ?c3 ?k3 ?t3 ?a4 ?l4 ?c4 ?k4 ?a5 ?l5 ?c5 ?k5 ?a6 ?l6 ?c6 ?k6 ?a7 ?l7 ?c7 ?k7 ?a8 ?l8 ?c8 ?k8 ?a9 ?l9 ?c9 ?k9 ?a10 ?l10 ?c10 ?k10 ?a11 ?l11 ?c11 ?k11 ?a12 ?l12 ?c12 ?k12 ?a13 ?l13 ?c13 ?k13 ?z0 ?z1 ?z2 ?z3 ?z4 ?z5 ?z6 ?z7 ?z8
    (case a1 => k_is)
    (case l1 => k_is)
    (case c1 => k_is)
    (case k1 => k_is)
    (case a2 => k_is)
    (case l2 => k_is)
    (case c2 => k_is)
    (case k2 => k_is)
    (case a3 => k_is)
    (case l3 => k_is)
    (case c3 => k_is)
    (case k3 => k_is)
    (case t3 => k_is)
    (case a4 => k_is)
    (case l4 => k_is)
    (case c4 => k_is)
    (case k4 => k_is)
    (case a5 => k_is)
    (case l5 => k_is)
    (case c5 => k_is)
    (case k5 => k_is)
    (case a6 => k_is)
    (case l6 => k_is)
    (case c6 => k_is)
    (case k6 => k_is)
    (case a7 => k_is)
    (case l7 => k_is)
    (case c7 => k_is)
    (case k7 => k_is)
    (case a8 => k_is)
    (case l8 => k_is)
    (case c8 => k_is)
    (case k8 => k_is)
    (case a9 => k_is)
    (case l9 => k_is)
    (case c9 => k_is)
    (case k9 => k_is)
    (case a10 => k_is)
    (case l10 => k_is)
    (case c10 => k_is)
    (case k10 => k_is)
    (case a11 => k_is)
    (case l11 => k_is)
    (case c11 => k_is)
    (case k11 => k_is)
    (case a12 => k_is)
    (case l12 => k_is)
    (case c12 => k_is)
    (case k12 => k_is)
    (case a13 => k_is)
    (case l13 => k_is)
    (case c13 => k_is)
    (case k13 => k_is)
    (case z0 => k_is)
    (case z1 => k_is)
    (case z2 => k_is)
    (case z3 => k_is)
    (case z4 => k_is)
    (case z5 => k_is)
    (case z6 => k_is)
    (case z7 => k_is)
    (case z8 => k_is)
