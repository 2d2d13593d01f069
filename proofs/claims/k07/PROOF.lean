import PyProof.Rows.All
import Wide.All
import OpenK.AllK
import Wide.FinOn
import HandS.ForMost
import HandS.IsInst
import HandS.Wide
import HandS.Codes
import HandS.Style
import HandS.TupLe
import HandS.TupAny
import HandS.EndBits
import HandS.Walk
import HandS.Zip
import KE.LtData
import HandS.SetKeys
import HandS.WordsDict
import HandS.DictComp
import HandS.More
import PySem.Challenge.RW_hornbook_k07_substitutions
set_option Elab.async false
set_option linter.all false
set_option maxRecDepth 100000
set_option maxHeartbeats 4000000
set_option exponentiation.threshold 10000
namespace My
open PySem PySem.Spec PyProof.Rows L2
/-- a def of the text that keeps a promise, as its callers want it -/
def Has (P : Program) (w : World) (K : PySem.W.Frag) (mg : Str → Option Value) (base : Heap) (k : Nat) (x : Str) (ps : List Str) (sp : Sp) : Prop :=
  ∃ (f : Addr) (fd : FuncData), FnOk P w K mg base CX0 k f fd ps sp ∧ mg x = some (.ref f) ∧ PySem.W.keepIn K (.ref f) = true ∧ Binds K fd ps []
theorem same_upd {H : Hp} {p : Addr} {o : HO} (h : H p = none) : Same H (upd H p o) := fun b x e => by
  rw [upd_ne (ne_of_none e h)]
  exact e
/-- all but the object at s is as it was -/
def But (s : Addr) (H H' : Hp) : Prop := ∀ b o, b ≠ s → H b = some o → H' b = some o
theorem But.refl (s : Addr) (H : Hp) : But s H H := fun _ _ _ e => e
theorem But.trans {s : Addr} {H H1 H2 : Hp} (a : But s H H1) (b : But s H1 H2) : But s H H2 := fun c o hc e => b c o hc (a c o hc e)
theorem But.of {s : Addr} {H H' : Hp} (a : Same H H') : But s H H' := fun b o _ e => a b o e
theorem But.put {s : Addr} {H : Hp} {o : HO} : But s H (upd H s o) := fun b u hb e => by rw [upd_ne hb]; exact e
/-! ### what a value is -/
mutual
inductive Im (K : PySem.W.Frag) (G : Addr → Prop) (H : Hp) : V → PyData → Prop
  | non : Im K G H .non .none
  | bl (b : Bool) : Im K G H (.bl b) (.bool b)
  | int (i : Int) : Im K G H (.int i) (.int i)
  | str (x : Str) : Im K G H (.str x) (.str x)
  | lst {a : Addr} {xs : List V} {ds : List PyData} : G a → H a = some (.lst xs) → ImAll K G H xs ds → Im K G H (.ref a) (.list ds)
  | tup {a : Addr} {xs : List V} {ds : List PyData} : G a → H a = some (.tup xs) → ImAll K G H xs ds → Im K G H (.ref a) (.tuple ds)
inductive ImAll (K : PySem.W.Frag) (G : Addr → Prop) (H : Hp) : List V → List PyData → Prop
  | nil : ImAll K G H [] []
  | cons {v : V} {vs : List V} {d : PyData} {ds : List PyData} : Im K G H v d → ImAll K G H vs ds → ImAll K G H (v :: vs) (d :: ds)
end
section
variable {K : PySem.W.Frag} {G G' : Addr → Prop} {H H' : Hp}
mutual
theorem Im.mono (hH : ∀ b o, G b → H b = some o → H' b = some o) (hG : ∀ b, G b → G' b) : ∀ (d : PyData) (v : V), Im K G H v d → Im K G' H' v d
  | .none, _, h => by cases h; exact .non
  | .bool b, _, h => by cases h; exact .bl b
  | .int i, _, h => by cases h; exact .int i
  | .str x, _, h => by cases h; exact .str x
  | .list ds, _, h => by
    cases h with
    | lst g e ha => exact .lst (hG _ g) (hH _ _ g e) (Im.monoAll hH hG ds _ ha)
  | .tuple ds, _, h => by
    cases h with
    | tup g e ha => exact .tup (hG _ g) (hH _ _ g e) (Im.monoAll hH hG ds _ ha)
  | .dict _, _, h => by cases h
theorem Im.monoAll (hH : ∀ b o, G b → H b = some o → H' b = some o) (hG : ∀ b, G b → G' b) : ∀ (ds : List PyData) (vs : List V), ImAll K G H vs ds → ImAll K G' H' vs ds
  | [], _, h => by cases h; exact .nil
  | d :: ds, _, h => by
    cases h with
    | cons h1 h2 => exact .cons (Im.mono hH hG d _ h1) (Im.monoAll hH hG ds _ h2)
end
mutual
theorem Im.dp : ∀ (d : PyData) (v : V), Im K G H v d → Dp K H v d
  | .none, _, h => by cases h; exact .non
  | .bool b, _, h => by cases h; exact .bl b
  | .int i, _, h => by cases h; exact .int i
  | .str x, _, h => by cases h; exact .str x
  | .list ds, _, h => by
    cases h with
    | lst g e ha => exact .lst (SqL.of e) (Im.dpAll ds _ ha)
  | .tuple ds, _, h => by
    cases h with
    | tup g e ha => exact .tup (SqT.of e) (Im.dpAll ds _ ha)
  | .dict _, _, h => by cases h
theorem Im.dpAll : ∀ (ds : List PyData) (vs : List V), ImAll K G H vs ds → DpAll K H vs ds
  | [], _, h => by cases h; exact .nil
  | d :: ds, _, h => by
    cases h with
    | cons h1 h2 => exact .cons (Im.dp d _ h1) (Im.dpAll ds _ h2)
end
theorem ImAll.len : ∀ {vs : List V} {ds : List PyData}, ImAll K G H vs ds → vs.length = ds.length
  | _, _, .nil => rfl
  | _, _, .cons _ t => congrArg (· + 1) (ImAll.len t)
theorem ImAll.get : ∀ {vs : List V} {ds : List PyData} {i : Nat} {d : PyData}, ImAll K G H vs ds → ds[i]? = some d → ∃ v, vs[i]? = some v ∧ Im K G H v d
  | _, _, _, _, .nil, e => by simp at e
  | _, _, 0, _, .cons r _, e => by simp at e; subst e; exact ⟨_, rfl, r⟩
  | _, _, i + 1, _, .cons _ t, e => by
    obtain ⟨u, h1, h2⟩ := ImAll.get (i := i) t (by simpa using e)
    exact ⟨u, by simpa using h1, h2⟩
theorem ImAll.getV : ∀ {vs : List V} {ds : List PyData} {i : Nat} {v : V}, ImAll K G H vs ds → vs[i]? = some v → ∃ d, ds[i]? = some d ∧ Im K G H v d
  | _, _, _, _, .nil, e => by simp at e
  | _, _, 0, _, .cons r _, e => by simp at e; subst e; exact ⟨_, rfl, r⟩
  | _, _, i + 1, _, .cons _ t, e => by
    obtain ⟨u, h1, h2⟩ := ImAll.getV (i := i) t (by simpa using e)
    exact ⟨u, by simpa using h1, h2⟩
theorem ImAll.snoc : ∀ {vs : List V} {ds : List PyData} {v : V} {d : PyData}, ImAll K G H vs ds → Im K G H v d → ImAll K G H (vs ++ [v]) (ds ++ [d])
  | _, _, _, _, .nil, r => .cons r .nil
  | _, _, _, _, .cons q t, r => .cons q (ImAll.snoc t r)
theorem ImAll.app : ∀ {vs : List V} {ds : List PyData} {us : List V} {es : List PyData}, ImAll K G H vs ds → ImAll K G H us es → ImAll K G H (vs ++ us) (ds ++ es)
  | _, _, _, _, .nil, r => r
  | _, _, _, _, .cons q t, r => .cons q (ImAll.app t r)
end
section
variable {K : PySem.W.Frag} {H : Hp}
theorem DpAll.len : ∀ {vs : List V} {ds : List PyData}, DpAll K H vs ds → vs.length = ds.length
  | _, _, .nil => rfl
  | _, _, .cons _ t => congrArg (· + 1) (DpAll.len t)
theorem DpAll.get : ∀ {vs : List V} {ds : List PyData} {i : Nat} {d : PyData}, DpAll K H vs ds → ds[i]? = some d → ∃ v, vs[i]? = some v ∧ Dp K H v d
  | _, _, _, _, .nil, e => by simp at e
  | _, _, 0, _, .cons r _, e => by simp at e; subst e; exact ⟨_, rfl, r⟩
  | _, _, i + 1, _, .cons _ t, e => by
    obtain ⟨u, h1, h2⟩ := DpAll.get (i := i) t (by simpa using e)
    exact ⟨u, by simpa using h1, h2⟩
/-- the name of a value's class -/
def tyN : PyData → String
  | .none => "NoneType" | .bool _ => "bool" | .int _ => "int" | .str _ => "str" | .list _ => "list" | .tuple _ => "tuple" | .dict _ => "dict"
theorem tyx_of : ∀ {x : V} {d : PyData}, Dp K H x d → TyX K H x (.type (tyN d))
  | _, _, .non => .base .non
  | _, _, .bl b => .base (.bl b)
  | _, _, .int i => .base (.int i)
  | _, _, .str x => .base (.str x)
  | _, _, .lst h _ => by
    rcases h with (h | ⟨o, h⟩) | ⟨o, its, n, hk, hc, _⟩
    · exact .base (.lst h)
    · exact .base (.frz h)
    · exact .kList hk hc
  | _, _, .tup h _ => by
    rcases h with (h | ⟨o, h⟩) | ⟨o, its, n, hk, hc, _⟩
    · exact .base (.tup h)
    · exact .fTuple h
    · exact .kTuple hk hc
def isI : PyData → Bool
  | .int _ => true | .bool _ => true | _ => false
def isB : PyData → Bool
  | .bool _ => true | _ => false
def isS : PyData → Bool
  | .str _ => true | _ => false
def isT : PyData → Bool
  | .tuple _ => true | _ => false
def isL : PyData → Bool
  | .list _ => true | _ => false
theorem kitI (d : PyData) : kitB (tyN d) "int" = some (isI d) := by cases d <;> (show kitB _ "int" = _; simp only [tyN, isI]; decide +kernel)
theorem kitBo (d : PyData) : kitB (tyN d) "bool" = some (isB d) := by cases d <;> (show kitB _ "bool" = _; simp only [tyN, isB]; decide +kernel)
theorem kitS (d : PyData) : kitB (tyN d) "str" = some (isS d) := by cases d <;> (show kitB _ "str" = _; simp only [tyN, isS]; decide +kernel)
theorem kitT (d : PyData) : kitB (tyN d) "tuple" = some (isT d) := by cases d <;> (show kitB _ "tuple" = _; simp only [tyN, isT]; decide +kernel)
theorem kitL (d : PyData) : kitB (tyN d) "list" = some (isL d) := by cases d <;> (show kitB _ "list" = _; simp only [tyN, isL]; decide +kernel)
theorem isi_int {x : V} {d : PyData} {Q : VK} (h : Dp K H x d) (q : Q (.bl (isI d)) H) : rIsi K [x, .ty "int"] H Q := ⟨x, .ty "int", _, _, _, rfl, .ty _, tyx_of h, kit_ty (kitI d), q⟩
theorem isi_bool {x : V} {d : PyData} {Q : VK} (h : Dp K H x d) (q : Q (.bl (isB d)) H) : rIsi K [x, .ty "bool"] H Q := ⟨x, .ty "bool", _, _, _, rfl, .ty _, tyx_of h, kit_ty (kitBo d), q⟩
theorem isi_str {x : V} {d : PyData} {Q : VK} (h : Dp K H x d) (q : Q (.bl (isS d)) H) : rIsi K [x, .ty "str"] H Q := ⟨x, .ty "str", _, _, _, rfl, .ty _, tyx_of h, kit_ty (kitS d), q⟩
theorem isi_tup {x : V} {d : PyData} {Q : VK} (h : Dp K H x d) (q : Q (.bl (isT d)) H) : rIsi K [x, .ty "tuple"] H Q := ⟨x, .ty "tuple", _, _, _, rfl, .ty _, tyx_of h, kit_ty (kitT d), q⟩
theorem isi_list {x : V} {d : PyData} {Q : VK} (h : Dp K H x d) (q : Q (.bl (isL d)) H) : rIsi K [x, .ty "list"] H Q := ⟨x, .ty "list", _, _, _, rfl, .ty _, tyx_of h, kit_ty (kitL d), q⟩
end
/-! ### the stream of draws -/
structure Stm (H : Hp) (s l : Addr) : Prop where
  ex : ∃ (a b m : Int) (ns : List Int), H s = some (.lst [.ref l, .int a, .int b, .int m]) ∧ H l = some (.lst (ns.map V.int)) ∧ ns.length ≤ 63 ∧ 0 ≤ a ∧ 0 ≤ b ∧ 0 ≤ m ∧ m < 2147483647
theorem Stm.keep {H H' : Hp} {s l : Addr} (h : Stm H s l) (e : Same H H') : Stm H' s l := by
  obtain ⟨a, b, m, ns, h1, h2, r⟩ := h.ex
  exact ⟨a, b, m, ns, e _ _ h1, e _ _ h2, r⟩
/-- another object is changed -/
theorem Stm.put {H : Hp} {s l r : Addr} {o : HO} (h : Stm H s l) (h1 : s ≠ r) (h2 : l ≠ r) : Stm (upd H r o) s l := by
  obtain ⟨a, b, m, ns, e1, e2, q⟩ := h.ex
  exact ⟨a, b, m, ns, by rw [upd_ne h1]; exact e1, by rw [upd_ne h2]; exact e2, q⟩
theorem Stm.at_s {H : Hp} {s l : Addr} (h : Stm H s l) : ∃ o, H s = some o := by
  obtain ⟨a, b, m, ns, e1, e2, q⟩ := h.ex
  exact ⟨_, e1⟩
theorem Stm.at_l {H : Hp} {s l : Addr} (h : Stm H s l) : ∃ o, H l = some o := by
  obtain ⟨a, b, m, ns, e1, e2, q⟩ := h.ex
  exact ⟨_, e2⟩
/-- a constant of the module -/
def GV (mg : Str → Option Value) (x : Str) (v : V) : Prop := ∃ u, mg x = some u ∧ RelV v u
theorem pe_gC {X : Cx} {x : Str} {v : V} {pos : Pos} (hg : Gl X x) (h : GV X.mg x v) (hd : (x == ("__debug__" : Str)) = false := by decide) : PE X (.Name x pos) (tC v) := by
  obtain ⟨u, e, r⟩ := h
  exact pe_glob hg e r hd

/-! ### 'a' * 40 -/
section
variable {X : Cx}
theorem op_mulS : OpR X (binaryOp .Mult) (fun x y H Q => ∃ z i, x = .str z ∧ y = .int i ∧ MulOk z i ∧ Q (.str (Txt.mul z i)) H) := by
  intro pins s σ H x y v u Q I rx ry h
  obtain ⟨z, i, rfl, rfl, hk, q⟩ := h
  obtain ⟨t, rfl⟩ := rx
  obtain ⟨t', rfl⟩ := ry
  exact SB.mul hk fun t2 k => ⟨.str _, H, I.tok k, ⟨_, rfl⟩, q⟩
end
/-! ### data written out: each part of it is new -/
section
variable {K : PySem.W.Frag}
/-- an expression that makes data and changes nothing else -/
def Lit (K : PySem.W.Frag) (σ : L2.St) (t : TE) (d : PyData) : Prop := ∀ (H : Hp) (Q : VK), (∀ v H', Same H H' → Im K (fun b => H b = Option.none) H' v d → Q v H') → t σ H Q
def LitA (K : PySem.W.Frag) (σ : L2.St) (t : TA) (ds : List PyData) : Prop := ∀ (H : Hp) (Q : List V → Hp → Prop), (∀ vs H', Same H H' → ImAll K (fun b => H b = Option.none) H' vs ds → Q vs H') → t σ H Q
variable {σ : L2.St}
theorem lit_int {i : Int} : Lit K σ (tC (.int i)) (.int i) := fun H Q h => h _ H (Same.refl H) (.int i)
theorem lit_str {x : Str} : Lit K σ (tC (.str x)) (.str x) := fun H Q h => h _ H (Same.refl H) (.str x)
theorem lit_bl {b : Bool} : Lit K σ (tC (.bl b)) (.bool b) := fun H Q h => h _ H (Same.refl H) (.bl b)
theorem lit_non : Lit K σ (tC .non) .none := fun H Q h => h _ H (Same.refl H) .non
theorem litA_nil : LitA K σ tNil [] := fun H Q h => h _ H (Same.refl H) .nil
theorem litA_cons {t : TE} {ta : TA} {d : PyData} {ds : List PyData} (h1 : Lit K σ t d) (h2 : LitA K σ ta ds) : LitA K σ (tCons t ta) (d :: ds) := fun H Q h =>
  h1 H _ fun v H1 s1 i1 => h2 H1 _ fun vs H2 s2 i2 => h _ H2 (s1.trans s2) (.cons (Im.mono (fun b o _ e => s2 b o e) (fun _ e => e) _ _ i1) (Im.monoAll (fun _ _ _ e => e) (fun b e => s1.free e) _ _ i2))
theorem lit_tup {ta : TA} {ds : List PyData} (h1 : LitA K σ ta ds) (hz : ds.length ≤ sizeLine) : Lit K σ (tTup ta) (.tuple ds) := fun H Q h =>
  h1 H _ fun vs H1 s1 i1 => ⟨by rw [i1.len]; exact hz, fun p np => h _ _ (s1.trans (same_upd np)) (.tup (s1.free np) upd_same (Im.monoAll (fun b o _ e => same_upd np b o e) (fun _ e => e) _ _ i1))⟩
theorem lit_lst {ta : TA} {ds : List PyData} (h1 : LitA K σ ta ds) (hz : ds.length ≤ sizeLine) : Lit K σ (tLst ta) (.list ds) := fun H Q h =>
  h1 H _ fun vs H1 s1 i1 => ⟨by rw [i1.len]; exact hz, fun p np => h _ _ (s1.trans (same_upd np)) (.lst (s1.free np) upd_same (Im.monoAll (fun b o _ e => same_upd np b o e) (fun _ e => e) _ _ i1))⟩
/-- what is an int -/
theorem lit_neg {t : TE} {i : Int} (h1 : Lit K σ t (.int i)) : Lit K σ (tUn (rU fun i => .int (-i)) t) (.int (-i)) := fun H Q h =>
  h1 H _ fun v H1 s1 i1 => by
    cases i1
    exact ⟨_, rfl, h _ H1 s1 (.int _)⟩
theorem lit_sub {t u : TE} {i j : Int} (h1 : Lit K σ t (.int i)) (h2 : Lit K σ u (.int j)) : Lit K σ (tOp (rI0 fun i j => .int (i - j)) t u) (.int (i - j)) := fun H Q h =>
  h1 H _ fun v H1 s1 i1 => h2 H1 _ fun v2 H2 s2 i2 => by
    cases i1
    cases i2
    exact ⟨_, _, rfl, rfl, h _ H2 (s1.trans s2) (.int _)⟩
theorem lit_pow {t u : TE} {i j : Int} (h1 : Lit K σ t (.int i)) (h2 : Lit K σ u (.int j)) (hc : CPow i j) : Lit K σ (tOp (rI CPow fun i j => .int (i ^ j.toNat)) t u) (.int (i ^ j.toNat)) := fun H Q h =>
  h1 H _ fun v H1 s1 i1 => h2 H1 _ fun v2 H2 s2 i2 => by
    cases i1
    cases i2
    exact ⟨_, _, rfl, rfl, hc, h _ H2 (s1.trans s2) (.int _)⟩
theorem lit_mulS {t u : TE} {z : Str} {j : Int} (h1 : Lit K σ t (.str z)) (h2 : Lit K σ u (.int j)) (hc : MulOk z j) : Lit K σ (tOp (fun x y H Q => ∃ z i, x = .str z ∧ y = .int i ∧ MulOk z i ∧ Q (.str (Txt.mul z i)) H) t u) (.str (Txt.mul z j)) := fun H Q h =>
  h1 H _ fun v H1 s1 i1 => h2 H1 _ fun v2 H2 s2 i2 => by
    cases i1
    cases i2
    exact ⟨_, _, rfl, rfl, hc, h _ H2 (s1.trans s2) (.str _)⟩
end
section
variable {X : Cx} {pos : Pos}
/-- a built-in class as a value -/
theorem pe_ty {x : Str} (n : String) (hg : Gl X x) (hm : X.mg x = Option.none) (hv : bootBuiltins x = some (.type n)) (hn : x ≠ "__name__" := by decide) (hd : (x == ("__debug__" : Str)) = false := by decide) : PE X (.Name x pos) (tC (.ty n)) :=
  pe_bltn hg hm hv rfl hn hd
end
section
variable {K : PySem.W.Frag} {H H' : Hp}
theorem same_sqT {a : Addr} {xs : List V} (e : Same H H') (h : SqT K H a xs) : SqT K H' a xs := by
  rcases h with (h | ⟨o, h⟩) | h
  · exact .inl (.inl (e _ _ h))
  · exact .inl (.inr ⟨o, e _ _ h⟩)
  · exact .inr h
mutual
theorem dp_same (e : Same H H') : ∀ (d : PyData) (v : V), Dp K H v d → Dp K H' v d
  | .none, _, h => by cases h; exact .non
  | .bool b, _, h => by cases h; exact .bl b
  | .int i, _, h => by cases h; exact .int i
  | .str x, _, h => by cases h; exact .str x
  | .list ds, _, h => by
    cases h with
    | lst g ha => exact .lst (e.seq g) (dp_sameAll e ds _ ha)
  | .tuple ds, _, h => by
    cases h with
    | tup g ha => exact .tup (same_sqT e g) (dp_sameAll e ds _ ha)
  | .dict _, _, h => by cases h
theorem dp_sameAll (e : Same H H') : ∀ (ds : List PyData) (vs : List V), DpAll K H vs ds → DpAll K H' vs ds
  | [], _, h => by cases h; exact .nil
  | d :: ds, _, h => by
    cases h with
    | cons h1 h2 => exact .cons (dp_same e d _ h1) (dp_sameAll e ds _ h2)
end
end
theorem small_of {n : Nat} (h : n ≤ 1000) : n ≤ sizeLine := Nat.le_of_lt (small1000 h)
theorem seq_asg {te : TE} {g : TG} {u : TS} {D : Ends} {σ : L2.St} {H : Hp} (h : te σ H fun x H1 => g x σ H1 (u D)) : tSeq (tAsg te g) u D σ H := h
theorem gname {i : Nat} {v : V} {σ : L2.St} {H : Hp} {Q : L2.St → Hp → Prop} (h : Q (σ.set i (some v)) H) : gName i v σ H Q := h
theorem nxp {N : L2.St → Hp → Prop} {R : VK} {B C : L2.St → Hp → Prop} {σ : L2.St} {H : Hp} (h : N σ H) : ({ nx := N, rt := R, bk := B, ct := C } : Ends).nx σ H := h
theorem seq_if {c : TT} {t t2 : TS} {u : TS} {D : Ends} {σ : L2.St} {H : Hp} (h : c σ H fun b H1 => if b = true then t { D with nx := u D } σ H1 else t2 { D with nx := u D } σ H1) : tSeq (tIfS c t t2) u D σ H := h
theorem seq_ifN {c : TT} {t : TS} {u : TS} {D : Ends} {σ : L2.St} {H : Hp} (h : c σ H fun b H1 => if b = true then t { D with nx := u D } σ H1 else u D σ H1) : tSeq (tIfS c t tNext) u D σ H := h
theorem seq_any {t : TS} {u : TS} {D : Ends} {σ : L2.St} {H : Hp} (h : t { D with nx := u D } σ H) : tSeq t u D σ H := h
theorem asg1 {te : TE} {g : TG} {D : Ends} {σ : L2.St} {H : Hp} (h : te σ H fun x H1 => g x σ H1 D.nx) : tAsg te g D σ H := h
section
variable {K : PySem.W.Frag} {G G' : Addr → Prop} {H H' : Hp}
mutual
theorem Im.mono2 (hH : ∀ b o, G b → H b = some o → H' b = some o) (hG : ∀ b o, H b = some o → G b → G' b) : ∀ (d : PyData) (v : V), Im K G H v d → Im K G' H' v d
  | .none, _, h => by cases h; exact .non
  | .bool b, _, h => by cases h; exact .bl b
  | .int i, _, h => by cases h; exact .int i
  | .str x, _, h => by cases h; exact .str x
  | .list ds, _, h => by
    cases h with
    | lst g e ha => exact .lst (hG _ _ e g) (hH _ _ g e) (Im.mono2All hH hG ds _ ha)
  | .tuple ds, _, h => by
    cases h with
    | tup g e ha => exact .tup (hG _ _ e g) (hH _ _ g e) (Im.mono2All hH hG ds _ ha)
  | .dict _, _, h => by cases h
theorem Im.mono2All (hH : ∀ b o, G b → H b = some o → H' b = some o) (hG : ∀ b o, H b = some o → G b → G' b) : ∀ (ds : List PyData) (vs : List V), ImAll K G H vs ds → ImAll K G' H' vs ds
  | [], _, h => by cases h; exact .nil
  | d :: ds, _, h => by
    cases h with
    | cons h1 h2 => exact .cons (Im.mono2 hH hG d _ h1) (Im.mono2All hH hG ds _ h2)
end
end
theorem join_set {c : Prop} [Decidable c] {v : V} {i : Nat} {u : TS} {D : Ends} {σ : L2.St} {H : Hp} (P : L2.St → Prop) (h : ∀ σ2, P σ2 → u D σ2 H) (h1 : c → P (σ.set i (some v))) (h2 : ¬ c → P σ) :
    if c then tAsg (tC v) (gName i) { D with nx := u D } σ H else u D σ H := by
  by_cases hc : c
  · rw [if_pos hc]
    exact h _ (h1 hc)
  · rw [if_neg hc]
    exact h _ (h2 hc)
/-- a constant tuple of the module, by its data -/
def GC (K : PySem.W.Frag) (mg : Str → Option Value) (x : Str) (d : PyData) : Prop := ∃ (u : Value) (v : V), mg x = some u ∧ RelV v u ∧ Dp K (fun _ => Option.none) v d
theorem none_same (H : Hp) : Same (fun _ => Option.none) H := fun _ _ e => nomatch e
theorem kt_of {K : PySem.W.Frag} {a : Addr} {its : Array Value} {n : Nat} {dd : Option Addr} {sl : Array (Option Value)} {xs : List V} {ds : List PyData} (h : K.lookup a = some ⟨.type "tuple", dd, .seq its n, sl⟩) (hz : its.size ≤ 1000) (hv : Vals xs its.toList) (ha : DpAll K (fun _ => Option.none) xs ds) :
    Dp K (fun _ => Option.none) (.ref a) (.tuple ds) := .tup (.inr ⟨_, its, n, h, rfl, rfl, Nat.le_trans hz (by decide), hv⟩) ha
/-! ### list.extend(tuple) -/
section
open Builtin
theorem extT (l b : Addr) (xs ys : Array Value) (n k : Nat) (dd : Option Addr) (sl : Array (Option Value)) (hlong : ¬(!xs.isEmpty && Builtin.List.listTooLong (xs.size + ys.size)) = true) (h1 : xs.size ≤ sizeLine) (h2 : xs.size + ys.size ≤ sizeLine + 1) :
    Meets (Builtin.«list.extend» ⟨[.ref l, .ref b], []⟩) (fun _ R s => s.heap.get? l = some { cls := .type "list", dict := none, data := .seq xs n, slots := #[] } ∧ s.heap.get? b = some { cls := .type "tuple", dict := dd, data := .seq ys k, slots := sl } ∧ R (.ok (.ret Value.none)) { s with heap := s.heap.update l (Obj.mapSeq fun x => x ++ ys), toks := s.toks }) := by
  refine .of_wp fun prog w A R s h => ?_
  obtain ⟨hp, g, d, tk, os⟩ := s
  obtain ⟨ea, eb, q⟩ := h
  have i1 := AutoSeq1.idx_int
  have i2 := AutoSeq1.sub_tuple_tuple
  have i3 := AutoSeq1.sub_list_list
  have i4 := AutoSeq1.sub_tuple_list
  have i5 := AutoSeq1.sub_list_tuple
  have hz : (xs ++ ys).size ≤ sizeLine + 1 := by rw [Array.size_append]; exact h2
  wp_walk using (wpAny_updateSeq ea rfl (hz := h1) (_hz' := hz)), AutoSeq1.wpAny_loadPart' ea, AutoSeq1.wpAny_loadPart' eb
  exact ⟨_, rfl, q⟩
end
section
variable {X : Cx}
def rExtT (K : PySem.W.Frag) : V → List V → Hp → VK → Prop := fun x vs H Q => ∃ l b xs zs, x = .ref l ∧ vs = [.ref b] ∧ H l = some (.lst xs) ∧ SqT K H b zs ∧ xs.length + zs.length ≤ sizeLine ∧ Q .non (upd H l (.lst (xs ++ zs)))
theorem mt_extT : MtR X "list.extend" (rExtT X.K) := by
  intro pins s σ H x vs v us Q I rx rv h
  obtain ⟨l, b, xs, zs, rfl, rfl, hH, hB, hz, q⟩ := h
  cases rx
  obtain ⟨u, rfl, ru⟩ := rv.one
  cases ru
  obtain ⟨z, its, n, r, hl, e⟩ := I.lstM hH
  obtain ⟨its2, r2, ⟨⟨oc, od, dt, sl⟩, e2, ec, k2, ed⟩, _⟩ := I.tuple hB
  simp only at ec ed
  subst ec ed
  have z1 := r.length
  have z2 := r2.length
  have hsz : its.toArray.size + its2.toArray.size ≤ sizeLine := by rw [List.size_toArray, List.size_toArray]; omega
  have nl : ¬ (!its.toArray.isEmpty && Builtin.List.listTooLong (its.toArray.size + its2.toArray.size)) = true := by
    rw [notLongL hsz, Bool.and_false]
    exact Bool.false_ne_true
  refine call_meets F.slot_list_extend ⟨_, e, rfl⟩ F.entry_list_extend (F.args_list_extend_2 _ _) (extT l b its.toArray its2.toArray n k2 od sl nl (by rw [List.size_toArray]; omega) (by omega)) ⟨e, e2, ?_⟩
  refine ⟨.non, _, I.lset (its' := its ++ its2) hH e (by simp) (r.append r2) ?_, rfl, q⟩
  rw [List.length_append]
  omega
/-! ### x in (a, b, ..), data of any depth -/
def rInT (K : PySem.W.Frag) : R2 := fun x y H Q => ∃ d ds, Dp K H x d ∧ Dp K H y (.tuple ds) ∧ SeqAt.shaped d = true ∧ SeqAt.shaped (.tuple ds) = true ∧ Q (.bl (ds.any fun z => PyData.eqv z d)) H
def rNotInT (K : PySem.W.Frag) : R2 := fun x y H Q => ∃ d ds, Dp K H x d ∧ Dp K H y (.tuple ds) ∧ SeqAt.shaped d = true ∧ SeqAt.shaped (.tuple ds) = true ∧ Q (.bl (!ds.any fun z => PyData.eqv z d)) H
theorem op_inT (hu : X.A.units + 65 < cLine) : OpR X (compareOp .In) (rInT X.K) := by
  intro pins s σ H x y v u Q I rx ry h
  obtain ⟨d, ds, hd, he, sd, se, q⟩ := h
  obtain ⟨as, r1⟩ := Dp.reads I d x v hd rx
  obtain ⟨bs, r2⟩ := Dp.reads I (.tuple ds) y u he ry
  exact SeqAt.in_tuple_reads r2 r1 (SeqAt.canLay_of_shaped se) (SeqAt.canLay_of_shaped sd) (room_in_shaped sd hu) ⟨.bl _, H, I, rfl, q⟩
theorem op_notInT (hu : X.A.units + 65 < cLine) : OpR X (compareOp .NotIn) (rNotInT X.K) := by
  intro pins s σ H x y v u Q I rx ry h
  obtain ⟨d, ds, hd, he, sd, se, q⟩ := h
  obtain ⟨as, r1⟩ := Dp.reads I d x v hd rx
  obtain ⟨bs, r2⟩ := Dp.reads I (.tuple ds) y u he ry
  exact SeqAt.notIn_tuple_reads r2 r1 (SeqAt.canLay_of_shaped se) (SeqAt.canLay_of_shaped sd) (room_in_shaped sd hu) ⟨.bl _, H, I, rfl, q⟩
theorem units65 {k : Nat} {A : Around} (r : Room k A) : A.units + 65 < cLine := by
  have := r.un
  omega
end
section
variable {K : PySem.W.Frag} {H : Hp}
theorem DpAll.dropt : ∀ {xs : List V} {ds : List PyData} (n : Nat), DpAll K H xs ds → DpAll K H (xs.drop n) (ds.drop n)
  | _, _, 0, r => r
  | _, _, _ + 1, .nil => .nil
  | _, _, n + 1, .cons _ t => DpAll.dropt n t
theorem DpAll.taket : ∀ {xs : List V} {ds : List PyData} (n : Nat), DpAll K H xs ds → DpAll K H (xs.take n) (ds.take n)
  | _, _, 0, _ => .nil
  | _, _, _ + 1, .nil => .nil
  | _, _, n + 1, .cons r t => .cons r (DpAll.taket n t)
theorem DpAll.app : ∀ {xs ys : List V} {ds es : List PyData}, DpAll K H xs ds → DpAll K H ys es → DpAll K H (xs ++ ys) (ds ++ es)
  | _, _, _, _, .nil, r => r
  | _, _, _, _, .cons q t, r => .cons q (DpAll.app t r)
theorem DpAll.getV : ∀ {vs : List V} {ds : List PyData} {i : Nat} {v : V}, DpAll K H vs ds → vs[i]? = some v → ∃ d, ds[i]? = some d ∧ Dp K H v d
  | _, _, _, _, .nil, e => by simp at e
  | _, _, 0, _, .cons r _, e => by simp at e; subst e; exact ⟨_, rfl, r⟩
  | _, _, i + 1, _, .cons _ t, e => by
    obtain ⟨u, h1, h2⟩ := DpAll.getV (i := i) t (by simpa using e)
    exact ⟨u, by simpa using h1, h2⟩
end
/-- a part of a tuple, also the whole -/
theorem cut_nat (xs : List V) (i j : Nat) (h1 : i ≤ xs.length) (h2 : j ≤ xs.length) : cutV xs (some (i : Int)) (some (j : Int)) = (xs.drop i).take (j - i) := by
  unfold cutV
  rw [HT.sIx_nat, HT.sIx_nat, Nat.min_eq_left h1, Nat.min_eq_left h2]
theorem slA_nat {K : PySem.W.Frag} {H : Hp} {a : Addr} {xs : List V} {i j : Nat} {Q : VK} (hs : SqT K H a xs) (h1 : i ≤ xs.length) (h2 : j ≤ xs.length) (h : ∀ b H', Same H H' → SqT K H' b ((xs.drop i).take (j - i)) → (∀ c, H c = Option.none → c ≠ b → H' c = Option.none) → Q (.ref b) H') :
    rSlA K (.ref a) (some (i : Int)) (some (j : Int)) H Q := by
  refine ⟨a, xs, rfl, hs, fun z => ?_, fun z p np => ?_⟩
  · rw [HT.sIx_nat, HT.sIx_nat, Nat.min_eq_left h1, Nat.min_eq_left h2] at z
    refine h a H (Same.refl H) ?_ fun _ e _ => e
    rw [z.1, z.2, List.drop_zero, Nat.sub_zero, List.take_length]
    exact hs
  · rw [cut_nat xs i j h1 h2]
    exact h p _ (same_upd np) (SqT.of upd_same) fun c e hc => by rw [upd_ne hc]; exact e
theorem cat_dp {K : PySem.W.Frag} {H : Hp} {x y : V} {ds es : List PyData} {Q : VK} (hx : Dp K H x (.tuple ds)) (hy : Dp K H y (.tuple es)) (hne : ds ≠ []) (hz : ds.length + es.length ≤ 1000) (h : ∀ v H', Same H H' → Dp K H' v (.tuple (ds ++ es)) → Q v H') : rCatT K x y H Q := by
  cases hx with
  | @tup a xs _ sx ax =>
  cases hy with
  | @tup b ys _ sy ay =>
  have lx := DpAll.len ax
  have ly := DpAll.len ay
  refine ⟨a, b, xs, ys, rfl, rfl, sx, sy, fun z => ?_, small_of (by omega), fun z => ?_, fun z p np => ?_⟩
  · rw [z] at lx
    exact hne (List.eq_nil_of_length_eq_zero lx.symm)
  · subst z
    cases ay
    rw [List.append_nil] at h
    exact h _ H (Same.refl H) (.tup sx ax)
  · exact h _ _ (same_upd np) (.tup (SqT.of upd_same) (dp_sameAll (same_upd np) _ _ (DpAll.app ax ay)))
theorem cut_from1 (v : V) (xs : List V) : cutV (v :: xs) (some 1) Option.none = xs := by
  unfold cutV
  rw [show (some (1 : Int)) = some ((1 : Nat) : Int) from rfl, HT.sIx_nat, HT.sIx_none, List.length_cons, Nat.min_eq_left (by omega), List.drop_succ_cons, List.drop_zero, Nat.add_sub_cancel]
  exact List.take_length
section
variable {σ : L2.St} {H : Hp}
theorem args1 {t : TE} {ta : TA} {Q : List V → Hp → Prop} (h : t σ H fun x H1 => ta σ H1 fun xs H2 => Q (x :: xs) H2) : tCons t ta σ H Q := h
theorem tup_of {ta : TA} {Q : VK} (h : ta σ H fun xs H1 => xs.length ≤ sizeLine ∧ ∀ p, H1 p = Option.none → Q (.ref p) (upd H1 p (.tup xs))) : tTup ta σ H Q := h
theorem const_of {v : V} {Q : VK} (h : Q v H) : tC v σ H Q := h
theorem op_of {r : R2} {ta tb : TE} {Q : VK} (h : ta σ H fun x H1 => tb σ H1 fun y H2 => r x y H2 Q) : tOp r ta tb σ H Q := h
theorem nil_of {Q : List V → Hp → Prop} (h : Q [] H) : tNil σ H Q := h
end
section
variable {σ : L2.St} {H : Hp}
theorem call_of {sp : Sp} {dvs : List V} {E : XK} {t : TA} {Q : VK} (h : t σ H fun vs H1 => sp (vs ++ dvs) H1 Q E) : tCall sp dvs E t σ H Q := h
theorem args_and {r : R2} {sp : Sp} {dvs : List V} {E : XK} {t : TA} {tb tc : TE} {D : Ends} (h : t σ H fun vs H1 => sp (vs ++ dvs) H1 (fun x H1 => tb σ H1 fun y H2 => r x y H2 fun x H1 => ∃ c, x = .bl c ∧ if c = true then tc σ H1 D.rt else D.rt (.bl false) H1) E) : tRet (tAndV (tOp r (tCall sp dvs E t) tb) tc) D σ H := h
end
theorem relStr (x : Str) (t : Tok) : RelV (.str x) (.str x t) := ⟨_, rfl⟩
theorem relInt (i : Int) (t : Tok) : RelV (.int i) (.int i t) := ⟨_, rfl⟩
theorem relRef (a : Addr) : RelV (.ref a) (.ref a) := rfl
/-! ### a < b of data whose places are alike -/
section
variable {X : Cx}
def rLtD (K : PySem.W.Frag) : R2 := fun x y H Q => ∃ d e, Dp K H x d ∧ Dp K H y e ∧ PySem.W.alike d e = true ∧ d ≠ .none ∧ d.depth ≤ 8 ∧ Q (.bl (PySem.W.dataLt d e)) H
theorem op_ltD (hu : X.A.units + 64 < cLine) : OpR X (compareOp .Lt) (rLtD X.K) := by
  intro pins s σ H x y v u Q I rx ry h
  obtain ⟨d, e, hd, he, ha, hn, hz, q⟩ := h
  obtain ⟨as, r1⟩ := Dp.reads I d x v hd rx
  obtain ⟨bs, r2⟩ := Dp.reads I e y u he ry
  have R := PySem.W.rcLt_alike d e X.A s v u as bs r1 r2 ha hn (Nat.lt_of_le_of_lt (Nat.add_le_add_left (Nat.le_trans (Nat.min_le_left _ _) (Nat.le_trans hz (by decide : 8 ≤ 64))) _) hu)
  have z : wpAny (model X.prog X.w) X.A (compareOp .Lt v u) (EP X pins σ Q) X.xe s := R X.prog X.w X.xe (EP X pins σ Q) ⟨.bl _, H, I, rfl, q⟩
  exact z
end
/-! ### zip of two tuples -/
theorem walk_zipT {K : PySem.W.Frag} {a b : Addr} {xs ys : List V} {n : Nat} (hn : n = min xs.length ys.length) : Walk (RZ.ItzT K a b) n (fun H => SqT K H a xs ∧ SqT K H b ys) (YPair (fun i => xs[i]?) (fun i => ys[i]?)) := by
  subst hn
  refine ⟨fun i H hi q => ?_, fun H q => ⟨xs, ys, q.1, q.2, by omega⟩, fun i H v H' hi q y => ?_⟩
  · have h1 : i < xs.length := by omega
    have h2 : i < ys.length := by omega
    exact ⟨xs, ys, _, _, q.1, q.2, List.getElem?_eq_getElem h1, List.getElem?_eq_getElem h2⟩
  · obtain ⟨T, x, y, e1, e2, e3, e4, e5⟩ := y
    exact ⟨T, x, y, e1, e2, e3, e4 xs q.1, e5 ys q.2⟩
/-! ### () + t -/
section
open Builtin
theorem addE (l b : Addr) (xs ys : Array Value) (n k : Nat) (dd dd2 : Option Addr) (sl sl2 : Array (Option Value)) (he : xs.isEmpty = true) :
    Meets (Builtin.«tuple.__add__» ⟨[.ref l, .ref b], []⟩) (fun _ R s => s.heap.get? l = some { cls := .type "tuple", dict := dd, data := .seq xs n, slots := sl } ∧ s.heap.get? b = some { cls := .type "tuple", dict := dd2, data := .seq ys k, slots := sl2 } ∧ R (.ok (.ret (Value.ref b))) s) := by
  refine .of_wp fun prog w A R s h => ?_
  obtain ⟨hp, g, d, tk, os⟩ := s
  obtain ⟨ea, eb, q⟩ := h
  have i1 := AutoSeq1.idx_int
  have i2 := AutoSeq1.sub_tuple_tuple
  have i3 := AutoSeq1.sub_list_list
  have i4 := AutoSeq1.sub_tuple_list
  have i5 := AutoSeq1.sub_list_tuple
  wp_walk using AutoSeq1.wpAny_loadPart' ea, AutoSeq1.wpAny_loadPart' eb
  exact ⟨_, rfl, q⟩
end
section
variable {X : Cx}
def rCatA (K : PySem.W.Frag) : R2 := fun x y H Q => ∃ a b xs ys, x = .ref a ∧ y = .ref b ∧ SqT K H a xs ∧ SqT K H b ys ∧ xs.length + ys.length ≤ sizeLine ∧ (xs = [] → Q (.ref b) H) ∧ (ys = [] → Q (.ref a) H) ∧ ∀ p, H p = Option.none → Q (.ref p) (upd H p (.tup (xs ++ ys)))
theorem op_catA : OpR X (binaryOp .Add) (rCatA X.K) := by
  intro pins s σ H x y v u Q I rx ry h
  obtain ⟨a, b, xs, ys, rfl, rfl, ha, hb, hz, q1, q2, q3⟩ := h
  by_cases hx : xs = []
  · subst hx
    cases rx
    cases ry
    obtain ⟨its, r1, p1, _⟩ := I.tuple ha
    obtain ⟨its2, r2, p2, _⟩ := I.tuple hb
    cases r1
    obtain ⟨⟨oc, od, dt, sl⟩, e1, c1, n, d1⟩ := p1
    obtain ⟨⟨oc2, od2, dt2, sl2⟩, e2, c2, n2, d2⟩ := p2
    simp only at c1 d1 c2 d2
    subst c1 d1 c2 d2
    exact concat_meets ⟨_, e1, rfl⟩ ⟨_, e2, rfl⟩ noFill_tuple_add seq_tuple_add PySem.F.slot_tuple_add PySem.F.entry_tuple_add (PySem.F.args_tuple_add_2 _ _)
      (addE a b #[] its2.toArray n n2 od od2 sl sl2 rfl) ⟨e1, e2, ⟨.ref b, H, I, rfl, q1 rfl⟩⟩
  · exact op_catT pins s σ H (.ref a) (.ref b) v u Q I rx ry ⟨a, b, xs, ys, rfl, rfl, ha, hb, hx, hz, q2, fun _ p np => q3 p np⟩
end
section
variable {K : PySem.W.Frag} {G : Addr → Prop} {H : Hp}
theorem ImAll.dropt : ∀ {xs : List V} {ds : List PyData} (n : Nat), ImAll K G H xs ds → ImAll K G H (xs.drop n) (ds.drop n)
  | _, _, 0, r => r
  | _, _, _ + 1, .nil => .nil
  | _, _, n + 1, .cons _ t => ImAll.dropt n t
theorem ImAll.taket : ∀ {xs : List V} {ds : List PyData} (n : Nat), ImAll K G H xs ds → ImAll K G H (xs.take n) (ds.take n)
  | _, _, 0, _ => .nil
  | _, _, _ + 1, .nil => .nil
  | _, _, n + 1, .cons r t => .cons r (ImAll.taket n t)
theorem im_new {xs : List V} {ds : List PyData} {p : Addr} (np : H p = Option.none) (ia : ImAll K G H xs ds) : Im K (fun b => G b ∨ H b = Option.none) (upd H p (.tup xs)) (.ref p) (.tuple ds) :=
  .tup (.inr np) upd_same (Im.monoAll (fun b o _ e => same_upd np b o e) (fun _ g => .inl g) _ _ ia)
theorem im_cut {x : V} {ds es : List PyData} {lo hi : Option Int} {Q : VK} (iv : Im K G H x (.tuple ds)) (hc : ∀ xs : List V, ImAll K G H xs ds → ImAll K G H (cutV xs lo hi) es) (h : ∀ v H', Same H H' → (∀ b, G b ∨ H b = Option.none → G b ∨ H b = Option.none) → Im K (fun b => G b ∨ H b = Option.none) H' v (.tuple es) → Q v H') : rSlA K x lo hi H Q := by
  cases iv with
  | @tup a xs _ g e ia =>
  refine ⟨a, xs, rfl, SqT.of e, fun z => ?_, fun z p np => ?_⟩
  · have hw : cutV xs lo hi = xs := by
      unfold cutV
      rw [z.1, z.2, List.drop_zero, Nat.sub_zero, List.take_length]
    have := hc xs ia
    rw [hw] at this
    exact h _ H (Same.refl H) (fun _ q => q) (.tup (.inl g) e (Im.monoAll (fun _ _ _ e => e) (fun _ g => .inl g) _ _ this))
  · exact h _ _ (same_upd np) (fun _ q => q) (im_new np (hc xs ia))
theorem im_take {x : V} {ds : List PyData} {k : Nat} {Q : VK} (iv : Im K G H x (.tuple ds)) (hk : k ≤ ds.length) (h : ∀ v H', Same H H' → Im K (fun b => G b ∨ H b = Option.none) H' v (.tuple (ds.take k)) → Q v H') : rSlA K x Option.none (some (k : Int)) H Q :=
  im_cut iv (fun xs ia => by
    unfold cutV
    rw [HT.sIx_none, HT.sIx_nat, Nat.min_eq_left (by rw [ia.len]; exact hk), List.drop_zero, Nat.sub_zero]
    exact ImAll.taket _ ia) fun v H' s _ i => h v H' s i
theorem im_drop {x : V} {ds : List PyData} {k : Nat} {Q : VK} (iv : Im K G H x (.tuple ds)) (hk : k ≤ ds.length) (h : ∀ v H', Same H H' → Im K (fun b => G b ∨ H b = Option.none) H' v (.tuple (ds.drop k)) → Q v H') : rSlA K x (some (k : Int)) Option.none H Q :=
  im_cut iv (fun xs ia => by
    unfold cutV
    rw [HT.sIx_none, HT.sIx_nat, Nat.min_eq_left (by rw [ia.len]; exact hk), List.take_of_length_le (by rw [List.length_drop]; exact Nat.le_refl _)]
    exact ImAll.dropt _ ia) fun v H' s _ i => h v H' s i
theorem im_cat {x y : V} {ds es : List PyData} {Q : VK} (iv : Im K G H x (.tuple ds)) (iw : Im K G H y (.tuple es)) (hz : ds.length + es.length ≤ 1000) (h : ∀ v H', Same H H' → Im K (fun b => G b ∨ H b = Option.none) H' v (.tuple (ds ++ es)) → Q v H') : rCatA K x y H Q := by
  have w1 := Im.mono (G' := fun b => G b ∨ H b = Option.none) (fun _ _ _ e => e) (fun _ g => .inl g) _ _ iv
  have w2 := Im.mono (G' := fun b => G b ∨ H b = Option.none) (fun _ _ _ e => e) (fun _ g => .inl g) _ _ iw
  cases iv with
  | @tup a xs _ g e ia =>
  cases iw with
  | @tup b ys _ g2 e2 ib =>
  have l1 := ia.len
  have l2 := ib.len
  refine ⟨a, b, xs, ys, rfl, rfl, SqT.of e, SqT.of e2, small_of (by omega), fun z => ?_, fun z => ?_, fun p np => ?_⟩
  · subst z
    cases ia
    exact h _ H (Same.refl H) w2
  · subst z
    cases ib
    rw [List.append_nil] at h
    exact h _ H (Same.refl H) w1
  · exact h _ _ (same_upd np) (im_new np (ImAll.app ia ib))
end
end My

namespace My
open PySem PySem.Spec PyProof.Rows L2
/-! ### the text -/
def topS (i : Nat) : Stmt := PySem.Challenge.pw_hornbook_k07_substitutions.main.body.getD i (.Pass ⟨0, 0, 0, 0⟩)
abbrev s_is_variable : Stmt := topS 1
abbrev N_is_variable : List Str := ["node"]
theorem sc_is_variable : FnScope N_is_variable ["node"] (defScope s_is_variable) := ⟨rfl, rfl, rfl, by decide +kernel, rfl, by decide +kernel, by decide +kernel⟩
abbrev s_apply : Stmt := topS 3
abbrev N_apply : List Str := ["substitution", "term", "nodes", "node"]
theorem sc_apply : FnScope N_apply ["substitution", "term"] (defScope s_apply) := ⟨rfl, rfl, rfl, by decide +kernel, rfl, by decide +kernel, by decide +kernel⟩
abbrev s_compose : Stmt := topS 4
abbrev N_compose : List Str := ["first", "second", "both", "number", "value"]
theorem sc_compose : FnScope N_compose ["first", "second"] (defScope s_compose) := ⟨rfl, rfl, rfl, by decide +kernel, rfl, by decide +kernel, by decide +kernel⟩
abbrev s__law_stream : Stmt := topS 6
abbrev N__law_stream : List Str := ["script", "mixed", "cell"]
theorem sc__law_stream : FnScope N__law_stream ["script"] (defScope s__law_stream) := ⟨rfl, rfl, rfl, by decide +kernel, rfl, by decide +kernel, by decide +kernel⟩
abbrev s__law_draw : Stmt := topS 7
abbrev N__law_draw : List Str := ["stream", "many", "value"]
theorem sc__law_draw : FnScope N__law_draw ["stream", "many"] (defScope s__law_draw) := ⟨rfl, rfl, rfl, by decide +kernel, rfl, by decide +kernel, by decide +kernel⟩
abbrev s__law_name : Stmt := topS 8
abbrev N__law_name : List Str := ["stream", "names", "signs", "k"]
theorem sc__law_name : FnScope N__law_name ["stream"] (defScope s__law_name) := ⟨rfl, rfl, rfl, by decide +kernel, rfl, by decide +kernel, by decide +kernel⟩
abbrev s__law_leaf : Stmt := topS 9
abbrev N__law_leaf : List Str := ["stream", "widest", "pick"]
theorem sc__law_leaf : FnScope N__law_leaf ["stream", "widest"] (defScope s__law_leaf) := ⟨rfl, rfl, rfl, by decide +kernel, rfl, by decide +kernel, by decide +kernel⟩
abbrev s__law_term : Stmt := topS 10
abbrev N__law_term : List Str := ["stream", "size", "widest", "nodes", "missing", "room", "arity"]
theorem sc__law_term : FnScope N__law_term ["stream", "size", "widest"] (defScope s__law_term) := ⟨rfl, rfl, rfl, by decide +kernel, rfl, by decide +kernel, by decide +kernel⟩
abbrev s__law_apply : Stmt := topS 11
abbrev N__law_apply : List Str := ["table", "term", "nodes", "node", "inner"]
theorem sc__law_apply : FnScope N__law_apply ["table", "term"] (defScope s__law_apply) := ⟨rfl, rfl, rfl, by decide +kernel, rfl, by decide +kernel, by decide +kernel⟩
abbrev s__law_whole : Stmt := topS 12
abbrev N__law_whole : List Str := ["value"]
theorem sc__law_whole : FnScope N__law_whole ["value"] (defScope s__law_whole) := ⟨rfl, rfl, rfl, by decide +kernel, rfl, by decide +kernel, by decide +kernel⟩
abbrev s__law_arity : Stmt := topS 13
abbrev N__law_arity : List Str := ["value"]
theorem sc__law_arity : FnScope N__law_arity ["value"] (defScope s__law_arity) := ⟨rfl, rfl, rfl, by decide +kernel, rfl, by decide +kernel, by decide +kernel⟩
abbrev s__law_is_term : Stmt := topS 14
abbrev N__law_is_term : List Str := ["value", "missing", "node", "arity"]
theorem sc__law_is_term : FnScope N__law_is_term ["value"] (defScope s__law_is_term) := ⟨rfl, rfl, rfl, by decide +kernel, rfl, by decide +kernel, by decide +kernel⟩
abbrev s__law_is_table : Stmt := topS 15
abbrev N__law_is_table : List Str := ["value", "number"]
theorem sc__law_is_table : FnScope N__law_is_table ["value"] (defScope s__law_is_table) := ⟨rfl, rfl, rfl, by decide +kernel, rfl, by decide +kernel, by decide +kernel⟩
abbrev s__law_table : Stmt := topS 16
abbrev N__law_table : List Str := ["stream", "table", "k", "number"]
theorem sc__law_table : FnScope N__law_table ["stream"] (defScope s__law_table) := ⟨rfl, rfl, rfl, by decide +kernel, rfl, by decide +kernel, by decide +kernel⟩
abbrev s__law_same : Stmt := topS 17
abbrev N__law_same : List Str := ["table", "rows", "number"]
theorem sc__law_same : FnScope N__law_same ["table", "rows"] (defScope s__law_same) := ⟨rfl, rfl, rfl, by decide +kernel, rfl, by decide +kernel, by decide +kernel⟩
abbrev s_law : Stmt := topS 18
abbrev N_law : List Str := ["script", "stream", "term", "first", "second", "rows", "number", "other", "due", "both", "row", "kept", "again", "pair"]
theorem sc_law : FnScope N_law ["script"] (defScope s_law) := ⟨rfl, rfl, rfl, by decide +kernel, rfl, by decide +kernel, by decide +kernel⟩
/-- names that the top leaves to the built-ins, and its constants -/
structure Bi (K : PySem.W.Frag) (mg : Str → Option Value) : Prop where
  b_abs : mg "abs" = Option.none
  b_all : mg "all" = Option.none
  b_bool : mg "bool" = Option.none
  b_dict : mg "dict" = Option.none
  b_int : mg "int" = Option.none
  b_isinstance : mg "isinstance" = Option.none
  b_len : mg "len" = Option.none
  b_list : mg "list" = Option.none
  b_min : mg "min" = Option.none
  b_range : mg "range" = Option.none
  b_str : mg "str" = Option.none
  b_tuple : mg "tuple" = Option.none

/-! ### names, nodes, terms -/
def okSign (c : Nat) : Bool := decide (32 ≤ c) && decide (c ≤ 126) && !decide (c = 37)
def okName (x : Str) : Bool := decide (1 ≤ x.length) && decide (x.length ≤ 40) && x.cps.toList.all okSign
def names20 : List Str := ["a", "b", "f", "g", "hello", "[]", "+", "-", ",", "it's", "X", "a b", "{}", ".", "=", "'", "aB_1", "!", "0", "lvjkuwnd"]
def signs : Str := (Str.ofString " !\"#$&'()*+,-./0123456789:;<=>?@ABCDEFGHIJKLMNOPQRSTUVWXYZ[\\]^_`") ++ (Str.ofString "abcdefghijklmnopqrstuvwxyz{|}~")
theorem names20_ok : names20.all okName = true := by decide +kernel
theorem signs_ok : signs.cps.toList.all okSign = true := by decide +kernel
theorem signs_len : signs.length = 94 := by decide +kernel
theorem join_ones (e : Str) (he : e.cps = #[]) : ∀ cs : List Nat, (Str.join e (cs.map fun c => ⟨#[c]⟩)).cps.toList = cs
  | [] => rfl
  | [c] => rfl
  | c :: d :: r => by
    have ih := join_ones e he (d :: r)
    show ((⟨#[c]⟩ : Str) ++ e ++ Str.join e ((d :: r).map fun c => (⟨#[c]⟩ : Str))).cps.toList = c :: d :: r
    show (#[c] ++ e.cps ++ (Str.join e ((d :: r).map fun c => (⟨#[c]⟩ : Str))).cps).toList = c :: d :: r
    rw [he, Array.toList_append, ih]
    rfl
inductive Nd (wd : Int) : PyData → Prop
  | v (n : Int) : 0 ≤ n → n < wd → Nd wd (.tuple [.str "v", .int n])
  | i (n : Int) : -(10 ^ 40) < n → n < 10 ^ 40 → Nd wd (.int n)
  | f (x : Str) (n : Int) : okName x = true → 0 ≤ n → n ≤ 8 → Nd wd (.tuple [.str "f", .str x, .int n])
def arN : PyData → Nat
  | .tuple [_, _, c] => (match c with | .int n => n.toNat | _ => 0) | _ => 0
/-- from m missing terms on, the nodes are just these terms -/
def Cls : Nat → List PyData → Prop
  | m, [] => m = 0
  | m, d :: r => 0 < m ∧ Cls (m - 1 + arN d) r
structure Term (wd : Int) (ds : List PyData) : Prop where
  cl : Cls 1 ds
  nd : ∀ d ∈ ds, Nd wd d
/-! ### the promises -/
def sp__law_stream (K : PySem.W.Frag) : Sp := fun vs H Q _ => ∃ (a : Addr) (ns : List Int), vs = [.ref a] ∧ SqL K H a (ns.map V.int) ∧ ns.length ≤ 63 ∧ ∀ s l H', H s = Option.none → H l = Option.none → Same H H' → Stm H' s l → Q (.ref s) H'
def sp__law_draw (K : PySem.W.Frag) : Sp := fun vs H Q _ => ∃ (s l : Addr) (n : Int), vs = [.ref s, .int n] ∧ Stm H s l ∧ 0 < n ∧ n.natAbs < 2 ^ 9000 ∧ ∀ r H', 0 ≤ r → r < n → But s H H' → Stm H' s l → Q (.int r) H'
def sp__law_name (K : PySem.W.Frag) : Sp := fun vs H Q _ => ∃ s l, vs = [.ref s] ∧ Stm H s l ∧ ∀ x H', okName x = true → But s H H' → Stm H' s l → Q (.str x) H'
def sp__law_leaf (K : PySem.W.Frag) : Sp := fun vs H Q _ => ∃ (s l : Addr) (wd : Int), vs = [.ref s, .int wd] ∧ Stm H s l ∧ 0 < wd ∧ wd ≤ 1000 ∧ ∀ v d H', Nd wd d → arN d = 0 → But s H H' → Stm H' s l → Im K (fun b => H b = Option.none) H' v d → Q v H'
def sp__law_term (K : PySem.W.Frag) : Sp := fun vs H Q _ => ∃ (s l : Addr) (n wd : Int), vs = [.ref s, .int n, .int wd] ∧ Stm H s l ∧ 0 < n ∧ n ≤ 1000 ∧ 0 < wd ∧ wd ≤ 1000 ∧
  ∀ v ds H', Term wd ds → (ds.length : Int) ≤ n → But s H H' → Stm H' s l → Im K (fun b => H b = Option.none) H' v (.tuple ds) → Q v H'
/-! ### nodes -/
def isSymN : PyData → Bool
  | .tuple [_, _, _] => true | _ => false
def NdA (d : PyData) : Prop := ∃ wd, Nd wd d
/-- how many nodes m terms take -/
def tk : Nat → List PyData → Nat
  | _, [] => 0
  | m, d :: r => if m = 0 then 0 else 1 + tk (m - 1 + arN d) r
theorem tk_zero (l : List PyData) : tk 0 l = 0 := by
  cases l with
  | nil => rfl
  | cons d r => exact if_pos rfl
theorem tk_cons {m : Nat} (h : 0 < m) (d : PyData) (r : List PyData) : tk m (d :: r) = 1 + tk (m - 1 + arN d) r := if_neg (by omega)
theorem arN_nsym {d : PyData} (h : isSymN d = false) : arN d = 0 := by
  cases d with
  | tuple ds =>
    rcases ds with _ | ⟨a, _ | ⟨b, _ | ⟨c, _ | ⟨e, r⟩⟩⟩⟩
    · rfl
    · rfl
    · rfl
    · cases h
    · rfl
  | _ => rfl
theorem tk_le : ∀ (l : List PyData) (m : Nat), tk m l ≤ l.length
  | [], _ => Nat.le_refl 0
  | d :: r, m => by
    by_cases h : m = 0
    · subst h; rw [tk_zero]; exact Nat.zero_le _
    · rw [tk_cons (by omega)]
      have := tk_le r (m - 1 + arN d)
      rw [List.length_cons]
      omega
theorem tk_add : ∀ (l : List PyData) (j m : Nat), tk (j + m) l = tk j l + tk m (l.drop (tk j l))
  | [], j, m => by simp [tk]
  | d :: r, j, m => by
    by_cases h : j = 0
    · subst h
      rw [tk_zero, Nat.zero_add, Nat.zero_add, List.drop_zero]
    · rw [tk_cons (by omega), tk_cons (m := j) (by omega), show j + m - 1 + arN d = (j - 1 + arN d) + m by omega, tk_add r (j - 1 + arN d) m]
      rw [show 1 + tk (j - 1 + arN d) r = tk (j - 1 + arN d) r + 1 by omega, List.drop_succ_cons]
      omega
/-- the rest of what is closed is closed -/
theorem cls_drop : ∀ (l : List PyData) (k j : Nat), Cls k l → j ≤ k → Cls (k - j) (l.drop (tk j l))
  | [], k, j, h, hj => by
    have hk : k = 0 := h
    rw [List.drop_nil]
    show k - j = 0
    omega
  | d :: r, k, j, h, hj => by
    by_cases z : j = 0
    · subst z
      rw [tk_zero]
      exact h
    · rw [tk_cons (by omega), show 1 + tk (j - 1 + arN d) r = tk (j - 1 + arN d) r + 1 by omega, List.drop_succ_cons]
      have := cls_drop r (k - 1 + arN d) (j - 1 + arN d) h.2 (by omega)
      rwa [show k - 1 + arN d - (j - 1 + arN d) = k - j by omega] at this
theorem cls_take : ∀ (l : List PyData) (k j : Nat), Cls k l → j ≤ k → Cls j (l.take (tk j l))
  | [], k, j, h, hj => by
    have hk : k = 0 := h
    rw [List.take_nil]
    show j = 0
    omega
  | d :: r, k, j, h, hj => by
    by_cases z : j = 0
    · subst z
      rw [tk_zero]
      rfl
    · rw [tk_cons (by omega), show 1 + tk (j - 1 + arN d) r = tk (j - 1 + arN d) r + 1 by omega, List.take_succ_cons]
      exact ⟨by omega, cls_take r (k - 1 + arN d) (j - 1 + arN d) h.2 (by omega)⟩
theorem tk_take : ∀ (l : List PyData) (i j : Nat), i ≤ j → tk i (l.take (tk j l)) = tk i l
  | [], i, j, _ => by rw [List.take_nil]
  | d :: r, i, j, h => by
    by_cases z : i = 0
    · subst z
      rw [tk_zero, tk_zero]
    · rw [tk_cons (m := j) (by omega), show 1 + tk (j - 1 + arN d) r = tk (j - 1 + arN d) r + 1 by omega, List.take_succ_cons, tk_cons (by omega), tk_cons (by omega), tk_take r _ _ (by omega)]
theorem take_full : ∀ (l : List PyData) (k : Nat), Cls k l → l.take (tk k l) = l
  | [], _, _ => List.take_nil
  | d :: r, k, h => by
    rw [tk_cons h.1, show 1 + tk (k - 1 + arN d) r = tk (k - 1 + arN d) r + 1 by omega, List.take_succ_cons, take_full r _ h.2]
theorem cls_map : ∀ (ds es : List PyData) (m : Nat), es.map arN = ds.map arN → Cls m ds → Cls m es
  | [], [], m, _, h => h
  | [], e :: es, m, h, _ => by cases h
  | d :: ds, [], m, h, _ => by cases h
  | d :: ds, e :: es, m, h, hc => by
    rw [List.map_cons, List.map_cons] at h
    obtain ⟨h1, h2⟩ := List.cons.inj h
    exact ⟨hc.1, by rw [h1]; exact cls_map ds es _ h2 hc.2⟩
/-! ### nodes can be compared -/
theorem okName_cps {x : Str} (h : okName x = true) : PyData.strOk x = true := by
  unfold okName at h
  rw [Bool.and_eq_true] at h
  unfold PyData.strOk
  rw [← Array.all_toList]
  refine List.all_eq_true.mpr fun c hc => ?_
  have := List.all_eq_true.mp h.2 c hc
  unfold okSign at this
  simp only [Bool.and_eq_true, decide_eq_true_eq] at this
  exact decide_eq_true (by omega)
theorem nd_lay {d : PyData} (h : NdA d) : d.canLay0 = true ∧ d.depth ≤ 1 ∧ d.eqv d = true := by
  obtain ⟨wd, h⟩ := h
  cases h with
  | v n _ _ => exact ⟨by simp only [PyData.canLay0, PyData.canLayAll0]; decide +kernel, by simp [PyData.depth, PyData.depthAll], by simp only [PyData.eqv, PyData.eqvAll, beq_self_eq_true, Bool.and_self]⟩
  | i n _ _ => exact ⟨by simp only [PyData.canLay0], by simp [PyData.depth], by simp only [PyData.eqv, beq_self_eq_true]⟩
  | f x n hx _ _ => exact ⟨by simp only [PyData.canLay0, PyData.canLayAll0]; rw [okName_cps hx]; decide +kernel, by simp [PyData.depth, PyData.depthAll], by simp only [PyData.eqv, PyData.eqvAll, beq_self_eq_true, Bool.and_self]⟩
theorem nds_lay : ∀ {ds : List PyData}, (∀ d ∈ ds, NdA d) → PyData.canLayAll0 ds = true ∧ PyData.depthAll ds ≤ 1 ∧ PyData.eqvAll ds ds = true
  | [], _ => ⟨by simp only [PyData.canLayAll0], by simp [PyData.depthAll], by simp only [PyData.eqvAll]⟩
  | d :: r, h => by
    obtain ⟨a1, a2, a3⟩ := nd_lay (h d List.mem_cons_self)
    obtain ⟨b1, b2, b3⟩ := nds_lay (ds := r) fun e he => h e (List.mem_cons_of_mem _ he)
    refine ⟨by simp only [PyData.canLayAll0, a1, b1, Bool.and_self], ?_, by simp only [PyData.eqvAll, a3, b3, Bool.and_self]⟩
    simp only [PyData.depthAll]
    omega
theorem nd_shaped {d : PyData} (h : NdA d) : SeqAt.shaped d = true := by
  obtain ⟨a1, a2, _⟩ := nd_lay h
  show (d.canLay0 && decide (d.depth ≤ 64)) = true
  rw [a1, decide_eq_true (by omega)]
  rfl
theorem tup_shaped {ds : List PyData} (h : ∀ d ∈ ds, NdA d) : SeqAt.shaped (.tuple ds) = true := by
  obtain ⟨a1, a2, _⟩ := nds_lay h
  have hd : (PyData.tuple ds).depth ≤ 64 := by
    simp only [PyData.depth]
    omega
  have hc : (PyData.tuple ds).canLay0 = true := by
    simp only [PyData.canLay0]
    exact a1
  show ((PyData.tuple ds).canLay0 && decide ((PyData.tuple ds).depth ≤ 64)) = true
  rw [hc, decide_eq_true hd]
  rfl
theorem tup_eqv {ds : List PyData} (h : ∀ d ∈ ds, NdA d) : PyData.eqv (.tuple ds) (.tuple ds) = true := by
  simp only [PyData.eqv]
  exact (nds_lay h).2.2
/-- name = {k: v for ..} on one line, the name a local -/
theorem ps_setDc {X : Cx} {i : Nat} {y : Str} {py : Pos} {kx vx tg iter : Expr} {ifs : List Expr} {scope : Scope} {own : List (Str × Nat)} {pos spos : Pos} {wi : TI} {g : TG} {tt : TT} {tk tv : TE} (c1 : X.calm = true) (c2 : X.N.Nodup) (c3 : X.N[i]? = some y) (c4 : X.env.scope.names.lookup y = some .local)
    (c5 : swapsWith (.DictComp kx vx [⟨tg, iter, ifs, 0⟩] scope pos) (some (.Name y py)) spos.line X.env = pure true) (c6 : PI X tg iter wi) (c7 : BlkOk X.N X.env.scope scope own)
    (c8 : ∀ (z : Shared) (H : Hp) (C : Addr) (cl : List (Str × Addr)) (fp : List Addr), PG (X.blk z H scope (compEnvC scope cl C X.env) fp) tg g) (c9 : ∀ (z : Shared) (H : Hp) (C : Addr) (cl : List (Str × Addr)) (fp : List Addr), PTs (X.blk z H scope (compEnvC scope cl C X.env) fp) ifs tt)
    (d1 : ∀ (z : Shared) (H : Hp) (C : Addr) (cl : List (Str × Addr)) (fp : List Addr), PE (X.blk z H scope (compEnvC scope cl C X.env) fp) kx tk)
    (d2 : ∀ (z : Shared) (H : Hp) (C : Addr) (cl : List (Str × Addr)) (fp : List Addr), PE (X.blk z H scope (compEnvC scope cl C X.env) fp) vx tv) (d3 : ∀ x, foldedSetIterable iter X.env x = pure x := by intro _; rfl) :
    PS X (.Assign [.Name y py] (.DictComp kx vx [⟨tg, iter, ifs, 0⟩] scope pos) spos) (tAsg (tDc wi g tt tk tv (own.map (·.2))) (gName i)) := by
  refine ⟨fun pins st0 σ H D inv hyp => ?_⟩
  have hyp' : tDc wi g tt tk tv (own.map (·.2)) σ H (fun v Hq => gName i v σ Hq D.nx) := hyp
  rw [exec_Assign_Name_used _ _ _ _ c5]
  refine wpAny_bind <| wpAny_standAt <| wpAny_bind ?_
  show wpAny _ X.A (do let _ ← comprehension (.DictComp kx vx [⟨tg, iter, ifs, 0⟩] scope pos) scope X.env (firstIterPos [⟨tg, iter, ifs, 0⟩] pos) newDict false (eval iter X.env) (some (assign (.Name y py) X.env))) _ _ st0
  have core := dc_core (Qf := fun _ fin => SP X pins D .next fin) (pos := pos) (pos' := firstIterPos [⟨tg, iter, ifs, 0⟩] pos) (use := some (assign (.Name y py) X.env)) c1 c2 inv c6 c7 c8 c9 d1 d2 d3 hyp' fun L C fin mm Hf inv' qf nsC fp => by
    show wpAny _ _ (assign (.Name y py) X.env (.ref L)) _ _ _
    obtain ⟨e0, e1, e2, e3, e4, e5⟩ := fp
    refine wpAny_assign_Name (store_ok2 (v := V.ref L) inv' c2 c3 (.inl c4) rfl (fun fin2 inv2 ⟨w, same, hw⟩ => ?_) (.inr c4))
    have cw : C ≠ w := by
      intro z
      cases hw with
      | inl hw => exact e1 (z.trans hw)
      | inr hw => exact e4 y w hw z.symm
    exact ⟨mm, nsC.sameBut same cw, fun h3 sb3 => ⟨_, Hf, inv2.turned (t' := fin2.toks) (fun b o hb e => (sb3.2 b hb).trans e) e0 e1 e3 e4 e5, qf⟩⟩
  exact wpAny_bind (thn core fun _ fin hq => wpAny_pure (wpAny_pure hq))
theorem seq_via {t u : TS} {D : Ends} {σ : L2.St} {H : Hp} (P : L2.St → Hp → Prop) (hu : ∀ σ H, P σ H → u D σ H) (ht : (∀ σ H, P σ H → u D σ H) → t { D with nx := u D } σ H) : tSeq t u D σ H := ht hu
def isVarN : PyData → Bool
  | .tuple [_, _] => true | _ => false
def numN : PyData → Int
  | .tuple [_, .int n] => n | _ => 0
theorem var_arN {d : PyData} (h : isVarN d = true) : arN d = 0 := by
  cases d with
  | tuple ds =>
    rcases ds with _ | ⟨a, _ | ⟨b, _ | ⟨c, r⟩⟩⟩
    · rfl
    · rfl
    · rfl
    · cases h
  | _ => rfl
theorem nd_eq {d e : PyData} (h : NdA d) (h2 : NdA e) (q : PyData.eqv d e = true) : d = e := by
  obtain ⟨wd, h⟩ := h
  obtain ⟨we, h2⟩ := h2
  cases h with
  | v n _ _ =>
    cases h2 with
    | v m _ _ =>
      simp only [PyData.eqv, PyData.eqvAll, Bool.and_eq_true, beq_iff_eq] at q
      rw [q.2.1]
    | i m _ _ => simp [PyData.eqv] at q
    | f x m _ _ _ => simp [PyData.eqv, PyData.eqvAll] at q
  | i n _ _ =>
    cases h2 with
    | v m _ _ => simp [PyData.eqv] at q
    | i m _ _ =>
      simp only [PyData.eqv, beq_iff_eq] at q
      rw [q]
    | f x m _ _ _ => simp [PyData.eqv] at q
  | f x n _ _ _ =>
    cases h2 with
    | v m _ _ => simp [PyData.eqv, PyData.eqvAll] at q
    | i m _ _ => simp [PyData.eqv] at q
    | f y m _ _ _ =>
      simp only [PyData.eqv, PyData.eqvAll, Bool.and_eq_true, beq_iff_eq] at q
      rw [q.2.1, q.2.2.1]
theorem nds_eq : ∀ {ds es : List PyData}, (∀ d ∈ ds, NdA d) → (∀ e ∈ es, NdA e) → PyData.eqvAll ds es = true → ds = es
  | [], [], _, _, _ => rfl
  | [], _ :: _, _, _, h => by simp [PyData.eqvAll] at h
  | _ :: _, [], _, _, h => by simp [PyData.eqvAll] at h
  | d :: ds, e :: es, h1, h2, h => by
    simp only [PyData.eqvAll, Bool.and_eq_true] at h
    rw [nd_eq (h1 d List.mem_cons_self) (h2 e List.mem_cons_self) h.1, nds_eq (fun x hx => h1 x (List.mem_cons_of_mem _ hx)) (fun x hx => h2 x (List.mem_cons_of_mem _ hx)) h.2]
theorem tup_eq {ds es : List PyData} (h1 : ∀ d ∈ ds, NdA d) (h2 : ∀ e ∈ es, NdA e) (h : PyData.eqv (.tuple ds) (.tuple es) = true) : ds = es := by
  simp only [PyData.eqv] at h
  exact nds_eq h1 h2 h
theorem cls_app : ∀ (l r : List PyData) (j k : Nat), Cls j l → Cls k r → Cls (j + k) (l ++ r)
  | [], r, j, k, h, h2 => by
    have e : j = 0 := h
    rw [e, Nat.zero_add]
    exact h2
  | d :: l, r, j, k, h, h2 => by
    refine ⟨by have := h.1; omega, ?_⟩
    have := cls_app l r (j - 1 + arN d) k h.2 h2
    have e := h.1
    rwa [show j - 1 + arN d + k = j + k - 1 + arN d by omega] at this
/-- at each place of what is closed so many terms are missing -/
theorem cls_split : ∀ (ds : List PyData) (m i : Nat), Cls m ds → i ≤ ds.length → ∃ k, Cls k (ds.drop i) ∧ ∀ t, Cls k t → Cls m (ds.take i ++ t)
  | ds, m, 0, h, _ => ⟨m, h, fun t ht => ht⟩
  | [], m, i + 1, h, hi => absurd hi (by simp)
  | d :: ds, m, i + 1, h, hi => by
    obtain ⟨k, h1, h2⟩ := cls_split ds (m - 1 + arN d) i h.2 (by simpa using hi)
    exact ⟨k, h1, fun t ht => ⟨h.1, h2 t ht⟩⟩
abbrev Tab := List (Int × List PyData)
def valT (t : Tab) (n : Int) : Option (List PyData) := (t.find? fun p => decide (p.1 = n)).map (·.2)
/-- a dict with this table -/
def TabK (K : PySem.W.Frag) (H : Hp) : List (Key × V) → Tab → Prop
  | [], [] => True
  | p :: kvs, q :: t => p.1 = Sum.inl q.1 ∧ Dp K H p.2 (.tuple q.2) ∧ TabK K H kvs t
  | _, _ => False
def TabN (t : Tab) : Prop := ∀ p ∈ t, (∀ d ∈ p.2, NdA d)
theorem TabK.len {K : PySem.W.Frag} {H : Hp} : ∀ {kvs : List (Key × V)} {t : Tab}, TabK K H kvs t → kvs.length = t.length
  | [], [], _ => rfl
  | [], _ :: _, h => h.elim
  | _ :: _, [], h => h.elim
  | p :: kvs, q :: t, h => congrArg (· + 1) (TabK.len h.2.2)
theorem TabK.mono {K : PySem.W.Frag} {H H' : Hp} (f : ∀ v ds, (∀ d ∈ ds, NdA d) → Dp K H v (.tuple ds) → Dp K H' v (.tuple ds)) : ∀ {kvs : List (Key × V)} {t : Tab}, TabN t → TabK K H kvs t → TabK K H' kvs t
  | [], [], _, _ => True.intro
  | [], _ :: _, _, h => h.elim
  | _ :: _, [], _, h => h.elim
  | p :: kvs, q :: t, n, h => ⟨h.1, f _ _ (n q List.mem_cons_self) h.2.1, TabK.mono f (fun x hx => n x (List.mem_cons_of_mem _ hx)) h.2.2⟩
theorem TabK.val {K : PySem.W.Frag} {H : Hp} (n : Int) : ∀ {kvs : List (Key × V)} {t : Tab}, TabK K H kvs t → (valV kvs (Sum.inl n) = none ∧ valT t n = none) ∨ ∃ v ds, valV kvs (Sum.inl n) = some v ∧ valT t n = some ds ∧ Dp K H v (.tuple ds)
  | [], [], _ => .inl ⟨rfl, rfl⟩
  | [], _ :: _, h => h.elim
  | _ :: _, [], h => h.elim
  | p :: kvs, q :: t, h => by
    by_cases e : q.1 = n
    · refine .inr ⟨p.2, q.2, valV_pos (by rw [h.1, e]), ?_, h.2.1⟩
      unfold valT
      rw [List.find?_cons, decide_eq_true e]
      rfl
    · have e1 : ¬ p.1 = Sum.inl n := fun z => e (Sum.inl.inj (h.1.symm.trans z))
      have e2 : valT (q :: t) n = valT t n := by
        unfold valT
        rw [List.find?_cons, decide_eq_false e]
      rw [valV_neg e1, e2]
      exact TabK.val n h.2.2
theorem TabK.snoc {K : PySem.W.Frag} {H : Hp} {n : Int} {v : V} {ds : List PyData} (hd : Dp K H v (.tuple ds)) : ∀ {kvs : List (Key × V)} {t : Tab}, TabK K H kvs t → TabK K H (kvs ++ [(Sum.inl n, v)]) (t ++ [(n, ds)])
  | [], [], _ => ⟨rfl, hd, True.intro⟩
  | [], _ :: _, h => h.elim
  | _ :: _, [], h => h.elim
  | p :: kvs, q :: t, h => ⟨h.1, h.2.1, TabK.snoc hd h.2.2⟩
theorem valT_snoc (t : Tab) (n m : Int) (ds : List PyData) (h : valT t n = none) : valT (t ++ [(n, ds)]) m = if m = n then some ds else valT t m := by
  unfold valT at *
  rw [List.find?_append]
  cases e : t.find? fun p => decide (p.1 = m) with
  | some p =>
    have hm : ¬ m = n := fun z => by rw [z] at e; rw [e] at h; cases h
    rw [if_neg hm]
    rfl
  | none =>
    by_cases hm : m = n
    · rw [if_pos hm, Option.none_or]
      rw [List.find?_cons, decide_eq_true hm.symm]
      rfl
    · rw [if_neg hm, Option.none_or]
      rw [List.find?_cons, decide_eq_false (fun z => hm z.symm)]
      rfl
theorem valT_none {t : Tab} {n : Int} (h : valT t n = none) : ∀ q ∈ t, q.1 ≠ n := by
  intro q hq e
  unfold valT at h
  rw [Option.map_eq_none_iff, List.find?_eq_none] at h
  exact h q hq (decide_eq_true e)
mutual
def noL : PyData → Bool
  | .none => true
  | .bool _ => true
  | .int _ => true
  | .str _ => true
  | .tuple ds => noLA ds
  | .list _ => false
  | .dict _ => false
def noLA : List PyData → Bool
  | [] => true
  | d :: ds => noL d && noLA ds
end
def notTup (H : Hp) (p : Addr) : Prop := (∃ ys, H p = some (.lst ys)) ∨ (∃ kvs, H p = some (.dK kvs)) ∨ ∃ o kvs, H p = some (.frz o (.dK kvs))
theorem sqT_put {K : PySem.W.Frag} {H : Hp} {p b : Addr} {o : HO} {xs : List V} (hp : notTup H p) (h : SqT K H b xs) : SqT K (upd H p o) b xs := by
  rcases h with (h | ⟨q, h⟩) | h
  · exact .inl (.inl (by rw [upd_ne (fun z => by rw [z] at h; rcases hp with ⟨_, hp⟩ | ⟨_, hp⟩ | ⟨_, _, hp⟩ <;> (rw [hp] at h; cases h))]; exact h))
  · exact .inl (.inr ⟨q, by rw [upd_ne (fun z => by rw [z] at h; rcases hp with ⟨_, hp⟩ | ⟨_, hp⟩ | ⟨_, _, hp⟩ <;> (rw [hp] at h; cases h))]; exact h⟩)
  · exact .inr h
section
variable {K : PySem.W.Frag} {H : Hp} {p : Addr} {o : HO}
mutual
theorem dp_put (hp : notTup H p) : ∀ (d : PyData) (v : V), noL d = true → Dp K H v d → Dp K (upd H p o) v d
  | .none, _, _, h => by cases h; exact .non
  | .bool b, _, _, h => by cases h; exact .bl b
  | .int i, _, _, h => by cases h; exact .int i
  | .str x, _, _, h => by cases h; exact .str x
  | .list ds, _, n, h => by simp [noL] at n
  | .tuple ds, _, n, h => by
    cases h with
    | tup g ha => exact .tup (sqT_put hp g) (dp_putAll hp ds _ (by simpa [noL] using n) ha)
  | .dict _, _, n, h => by cases h
theorem dp_putAll (hp : notTup H p) : ∀ (ds : List PyData) (vs : List V), noLA ds = true → DpAll K H vs ds → DpAll K (upd H p o) vs ds
  | [], _, _, h => by cases h; exact .nil
  | d :: ds, _, n, h => by
    rw [noLA, Bool.and_eq_true] at n
    cases h with
    | cons h1 h2 => exact .cons (dp_put hp d _ n.1 h1) (dp_putAll hp ds _ n.2 h2)
end
end
theorem nd_noL {d : PyData} (h : NdA d) : noL d = true := by
  obtain ⟨wd, h⟩ := h
  cases h <;> simp [noL, noLA]
theorem nds_noL : ∀ {ds : List PyData}, (∀ d ∈ ds, NdA d) → noLA ds = true
  | [], _ => by simp [noLA]
  | d :: r, h => by rw [noLA, nd_noL (h d List.mem_cons_self), nds_noL fun e he => h e (List.mem_cons_of_mem _ he)]; rfl
theorem tup_noL {ds : List PyData} (h : ∀ d ∈ ds, NdA d) : noL (.tuple ds) = true := by rw [noL]; exact nds_noL h
theorem tab_put {K : PySem.W.Frag} {H : Hp} {p : Addr} {o : HO} {kvs : List (Key × V)} {t : Tab} (hp : notTup H p) (n : TabN t) (h : TabK K H kvs t) : TabK K (upd H p o) kvs t := TabK.mono (fun v ds hn hd => dp_put hp _ _ (tup_noL hn) hd) n h
theorem tab_same {K : PySem.W.Frag} {H H' : Hp} {kvs : List (Key × V)} {t : Tab} (s : Same H H') (n : TabN t) (h : TabK K H kvs t) : TabK K H' kvs t := TabK.mono (fun v ds _ hd => dp_same s _ _ hd) n h
section
variable {K : PySem.W.Frag} {H H' : Hp}
mutual
theorem dp_map (f : ∀ b xs, SqT K H b xs → SqT K H' b xs) : ∀ (d : PyData) (v : V), noL d = true → Dp K H v d → Dp K H' v d
  | .none, _, _, h => by cases h; exact .non
  | .bool b, _, _, h => by cases h; exact .bl b
  | .int i, _, _, h => by cases h; exact .int i
  | .str x, _, _, h => by cases h; exact .str x
  | .list ds, _, n, h => by simp [noL] at n
  | .tuple ds, _, n, h => by
    cases h with
    | tup g ha => exact .tup (f _ _ g) (dp_mapAll f ds _ (by simpa [noL] using n) ha)
  | .dict _, _, n, h => by cases h
theorem dp_mapAll (f : ∀ b xs, SqT K H b xs → SqT K H' b xs) : ∀ (ds : List PyData) (vs : List V), noLA ds = true → DpAll K H vs ds → DpAll K H' vs ds
  | [], _, _, h => by cases h; exact .nil
  | d :: ds, _, n, h => by
    rw [noLA, Bool.and_eq_true] at n
    cases h with
    | cons h1 h2 => exact .cons (dp_map f d _ n.1 h1) (dp_mapAll f ds _ n.2 h2)
end
theorem sqT_but {p b : Addr} {xs : List V} (hp : notTup H p) (hb : But p H H') (h : SqT K H b xs) : SqT K H' b xs := by
  rcases h with (h | ⟨q, h⟩) | h
  · exact .inl (.inl (hb _ _ (fun z => by rw [z] at h; rcases hp with ⟨_, hp⟩ | ⟨_, hp⟩ | ⟨_, _, hp⟩ <;> (rw [hp] at h; cases h)) h))
  · exact .inl (.inr ⟨q, hb _ _ (fun z => by rw [z] at h; rcases hp with ⟨_, hp⟩ | ⟨_, hp⟩ | ⟨_, _, hp⟩ <;> (rw [hp] at h; cases h)) h⟩)
  · exact .inr h
/-- draws change the stream alone -/
theorem dp_but {s l : Addr} {v : V} {ds : List PyData} (S : Stm H s l) (b : But s H H') (n : ∀ d ∈ ds, NdA d) (h : Dp K H v (.tuple ds)) : Dp K H' v (.tuple ds) := by
  obtain ⟨x, y, m, ns, e, _⟩ := S.ex
  exact dp_map (fun c xs g => sqT_but (.inl ⟨_, e⟩) b g) _ _ (tup_noL n) h
end
theorem TabK.rep {K : PySem.W.Frag} {H : Hp} {n : Int} {v : V} {ds : List PyData} (hd : Dp K H v (.tuple ds)) : ∀ {kvs : List (Key × V)} {t : Tab}, TabK K H kvs t → TabK K H (kvs.map fun kv => if kv.1 = Sum.inl n then (kv.1, v) else kv) (t.map fun q => if q.1 = n then (q.1, ds) else q)
  | [], [], _ => True.intro
  | [], _ :: _, h => h.elim
  | _ :: _, [], h => h.elim
  | p :: kvs, q :: t, h => by
    have i : p.1 = Sum.inl n ↔ q.1 = n := by rw [h.1]; exact ⟨fun z => Sum.inl.inj z, fun z => congrArg _ z⟩
    refine ⟨?_, ?_, TabK.rep hd h.2.2⟩
    · by_cases e : q.1 = n
      · simp only [if_pos e, if_pos (i.mpr e)]; exact h.1
      · simp only [if_neg e, if_neg (fun z => e (i.mp z))]; exact h.1
    · by_cases e : q.1 = n
      · simp only [if_pos e, if_pos (i.mpr e)]; exact hd
      · simp only [if_neg e, if_neg (fun z => e (i.mp z))]; exact h.2.1
theorem TabK.put {K : PySem.W.Frag} {H : Hp} {n : Int} {v : V} {ds : List PyData} (hd : Dp K H v (.tuple ds)) {kvs : List (Key × V)} {t : Tab} (h : TabK K H kvs t) : ∃ t', TabK K H (putK kvs (Sum.inl n) v) t' ∧ (∀ q ∈ t', q ∈ t ∨ q.2 = ds) ∧ t'.length ≤ t.length + 1 := by
  unfold putK
  split
  · refine ⟨_, TabK.rep hd h, fun q hq => ?_, by rw [List.length_map]; exact Nat.le_succ _⟩
    obtain ⟨q', h1, h2⟩ := List.mem_map.mp hq
    split at h2
    · right; rw [← h2]
    · left; rw [← h2]; exact h1
  · refine ⟨_, TabK.snoc hd h, fun q hq => ?_, by rw [List.length_append]; exact Nat.le_refl _⟩
    rcases List.mem_append.mp hq with z | z
    · exact .inl z
    · right; rw [List.mem_singleton.mp z]
theorem TabK.at_ {K : PySem.W.Frag} {H : Hp} : ∀ {kvs : List (Key × V)} {t : Tab} {i : Nat} {k : Key} {v : V}, TabK K H kvs t → kvs[i]? = some (k, v) → ∃ q, q ∈ t ∧ k = Sum.inl q.1
  | [], [], i, k, v, _, h => by simp at h
  | [], _ :: _, _, _, _, h, _ => h.elim
  | _ :: _, [], _, _, _, h, _ => h.elim
  | p :: kvs, q :: t, 0, k, v, h, e => by
    rw [List.getElem?_cons_zero] at e
    cases e
    exact ⟨q, List.mem_cons_self, h.1⟩
  | p :: kvs, q :: t, i + 1, k, v, h, e => by
    rw [List.getElem?_cons_succ] at e
    obtain ⟨q', h1, h2⟩ := TabK.at_ h.2.2 e
    exact ⟨q', List.mem_cons_of_mem _ h1, h2⟩
theorem valT_of {t : Tab} {q : Int × List PyData} (h : q ∈ t) : ∃ ds, valT t q.1 = some ds := by
  cases e : valT t q.1 with
  | some ds => exact ⟨ds, rfl⟩
  | none => exact absurd rfl (valT_none e q h)
theorem putK_old {kvs : List (Key × V)} {k : Key} {v w : V} (h : valV kvs k = some w) : putK kvs k v = kvs.map fun kv => if kv.1 = k then (kv.1, v) else kv := by
  unfold putK
  rw [if_pos (by rw [valV_any, h]; rfl)]
theorem valT_mem {t : Tab} {n : Int} {ds : List PyData} (h : valT t n = some ds) : ∃ q ∈ t, q.2 = ds := by
  unfold valT at h
  cases e : t.find? fun p => decide (p.1 = n) with
  | none => rw [e] at h; cases h
  | some p =>
    rw [e] at h
    exact ⟨p, List.mem_of_find?_eq_some e, Option.some.inj h⟩
/-- a dict comprehension over what is walked -/
theorem dc_it {J : It} {n : Nat} {G : Hp → Prop} {Y : Nat → Hp → V → Hp → Prop} (wk : Walk J n G Y) {g : TG} {tt : TT} {tk tv : TE} {vs : List Nat} {σ : L2.St} {H1 : Hp} {D : Addr} {Qd : Hp → Prop} (Pv : Nat → Hp → Prop) (p0 : Pv 0 (upd H1 D (.dK []))) (pG : ∀ i H, i ≤ n → Pv i H → G H)
    (turn : ∀ i x H H', i < n → Pv i H → Y i H x H' → g x (wipe σ vs) H' fun σ2 H2 => wipe σ2 vs = wipe σ vs ∧ tt σ2 H2 fun b H3 =>
      if b = true then tk σ2 H3 fun y H4 => tv σ2 H4 fun z H5 => ∃ kvs k, y = kV k ∧ H5 D = some (.dK kvs) ∧ kvs.length < sizeLine ∧ Pv (i + 1) (upd H5 D (.dK (putK kvs k z))) else Pv (i + 1) H3) (pd : ∀ H, Pv n H → Qd H) :
    ∃ W : Nat → Nat → Hp → Prop, (∃ m, W 0 m (upd H1 D (.dK []))) ∧ ∀ i m H, W i m H →
      (J.stop i H ∧ Qd H) ∨ (J.go i H ∧ ∃ Nx : Hp → Prop, (∀ H', Nx H' → ∃ m', m' < m ∧ W (i + 1) m' H') ∧ ∀ x H', J.yld i H x H' → g x (wipe σ vs) H' fun σ2 H2 => wipe σ2 vs = wipe σ vs ∧ tt σ2 H2 fun b H3 =>
        if b = true then tk σ2 H3 fun y H4 => tv σ2 H4 fun z H5 => ∃ kvs k, y = kV k ∧ H5 D = some (.dK kvs) ∧ kvs.length < sizeLine ∧ Nx (upd H5 D (.dK (putK kvs k z))) else Nx H3) := by
  refine ⟨fun i m H => m = n - i ∧ i ≤ n ∧ Pv i H, ⟨n, by simp, Nat.zero_le _, p0⟩, ?_⟩
  rintro i m H ⟨rfl, hi, hp⟩
  have hg := pG i H hi hp
  rcases Nat.lt_or_ge i n with hlt | hge
  · exact .inr ⟨wk.goes i H hlt hg, Pv (i + 1), fun σ' p' => ⟨n - (i + 1), by omega, rfl, hlt, p'⟩, fun x H' y => turn i x H H' hlt hp (wk.yields i H x H' hlt hg y)⟩
  · obtain rfl : i = n := by omega
    exact .inl ⟨wk.stops H hg, pd H hp⟩
theorem TabK.get {K : PySem.W.Frag} {H : Hp} : ∀ {kvs : List (Key × V)} {t : Tab} {i : Nat} {kv : Key × V}, TabK K H kvs t → kvs[i]? = some kv → ∃ q, t[i]? = some q ∧ kv.1 = Sum.inl q.1 ∧ Dp K H kv.2 (.tuple q.2)
  | [], [], i, kv, _, h => by simp at h
  | [], _ :: _, _, _, h, _ => h.elim
  | _ :: _, [], _, _, h, _ => h.elim
  | p :: kvs, q :: t, 0, kv, h, e => by
    rw [List.getElem?_cons_zero] at e
    cases e
    exact ⟨q, rfl, h.1, h.2.1⟩
  | p :: kvs, q :: t, i + 1, kv, h, e => by
    rw [List.getElem?_cons_succ] at e
    obtain ⟨q', h1, h2⟩ := TabK.get h.2.2 e
    exact ⟨q', by rw [List.getElem?_cons_succ]; exact h1, h2⟩
theorem valT_notin {t : Tab} {n : Int} (h : n ∉ t.map (·.1)) : valT t n = none := by
  unfold valT
  rw [Option.map_eq_none_iff, List.find?_eq_none]
  exact fun q hq e => h (List.mem_map.mpr ⟨q, hq, of_decide_eq_true e⟩)
theorem TabK.none {K : PySem.W.Frag} {H : Hp} {kvs : List (Key × V)} {t : Tab} {n : Int} (T : TabK K H kvs t) (h : n ∉ t.map (·.1)) : valV kvs (Sum.inl n) = Option.none := by
  rcases TabK.val n T with ⟨w, _⟩ | ⟨v, ds, _, w, _⟩
  · exact w
  · rw [valT_notin h] at w; cases w
theorem TabK.some {K : PySem.W.Frag} {H : Hp} {kvs : List (Key × V)} {t : Tab} {n : Int} (T : TabK K H kvs t) (h : n ∈ t.map (·.1)) : (valV kvs (Sum.inl n)).isSome = true := by
  obtain ⟨q, hq, rfl⟩ := List.mem_map.mp h
  rcases TabK.val q.1 T with ⟨_, w⟩ | ⟨v, ds, w, _, _⟩
  · exact absurd rfl (valT_none w q hq)
  · rw [w]; rfl
/-- a key that is new goes to the end -/
theorem TabK.add {K : PySem.W.Frag} {H : Hp} {kvs : List (Key × V)} {t : Tab} {n : Int} {v : V} {ds : List PyData} (T : TabK K H kvs t) (h : n ∉ t.map (·.1)) (hd : Dp K H v (.tuple ds)) : TabK K H (putK kvs (Sum.inl n) v) (t ++ [(n, ds)]) := by
  rw [putK_new _ (T.none h)]
  exact TabK.snoc hd T
/-- the i-th key is none of those before -/
theorem nodup_new {t : Tab} {i : Nat} {q : Int × List PyData} (h : (t.map (·.1)).Nodup) (hq : t[i]? = some q) : q.1 ∉ (t.take i).map (·.1) := by
  intro hm
  obtain ⟨x, hx, e⟩ := List.mem_map.mp hm
  obtain ⟨j, hj⟩ := List.getElem?_of_mem hx
  have hji : j < i := by
    have := (List.getElem?_eq_some_iff.mp hj).1
    rw [List.length_take] at this
    omega
  rw [List.getElem?_take_of_lt hji] at hj
  have a1 : (t.map (·.1))[j]? = some q.1 := by rw [List.getElem?_map, hj, ← e]; rfl
  have a2 : (t.map (·.1))[i]? = some q.1 := by rw [List.getElem?_map, hq]; rfl
  have b1 := (List.getElem?_eq_some_iff.mp a1).1
  have := (List.getElem?_inj b1 h).mp (a1.trans a2.symm)
  omega
/-! ### substitutions -/
def varN (n : Int) : List PyData := [.tuple [.str "v", .int n]]
def appN (t : Tab) (d : PyData) : List PyData := if isVarN d = true then (match valT t (numN d) with | some w => w | none => [d]) else [d]
def appM (t : Tab) (ds : List PyData) : List PyData := ds.flatMap (appN t)
/-- a value that is the key itself falls out -/
def keepN (n : Int) (w : List PyData) : Option (List PyData) := if PyData.eqv (.tuple w) (.tuple (varN n)) = true then none else some w
def compV (t u : Tab) (n : Int) : Option (List PyData) :=
  match valT t n with
  | some w => keepN n (appM u w)
  | none => (match valT u n with | some w => keepN n w | none => none)
theorem var_form {d : PyData} (h : NdA d) (v : isVarN d = true) : ∃ n, d = .tuple [.str "v", .int n] := by
  obtain ⟨wd, nd⟩ := h
  cases nd with
  | v n _ _ => exact ⟨n, rfl⟩
  | i n _ _ => cases v
  | f x n _ _ _ => cases v
theorem var_nd {n : Int} (h : 0 ≤ n) : ∀ d ∈ varN n, NdA d := fun d hd => ⟨n + 1, by rw [List.mem_singleton.mp hd]; exact .v n h (by omega)⟩
theorem valT_nd {t : Tab} {n : Int} {w : List PyData} (ht : TabN t) (h : valT t n = some w) : ∀ d ∈ w, NdA d := by
  obtain ⟨q, hq, e⟩ := valT_mem h
  rw [← e]
  exact ht q hq
theorem appN_nd {t : Tab} (ht : TabN t) {d : PyData} (hd : NdA d) : ∀ e ∈ appN t d, NdA e := by
  unfold appN
  by_cases v : isVarN d = true
  · rw [if_pos v]
    cases e : valT t (numN d) with
    | some w => exact valT_nd ht e
    | none => exact fun e he => by rw [List.mem_singleton.mp he]; exact hd
  · rw [if_neg v]
    exact fun e he => by rw [List.mem_singleton.mp he]; exact hd
theorem appM_nd {t : Tab} (ht : TabN t) {ds : List PyData} (hd : ∀ d ∈ ds, NdA d) : ∀ e ∈ appM t ds, NdA e := fun e he => by
  obtain ⟨d, h1, h2⟩ := List.mem_flatMap.mp he
  exact appN_nd ht (hd d h1) e h2
theorem var_num {d : PyData} (h : NdA d) (v : isVarN d = true) : ∃ n, 0 ≤ n ∧ d = .tuple [.str "v", .int n] := by
  obtain ⟨wd, nd⟩ := h
  cases nd with
  | v n h1 _ => exact ⟨n, h1, rfl⟩
  | i n _ _ => cases v
  | f x n _ _ _ => cases v
theorem comp_app {t u c : Tab} (nt : TabN t) (nu : TabN u) (hc : ∀ n, valT c n = compV t u n) {ds : List PyData} (nd : ∀ d ∈ ds, NdA d) : appM c ds = appM u (appM t ds) := by
  unfold appM
  rw [List.flatMap_assoc]
  have h : ∀ d ∈ ds, appN c d = (appN t d).flatMap (appN u) := by
    intro d hd
    by_cases v : isVarN d = true
    · obtain ⟨n, n0, rfl⟩ := var_num (nd d hd) v
      have e1 : ∀ s : Tab, appN s (.tuple [.str "v", .int n]) = (match valT s n with | some w => w | none => varN n) := fun s => by
        unfold appN
        rw [if_pos v]
        rfl
      rw [e1, e1, hc n]
      unfold compV
      cases ht : valT t n with
      | some w =>
        simp only
        unfold keepN
        by_cases hk : PyData.eqv (.tuple (appM u w)) (.tuple (varN n)) = true
        · rw [if_pos hk]
          exact (tup_eq (appM_nd nu (valT_nd nt ht)) (var_nd n0) hk).symm
        · rw [if_neg hk]
          rfl
      | none =>
        simp only
        have e2 : (varN n).flatMap (appN u) = (match valT u n with | some w => w | none => varN n) := by
          unfold varN
          rw [List.flatMap_cons, List.flatMap_nil, List.append_nil]
          exact e1 u
        rw [e2]
        cases hu : valT u n with
        | some w =>
          simp only
          unfold keepN
          by_cases hk : PyData.eqv (.tuple w) (.tuple (varN n)) = true
          · rw [if_pos hk]
            exact (tup_eq (valT_nd nu hu) (var_nd n0) hk).symm
          · rw [if_neg hk]
        | none => rfl
    · have e3 : ∀ s : Tab, appN s d = [d] := fun s => if_neg v
      rw [e3, e3, List.flatMap_cons, List.flatMap_nil, List.append_nil, e3]
  clear hc
  induction ds with
  | nil => rfl
  | cons d r ih =>
    rw [List.flatMap_cons, List.flatMap_cons, h d List.mem_cons_self, ih (fun x hx => nd x (List.mem_cons_of_mem _ hx)) fun x hx => h x (List.mem_cons_of_mem _ hx)]
theorem appM_take {t : Tab} {ds : List PyData} {i : Nat} {d : PyData} (h : ds[i]? = some d) : appM t (ds.take (i + 1)) = appM t (ds.take i) ++ appN t d := by
  unfold appM
  rw [List.take_add_one, h, List.flatMap_append]
  show _ ++ (appN t d ++ []) = _
  rw [List.append_nil]
theorem appN_non {t : Tab} {d : PyData} (v : ¬ isVarN d = true) : appN t d = [d] := if_neg v
theorem appN_out {t : Tab} {n : Int} (h : valT t n = none) : appN t (.tuple [.str "v", .int n]) = [.tuple [.str "v", .int n]] := by
  unfold appN
  rw [if_pos (show isVarN (.tuple [.str "v", .int n]) = true from rfl), show numN (.tuple [.str "v", .int n]) = n from rfl, h]
theorem appN_in {t : Tab} {n : Int} {w : List PyData} (h : valT t n = some w) : appN t (.tuple [.str "v", .int n]) = w := by
  unfold appN
  rw [if_pos (show isVarN (.tuple [.str "v", .int n]) = true from rfl), show numN (.tuple [.str "v", .int n]) = n from rfl, h]
/-- the composed table: the first one's values with the second applied, then what the second adds, without a key that is its own value -/
def comp1 (t u : Tab) : Tab := t.map fun x => (x.1, appM u x.2)
def newK (t : Tab) (x : Int × List PyData) : Bool := !(decide (x.1 ∈ t.map (·.1)))
def notOwn (x : Int × List PyData) : Bool := !PyData.eqv (.tuple x.2) (.tuple (varN x.1))
def compT (t u : Tab) : Tab := (comp1 t u ++ u.filter (newK t)).filter notOwn
theorem comp1_keys (t u : Tab) : (comp1 t u).map (·.1) = t.map (·.1) := by unfold comp1; rw [List.map_map]; rfl
theorem comp1_nd {t u : Tab} (ht : TabN t) (hu : TabN u) : TabN (comp1 t u) := fun x hx => by
  obtain ⟨q, h1, rfl⟩ := List.mem_map.mp hx
  exact appM_nd hu (ht q h1)
theorem valT_or (a b : Tab) (n : Int) : valT (a ++ b) n = (valT a n).or (valT b n) := by
  unfold valT
  rw [List.find?_append]
  cases a.find? fun p => decide (p.1 = n) <;> rfl
theorem valT_cons (q : Int × List PyData) (t : Tab) (n : Int) : valT (q :: t) n = if q.1 = n then some q.2 else valT t n := by
  unfold valT
  rw [List.find?_cons]
  by_cases e : q.1 = n
  · rw [decide_eq_true e, if_pos e]; rfl
  · rw [decide_eq_false e, if_neg e]
theorem valT_comp1 (t u : Tab) (n : Int) : valT (comp1 t u) n = (valT t n).map (appM u) := by
  induction t with
  | nil => rfl
  | cons q t ih =>
    show valT ((q.1, appM u q.2) :: comp1 t u) n = _
    rw [valT_cons, valT_cons, ih]
    by_cases e : q.1 = n
    · rw [if_pos e, if_pos e]; rfl
    · rw [if_neg e, if_neg e]
theorem valT_filter (p : Int × List PyData → Bool) (n : Int) : ∀ {C : Tab}, (C.map (·.1)).Nodup → valT (C.filter p) n = (match valT C n with | some w => if p (n, w) = true then some w else none | none => none)
  | [], _ => rfl
  | q :: C, h => by
    rw [List.map_cons, List.nodup_cons] at h
    have ih := valT_filter p n h.2
    rw [valT_cons]
    by_cases e : q.1 = n
    · rw [if_pos e]
      have hq : q = (n, q.2) := by rw [← e]
      simp only
      by_cases hp : p q = true
      · rw [List.filter_cons_of_pos hp, valT_cons, if_pos e, if_pos (by rw [← hq]; exact hp)]
      · rw [List.filter_cons_of_neg hp, if_neg (by rw [← hq]; exact hp)]
        refine valT_notin fun hm => ?_
        obtain ⟨x, hx, ex⟩ := List.mem_map.mp hm
        exact h.1 (List.mem_map.mpr ⟨x, (List.mem_filter.mp hx).1, ex.trans e.symm⟩)
    · rw [if_neg e, ← ih]
      by_cases hp : p q = true
      · rw [List.filter_cons_of_pos hp, valT_cons, if_neg e]
      · rw [List.filter_cons_of_neg hp]
theorem valT_key {t : Tab} {n : Int} : n ∈ t.map (·.1) ↔ (valT t n).isSome = true := by
  constructor
  · intro h
    obtain ⟨q, hq, rfl⟩ := List.mem_map.mp h
    obtain ⟨ds, e⟩ := valT_of hq
    rw [e]; rfl
  · intro h
    by_cases hm : n ∈ t.map (·.1)
    · exact hm
    · rw [valT_notin hm] at h; cases h
theorem comp_nodup {t u : Tab} (dt : (t.map (·.1)).Nodup) (du : (u.map (·.1)).Nodup) : ((comp1 t u ++ u.filter (newK t)).map (·.1)).Nodup := by
  rw [List.map_append, comp1_keys]
  refine List.nodup_append.mpr ⟨dt, List.Sublist.nodup ((List.filter_sublist ..).map _) du, fun a ha b hb e => ?_⟩
  obtain ⟨y, hy, rfl⟩ := List.mem_map.mp hb
  have := (List.mem_filter.mp hy).2
  unfold newK at this
  rw [← e, decide_eq_true ha] at this
  cases this
theorem valT_compT {t u : Tab} (dt : (t.map (·.1)).Nodup) (du : (u.map (·.1)).Nodup) (n : Int) : valT (compT t u) n = compV t u n := by
  unfold compT compV
  rw [valT_filter _ _ (comp_nodup dt du), valT_or, valT_comp1, valT_filter _ _ du]
  have keep : ∀ w : List PyData, (if notOwn (n, w) = true then some w else none) = keepN n w := fun w => by
    unfold notOwn keepN
    cases PyData.eqv (.tuple w) (.tuple (varN n)) <;> rfl
  cases ht : valT t n with
  | some w => exact keep _
  | none =>
    have hk : n ∉ t.map (·.1) := fun h => by rw [valT_key, ht] at h; cases h
    cases hu : valT u n with
    | none => rfl
    | some w =>
      have : newK t (n, w) = true := by unfold newK; rw [decide_eq_false hk]; rfl
      simp only [this, Option.map_none, Option.none_or, if_pos]
      exact keep w
theorem comp_keys {t u : Tab} {x : Int × List PyData} (h : x ∈ compT t u) : x.1 ∈ t.map (·.1) ∨ x.1 ∈ u.map (·.1) := by
  rcases List.mem_append.mp (List.mem_filter.mp h).1 with z | z
  · left; rw [← comp1_keys t u]; exact List.mem_map.mpr ⟨x, z, rfl⟩
  · right; exact List.mem_map.mpr ⟨x, (List.mem_filter.mp z).1, rfl⟩
theorem comp_own {t u : Tab} {x : Int × List PyData} (h : x ∈ compT t u) : PyData.eqv (.tuple x.2) (.tuple (varN x.1)) = false := by
  have := (List.mem_filter.mp h).2
  unfold notOwn at this
  cases e : PyData.eqv (.tuple x.2) (.tuple (varN x.1)) with
  | false => rfl
  | true => rw [e] at this; cases this
theorem cls_app1 {t : Tab} (nd : ∀ n, ∀ w, valT t n = some w → Cls 1 w) : ∀ (ds : List PyData) (m : Nat), (∀ d ∈ ds, NdA d) → Cls m ds → Cls m (appM t ds)
  | [], m, _, h => h
  | d :: r, m, hn, h => by
    have ih := cls_app1 nd r _ (fun e he => hn e (List.mem_cons_of_mem _ he)) h.2
    have hm := h.1
    show Cls m (appN t d ++ appM t r)
    have one : Cls (arN d + 1 - arN d) [d] ∨ True := .inr trivial
    by_cases v : isVarN d = true
    · have a0 := var_arN v
      rw [a0, Nat.add_zero] at ih
      have c1 : Cls 1 (appN t d) := by
        unfold appN
        rw [if_pos v]
        cases e : valT t (numN d) with
        | some w => exact nd _ w e
        | none =>
          refine ⟨by decide, ?_⟩
          rw [a0]
          rfl
      have := cls_app _ _ 1 (m - 1) c1 ih
      rwa [show 1 + (m - 1) = m by omega] at this
    · rw [appN_non v]
      exact ⟨hm, ih⟩
def Okt (t : Tab) : Prop := ∀ x ∈ t, (∀ d ∈ x.2, NdA d) ∧ Cls 1 x.2 ∧ x.2.length ≤ 5
theorem app_len {u : Tab} (hu : ∀ x ∈ u, x.2.length ≤ 5) : ∀ ds : List PyData, (appM u ds).length ≤ 5 * ds.length
  | [] => Nat.le_refl 0
  | d :: r => by
    have ih := app_len hu r
    have h1 : (appN u d).length ≤ 5 := by
      unfold appN
      split
      · cases e : valT u (numN d) with
        | some w =>
          obtain ⟨q, hq, e2⟩ := valT_mem e
          have := hu q hq
          rw [← e2]
          exact this
        | none => exact (by decide : 1 ≤ 5)
      · exact (by decide : 1 ≤ 5)
    show (appN u d ++ appM u r).length ≤ _
    rw [List.length_append, List.length_cons]
    omega
theorem comp_ok {t u : Tab} (ht : Okt t) (hu : Okt u) : ∀ x ∈ compT t u, (∀ d ∈ x.2, NdA d) ∧ Cls 1 x.2 ∧ x.2.length ≤ 25 := by
  intro x hx
  have nu : TabN u := fun x hx => (hu x hx).1
  rcases List.mem_append.mp (List.mem_filter.mp hx).1 with z | z
  · obtain ⟨q, hq, rfl⟩ := List.mem_map.mp z
    obtain ⟨a, b, c⟩ := ht q hq
    have := app_len (fun x hx => (hu x hx).2.2) q.2
    refine ⟨appM_nd nu a, cls_app1 (fun n w e => ?_) _ _ a b, by show (appM u q.2).length ≤ 25; omega⟩
    obtain ⟨q', hq', e'⟩ := valT_mem e
    rw [← e']
    exact (hu q' hq').2.1
  · obtain ⟨a, b, c⟩ := hu x (List.mem_filter.mp z).1
    exact ⟨a, b, by omega⟩
/-- the rows of a table -/
def rowD (x : Int × List PyData) : PyData := .tuple [.int x.1, .tuple x.2]
theorem row_noL {x : Int × List PyData} (h : ∀ d ∈ x.2, NdA d) : noL (rowD x) = true := by
  unfold rowD
  simp only [noL, noLA, nds_noL h, Bool.and_self]
theorem rows_noL {t : Tab} (h : TabN t) : noLA (t.map rowD) = true := by
  induction t with
  | nil => simp [noLA]
  | cons x t ih =>
    rw [List.map_cons, noLA, row_noL (h x List.mem_cons_self), ih fun y hy => h y (List.mem_cons_of_mem _ hy)]
    rfl
theorem row_eqv {x : Int × List PyData} (h : ∀ d ∈ x.2, NdA d) : PyData.eqv (rowD x) (rowD x) = true := by
  unfold rowD
  have := tup_eqv h
  simp only [PyData.eqv] at this
  simp only [PyData.eqv, PyData.eqvAll, beq_self_eq_true, this, Bool.and_self]
theorem rows_eqv {t : Tab} (h : TabN t) : PyData.eqvAll (t.map rowD) (t.map rowD) = true := by
  induction t with
  | nil => simp [PyData.eqvAll]
  | cons x t ih =>
    rw [List.map_cons]
    simp only [PyData.eqvAll]
    rw [row_eqv (h x List.mem_cons_self), ih fun y hy => h y (List.mem_cons_of_mem _ hy)]
    rfl
theorem row_lay {x : Int × List PyData} (h : ∀ d ∈ x.2, NdA d) : (rowD x).canLay0 = true ∧ (rowD x).depth ≤ 3 := by
  obtain ⟨a1, a2, _⟩ := nds_lay h
  unfold rowD
  exact ⟨by simp only [PyData.canLay0, PyData.canLayAll0, a1, Bool.and_self], by simp only [PyData.depth, PyData.depthAll]; omega⟩
theorem rows_lay {t : Tab} (h : TabN t) : PyData.canLayAll0 (t.map rowD) = true ∧ PyData.depthAll (t.map rowD) ≤ 3 := by
  induction t with
  | nil => exact ⟨by simp [PyData.canLayAll0], by simp [PyData.depthAll]⟩
  | cons x t ih =>
    obtain ⟨a, b⟩ := row_lay (h x List.mem_cons_self)
    obtain ⟨c, d⟩ := ih fun y hy => h y (List.mem_cons_of_mem _ hy)
    rw [List.map_cons]
    refine ⟨by simp only [PyData.canLayAll0, a, c, Bool.and_self], ?_⟩
    simp only [PyData.depthAll]
    omega
theorem rows_shaped {t : Tab} (h : TabN t) : SeqAt.shaped (.list (t.map rowD)) = true := by
  obtain ⟨a, b⟩ := rows_lay h
  have hd : (PyData.list (t.map rowD)).depth ≤ 64 := by simp only [PyData.depth]; omega
  have hc : (PyData.list (t.map rowD)).canLay0 = true := by simp only [PyData.canLay0]; exact a
  show ((PyData.list (t.map rowD)).canLay0 && decide ((PyData.list (t.map rowD)).depth ≤ 64)) = true
  rw [hc, decide_eq_true hd]
  rfl
theorem TabK.put2 {K : PySem.W.Frag} {H : Hp} {n : Int} {v : V} {ds : List PyData} (hd : Dp K H v (.tuple ds)) {kvs : List (Key × V)} {t : Tab} (h : TabK K H kvs t) : ∃ t', TabK K H (putK kvs (Sum.inl n) v) t' ∧ (∀ q ∈ t', q ∈ t ∨ (q.1 ∈ t.map (·.1) ∨ q.1 = n) ∧ q.2 = ds) ∧ ((t.map (·.1)).Nodup → (t'.map (·.1)).Nodup) ∧ t'.length ≤ t.length + 1 ∧ (n ∈ t.map (·.1) → t'.length = t.length) ∧ n ∈ t'.map (·.1) := by
  by_cases hm : n ∈ t.map (·.1)
  · have hs := TabK.some h hm
    have e : putK kvs (Sum.inl n) v = kvs.map fun kv => if kv.1 = Sum.inl n then (kv.1, v) else kv := by
      unfold putK
      rw [if_pos (by rw [valV_any, hs])]
    rw [e]
    have ek : (t.map fun q => if q.1 = n then (q.1, ds) else q).map (·.1) = t.map (·.1) := by
      rw [List.map_map]
      refine List.map_congr_left fun q _ => ?_
      show (if q.1 = n then (q.1, ds) else q).1 = q.1
      split <;> rfl
    refine ⟨_, TabK.rep hd h, fun q hq => ?_, fun hn => by rw [ek]; exact hn, by rw [List.length_map]; exact Nat.le_succ _, fun _ => List.length_map .., by rw [ek]; exact hm⟩
    obtain ⟨q', h1, h2⟩ := List.mem_map.mp hq
    split at h2
    · right; rw [← h2]; exact ⟨.inl (List.mem_map.mpr ⟨q', h1, rfl⟩), rfl⟩
    · left; rw [← h2]; exact h1
  · rw [putK_new _ (TabK.none h hm)]
    refine ⟨_, TabK.snoc hd h, fun q hq => ?_, fun hn => ?_, by rw [List.length_append]; exact Nat.le_refl _, fun z => absurd z hm, by rw [List.map_append]; exact List.mem_append_right _ (List.mem_singleton.mpr rfl)⟩
    · rcases List.mem_append.mp hq with z | z
      · exact .inl z
      · right; rw [List.mem_singleton.mp z]; exact ⟨.inr rfl, rfl⟩
    · rw [List.map_append]
      refine List.nodup_append.mpr ⟨hn, (by simp), fun a ha b hb e => ?_⟩
      rw [List.mem_singleton.mp hb] at e
      have e2 : a = n := e
      rw [e2] at ha
      exact hm ha
theorem valT_at : ∀ {t : Tab} {q : Int × List PyData}, (t.map (·.1)).Nodup → q ∈ t → valT t q.1 = some q.2
  | [], _, _, h => nomatch h
  | x :: t, q, h, hq => by
    rw [List.map_cons, List.nodup_cons] at h
    rw [valT_cons]
    rcases List.mem_cons.mp hq with z | z
    · rw [z, if_pos rfl]
    · rw [if_neg (fun e => h.1 (List.mem_map.mpr ⟨q, z, e.symm⟩))]
      exact valT_at h.2 z
theorem appM_nil : ∀ ds : List PyData, appM [] ds = ds
  | [] => rfl
  | d :: r => by
    show appN [] d ++ appM [] r = _
    rw [appM_nil r]
    unfold appN
    split <;> rfl
theorem mk_var {K : PySem.W.Frag} {H : Hp} {a b : Addr} {n : Int} (na : H a = Option.none) (nb : (upd H a (.tup [.str "v", .int n])) b = Option.none) : Same H (upd (upd H a (.tup [.str "v", .int n])) b (.tup [.ref a])) ∧ Dp K (upd (upd H a (.tup [.str "v", .int n])) b (.tup [.ref a])) (.ref b) (.tuple (varN n)) :=
  ⟨(same_upd na).trans (same_upd nb), .tup (SqT.of upd_same) (.cons (.tup (SqT.of (same_upd nb _ _ upd_same)) (.cons (.str _) (.cons (.int _) .nil))) .nil)⟩
structure Fx (K : PySem.W.Frag) (H : Hp) (p1 p2 r1 r2 : Addr) (k1 k2 : List (Key × V)) (t u : Tab) (y1 y2 : List V) (tv : V) (ds : List PyData) : Prop where
  h1 : H p1 = some (.dK k1)
  h2 : H p2 = some (.dK k2)
  T : TabK K H k1 t
  U : TabK K H k2 u
  g1 : H r1 = some (.lst y1)
  g2 : H r2 = some (.lst y2)
  Y1 : DpAll K H y1 (t.map rowD)
  Y2 : DpAll K H y2 (u.map rowD)
  D : Dp K H tv (.tuple ds)
theorem Fx.same {K : PySem.W.Frag} {H H' : Hp} {p1 p2 r1 r2 : Addr} {k1 k2 : List (Key × V)} {t u : Tab} {y1 y2 : List V} {tv : V} {ds : List PyData} (nt : TabN t) (nu : TabN u) (s : Same H H') (F : Fx K H p1 p2 r1 r2 k1 k2 t u y1 y2 tv ds) : Fx K H' p1 p2 r1 r2 k1 k2 t u y1 y2 tv ds :=
  ⟨s _ _ F.h1, s _ _ F.h2, tab_same s nt F.T, tab_same s nu F.U, s _ _ F.g1, s _ _ F.g2, dp_sameAll s _ _ F.Y1, dp_sameAll s _ _ F.Y2, dp_same s _ _ F.D⟩
theorem Fx.put {K : PySem.W.Frag} {H : Hp} {p1 p2 r1 r2 q : Addr} {o : HO} {k1 k2 : List (Key × V)} {t u : Tab} {y1 y2 : List V} {tv : V} {ds : List PyData} (nt : TabN t) (nu : TabN u) (nd : ∀ d ∈ ds, NdA d) (hq : notTup H q) (q1 : p1 ≠ q) (q2 : p2 ≠ q) (q3 : r1 ≠ q) (q4 : r2 ≠ q) (F : Fx K H p1 p2 r1 r2 k1 k2 t u y1 y2 tv ds) : Fx K (upd H q o) p1 p2 r1 r2 k1 k2 t u y1 y2 tv ds :=
  ⟨by rw [upd_ne q1]; exact F.h1, by rw [upd_ne q2]; exact F.h2, tab_put hq nt F.T, tab_put hq nu F.U, by rw [upd_ne q3]; exact F.g1, by rw [upd_ne q4]; exact F.g2, dp_putAll hq _ _ (rows_noL nt) F.Y1, dp_putAll hq _ _ (rows_noL nu) F.Y2, dp_put hq _ _ (tup_noL nd) F.D⟩
theorem keep_frz {H H' : Hp} {p : Addr} {k : List (Key × V)} (hp : H p = some (.dK k)) {o : HO} (s : Same (upd H p o) H') : Same H (upd H' p (.dK k)) := fun b o e => by
  by_cases z : b = p
  · subst z
    rw [hp] at e
    rw [upd_same]
    exact e
  · rw [upd_ne z]
    exact s _ _ (by rw [upd_ne z]; exact e)
/-! ### the promises -/
def sp_is_variable (K : PySem.W.Frag) : Sp := fun vs H Q _ => ∃ (x : V) (d : PyData), vs = [x] ∧ Dp K H x d ∧ NdA d ∧ Q (.bl (isVarN d)) H
def sp_apply (K : PySem.W.Frag) : Sp := fun vs H Q _ => ∃ (p : Addr) (kvs : List (Key × V)) (t : Tab) (x : V) (ds : List PyData), vs = [.ref p, x] ∧ H p = some (.dK kvs) ∧ TabK K H kvs t ∧ TabN t ∧ Dp K H x (.tuple ds) ∧ (∀ d ∈ ds, NdA d) ∧ (∀ i, (appM t (ds.take i)).length ≤ 900) ∧ ∀ v H', Same H H' → Dp K H' v (.tuple (appM t ds)) → Q v H'
def sp__law_apply (K : PySem.W.Frag) : Sp := sp_apply K
def sp_compose (K : PySem.W.Frag) : Sp := fun vs H Q _ => ∃ (p q : Addr) (k1 k2 : List (Key × V)) (t u : Tab), vs = [.ref p, .ref q] ∧ p ≠ q ∧ H p = some (.dK k1) ∧ H q = some (.dK k2) ∧ TabK K H k1 t ∧ TabK K H k2 u ∧ TabN t ∧ TabN u ∧ (t.map (·.1)).Nodup ∧ (u.map (·.1)).Nodup ∧ t.length ≤ 10 ∧ u.length ≤ 10 ∧ (∀ x ∈ t, 0 ≤ x.1) ∧ (∀ x ∈ u, 0 ≤ x.1) ∧ (∀ x ∈ t, ∀ i, (appM u (x.2.take i)).length ≤ 900) ∧
  ∀ r kvs H', Same H H' → H r = Option.none → H' r = some (.dK kvs) → TabK K H' kvs (compT t u) → Q (.ref r) H'
def sp__law_whole (K : PySem.W.Frag) : Sp := fun vs H Q _ => ∃ (x : V) (d : PyData), vs = [x] ∧ Dp K H x d ∧ Q (.bl (isI d && !isB d)) H
def sp__law_arity (K : PySem.W.Frag) : Sp := fun vs H Q _ => ∃ (x : V) (d : PyData), vs = [x] ∧ Dp K H x d ∧ NdA d ∧ Q (.int (arN d)) H
def sp__law_is_term (K : PySem.W.Frag) : Sp := fun vs H Q _ => ∃ (x : V) (ds : List PyData), vs = [x] ∧ Dp K H x (.tuple ds) ∧ (∀ d ∈ ds, NdA d) ∧ Cls 1 ds ∧ Q (.bl true) H
def sp__law_is_table (K : PySem.W.Frag) : Sp := fun vs H Q _ => ∃ (p : Addr) (kvs : List (Key × V)) (t : Tab), vs = [.ref p] ∧ H p = some (.dK kvs) ∧ TabK K H kvs t ∧ TabN t ∧ (∀ x ∈ t, Cls 1 x.2) ∧ t.length ≤ 100 ∧ ∀ H', Same H H' → Q (.bl true) H'
def sp__law_table (K : PySem.W.Frag) : Sp := fun vs H Q _ => ∃ s l, vs = [.ref s] ∧ Stm H s l ∧ ∀ p kvs t H', But s H H' → Stm H' s l → H p = Option.none → H' p = some (.dK kvs) → TabK K H' kvs t → Okt t → (t.map (·.1)).Nodup → t.length ≤ 4 → (∀ x ∈ t, 0 ≤ x.1) → Q (.ref p) H'
def sp__law_same (K : PySem.W.Frag) : Sp := fun vs H Q _ => ∃ (p r : Addr) (kvs : List (Key × V)) (t : Tab) (ys : List V), vs = [.ref p, .ref r] ∧ H p = some (.dK kvs) ∧ TabK K H kvs t ∧ TabN t ∧ (t.map (·.1)).Nodup ∧ t.length ≤ 100 ∧ H r = some (.lst ys) ∧ DpAll K H ys (t.map rowD) ∧ ∀ H', Same H H' → Q (.bl true) H'
def sp_law (K : PySem.W.Frag) : Sp := fun vs H Q _ => ∃ (a : Addr) (ns : List Int), vs = [.ref a] ∧ SqL K H a (ns.map V.int) ∧ ns.length ≤ 63 ∧ ∀ H', Q (.bl true) H'

local macro_rules | `(tactic| walk_at "lits") => `(tactic| repeat' (first | exact lit_int | exact lit_str | exact lit_bl | exact lit_non | exact litA_nil | refine litA_cons ?_ ?_ | refine lit_tup ?_ (by decide) | refine lit_lst ?_ (by decide) | refine lit_neg ?_ | refine lit_sub ?_ ?_ | refine lit_pow ?_ ?_ ⟨by decide, by decide, by decide⟩ | refine lit_mulS ?_ ?_ ⟨by decide, by decide, by decide⟩))
section
variable {P : Program} {w : World} {K : PySem.W.Frag} {mg : Str → Option Value} {base : Heap}
theorem ok_is_variable {f : Addr} {fd : FuncData} (F : Fun K "is_variable" "is_variable" s_is_variable f fd) (E : Bi K mg)  : FnOk P w K mg base CX0 1 f fd ["node"] (sp_is_variable K) := by
  refine F.ok sc_is_variable (fun vs H Q E h => ?_) (fun cdv A outer s H vs Q E' hr h => ?_)
  · obtain ⟨x, d, rfl, _⟩ := h
    rfl
  · obtain ⟨x, d, rfl, hd, ⟨wd, nd⟩, q⟩ := h
    refine ⟨_, (pss_one (ps_ret (pe_and (pe_callB call_isi (by rfl) E.b_isinstance (by decide +kernel) (pa_cons (pv 0) (pa_cons (pe_ty "tuple" (by rfl) E.b_tuple (by decide +kernel)) pa_nil))) (pe_one (pe_cmpR op_eq (pe_ix ix_tup (pv 0) pe_int (fun _ _ => rfl)) pe_str (nomark _)))))), ?_⟩
    refine ⟨x, rfl, _, _, _, _, _, rfl, .ty _, tyx_of hd, kit_ty (kitT _), _, rfl, ?_⟩
    cases nd with
    | v n h1 h2 =>
      cases hd with
      | tup hs ha =>
        obtain ⟨v, hv, hdv⟩ := DpAll.get (i := 0) ha rfl
        cases hdv
        refine iteT ⟨_, rfl, _, _, _, _, rfl, rfl, hs, atI_nat (j := 0) hv, rfl, ?_⟩
        rw [decide_eq_true rfl]
        exact q
    | i n h1 h2 => exact iteF q
    | f y n h1 h2 h3 =>
      cases hd with
      | tup hs ha =>
        obtain ⟨v, hv, hdv⟩ := DpAll.get (i := 0) ha rfl
        cases hdv
        refine iteT ⟨_, rfl, _, _, _, _, rfl, rfl, hs, atI_nat (j := 0) hv, rfl, ?_⟩
        rw [show decide (V.str (Str.ofString "f") = V.str (Str.ofString "v")) = false by decide +kernel]
        exact q

theorem ok__law_stream {f : Addr} {fd : FuncData} (F : Fun K "_law_stream" "_law_stream" s__law_stream f fd) (E : Bi K mg)  : FnOk P w K mg base CX0 1 f fd ["script"] (sp__law_stream K) := by
  refine F.ok sc__law_stream (fun vs H Q E h => ?_) (fun cdv A outer s H vs Q E' hr h => ?_)
  · obtain ⟨a, ns, rfl, _⟩ := h
    rfl
  · obtain ⟨a, ns, rfl, hS, hl, q⟩ := h
    refine ⟨_, (pss_cons (ps_set (i := 1) sc__law_stream.nd rfl (Or.inl rfl) pe_int)
      (pss_cons (ps_for PassesOwn.never rfl (pi_list (pv 0)) (pg_name (i := 2) sc__law_stream.nd rfl (Or.inl rfl)) (pss_one (ps_set (i := 1) sc__law_stream.nd rfl (Or.inl rfl) (pe_op op_mod (pe_callTy call_int1 (by rfl) E.b_int (by decide +kernel) (pa_cons (pe_op op_add (pe_op op_add (pe_op op_mul (pv 1) pe_int) (pe_op op_mod (pe_callTy call_int1 (by rfl) E.b_int (by decide +kernel) (pa_cons (pv 2) pa_nil)) pe_int)) pe_int) pa_nil)) pe_int))))
      (pss_one (ps_ret (pe_lst (pa_cons (pe_callTy call_list_of (by rfl) E.b_list (by decide +kernel) (pa_cons (pv 0) pa_nil)) (pa_cons pe_int (pa_cons pe_int (pa_cons (pv 1) pa_nil))))))))), ?_⟩
    refine ⟨_, rfl, a, rfl, ⟨_, hS⟩, for_list (K := K) (a := a) (xs := ns.map V.int) (fun i σ H1 => ∃ (m : Int) (v : Option V), σ = [some (.ref a), some (.int m), v] ∧ H1 = H ∧ 0 ≤ m ∧ m < 2147483647)
      ⟨17, none, rfl, rfl, by decide, by decide⟩ (fun i σ H1 _ ⟨_, _, _, e, _⟩ => by rw [e]; exact hS) ?_ ?_⟩
    · rintro i y σ H1 hi ⟨m, v, rfl, rfl, h0, h1⟩
      obtain ⟨z, rfl⟩ : ∃ z, y = V.int z := by
        rw [List.getElem?_map] at hi
        cases e : ns[i]? with
        | none =>
          rw [e] at hi
          cases hi
        | some z =>
          rw [e] at hi
          exact ⟨z, (Option.some.inj hi).symm⟩
      refine ⟨_, rfl, _, _, rfl, rfl, .inr ⟨by decide, by decide⟩, _, rfl, .inl ⟨_, rfl, _, _, rfl, rfl, (by decide : (0 : Int) < 65521), _, _, rfl, rfl, _, _, rfl, rfl, .inl ⟨_, rfl, _, _, rfl, rfl, (by decide : (0 : Int) < 2147483647), ?_⟩⟩⟩
      exact ⟨_, _, rfl, rfl, Int.emod_nonneg _ (by decide), Int.emod_lt_of_pos _ (by decide)⟩
    · rintro σ H1 ⟨m, v, rfl, rfl, h0, h1⟩
      refine ⟨_, rfl, a, _, rfl, .inl hS, fun l hl2 => ⟨_, rfl, (by show 4 ≤ sizeLine; decide), fun p hp => ?_⟩⟩
      have npl : l ≠ p := fun z => by
        rw [← z, upd_same] at hp
        cases hp
      refine q p l _ ((same_upd hl2).free hp) hl2 ((same_upd hl2).trans (same_upd hp)) ⟨0, 0, m, ns, upd_same, ?_, hl, Int.le_refl 0, Int.le_refl 0, h0, h1⟩
      rw [upd_ne npl, upd_same]

theorem ok__law_draw {f : Addr} {fd : FuncData} (F : Fun K "_law_draw" "_law_draw" s__law_draw f fd) (E : Bi K mg)  : FnOk P w K mg base CX0 1 f fd ["stream", "many"] (sp__law_draw K) := by
  refine F.ok sc__law_draw (fun vs H Q E h => ?_) (fun cdv A outer s H vs Q E' hr h => ?_)
  · obtain ⟨s, l, n, rfl, _⟩ := h
    rfl
  · obtain ⟨p, l, n, rfl, hS, hn, hn2, q⟩ := h
    obtain ⟨a, b, m, ns, h1, h2, hlen, ha, hb, hm, hm2⟩ := hS.ex
    have nlp : l ≠ p := fun z => by
      rw [z, h1] at h2
      have h3 := HO.lst.inj (Option.some.inj h2)
      cases ns with
      | nil => cases h3
      | cons x r => cases (List.cons.inj h3).1
    refine ⟨_, (pss_cons (ps_if (pw_and (pt_cmpR op_eq (pe_ix ix_list (pv 0) pe_int (fun _ _ => rfl)) pe_int (nomark _)) (pw_and1 (pt_cmpR op_lt (pe_ix ix_list (pv 0) pe_int (fun _ _ => rfl)) (pe_callB call_len_seq (by rfl) E.b_len PySem.boot_len (pa_cons (pe_ix ix_list (pv 0) pe_int (fun _ _ => rfl)) pa_nil)) (nomark _)))).pt (pss_cons (ps_asg (pe_callB call_abs (by rfl) E.b_abs (by decide +kernel) (pa_cons (pe_callTy call_int1 (by rfl) E.b_int (by decide +kernel) (pa_cons (pe_ix ix_list (pe_ix ix_list (pv 0) pe_int (fun _ _ => rfl)) (pe_ix ix_list (pv 0) pe_int (fun _ _ => rfl)) (fun _ _ => rfl)) pa_nil)) pa_nil)) (pg_sub (pv 0) pe_int set_list))
      (pss_one (ps_asg (pe_op op_add (pe_ix ix_list (pv 0) pe_int (fun _ _ => rfl)) pe_int) (pg_sub (pv 0) pe_int set_list)))) pss_nil)
      (pss_cons (ps_if (pt_cmpR op_eq (pe_ix ix_list (pv 0) pe_int (fun _ _ => rfl)) pe_int (nomark _)) (pss_cons (ps_asg (pe_op op_mod (pe_callTy call_int1 (by rfl) E.b_int (by decide +kernel) (pa_cons (pe_op op_add (pe_op op_mul (pe_ix ix_list (pv 0) pe_int (fun _ _ => rfl)) pe_int) pe_int) pa_nil)) pe_int) (pg_sub (pv 0) pe_int set_list))
      (pss_one (ps_ret (pe_op op_mod (pe_callTy call_int1 (by rfl) E.b_int (by decide +kernel) (pa_cons (pe_op op_fdivW (pe_ix ix_list (pv 0) pe_int (fun _ _ => rfl)) pe_int) pa_nil)) (pv 1))))) pss_nil)
      (pss_cons (ps_set (i := 2) sc__law_draw.nd rfl (Or.inl rfl) (pe_op op_mod (pe_callTy call_int1 (by rfl) E.b_int (by decide +kernel) (pa_cons (pe_ix ix_list (pv 0) pe_int (fun _ _ => rfl)) pa_nil)) (pv 1)))
      (pss_cons (ps_asg (pe_op op_fdivW (pe_ix ix_list (pv 0) pe_int (fun _ _ => rfl)) (pv 1)) (pg_sub (pv 0) pe_int set_list))
      (pss_one (ps_ret (pv 2))))))), ?_⟩
    refine ⟨_, rfl, _, _, _, _, rfl, rfl, SqL.of h1, atI_nat (j := 1) rfl, rfl, _, rfl, ite2 (fun e => ?_) (fun e => ?_)⟩
    · refine ⟨_, rfl, _, _, _, _, rfl, rfl, SqL.of h1, atI_nat (j := 2) rfl, _, rfl, _, _, _, _, rfl, rfl, SqL.of h1, atI_nat (j := 0) rfl, _, _, rfl, .inl (SqL.of h2), _, _, rfl, rfl, _, rfl, ite2 (fun e1 => ?_) (fun e1 => ?_)⟩
      · have e2 : b < (ns.map V.int).length := of_decide_eq_true e1
        rw [List.length_map] at e2
        have hz : (ns.map V.int)[b.toNat]? = some (V.int (ns[b.toNat]'(by omega))) := by
          rw [List.getElem?_map, List.getElem?_eq_getElem (by omega)]
          rfl
        refine ⟨_, rfl, _, _, _, _, rfl, rfl, SqL.of h1, atI_nat (j := 0) rfl, _, rfl, _, _, _, _, rfl, rfl, SqL.of h1, atI_nat (j := 2) rfl, _, _, _, _, rfl, rfl, SqL.of h2, at_of (j := b.toNat) (by omega) hz, .inl ⟨_, rfl, _, rfl, _, rfl, _, _, _, _, rfl, rfl, h1, rfl, ?_⟩⟩
        refine ⟨_, rfl, _, _, _, _, rfl, rfl, SqL.of upd_same, atI_nat (j := 2) rfl, _, _, rfl, rfl, _, rfl, _, _, _, _, rfl, rfl, upd_same, rfl, ?_⟩
        generalize hH : upd _ p _ = H1
        have hX : ∃ a' b' : Int, H1 p = some (.lst [.ref l, .int a', .int b', .int m]) ∧ 0 ≤ a' ∧ 0 ≤ b' := ⟨_, _, by rw [← hH]; exact upd_same, by split <;> omega, by omega⟩
        have hB : But p H H1 := by rw [← hH]; exact But.put.trans But.put
        have hL : H1 l = some (.lst (ns.map V.int)) := hB l _ nlp h2
        clear hH
        obtain ⟨a', b', hX, ha', hb'⟩ := hX
        refine ⟨_, rfl, _, _, _, _, rfl, rfl, SqL.of hX, atI_nat (j := 1) rfl, rfl, _, rfl, ite2 (fun e3 => ?_) (fun e3 => ?_)⟩
        · refine ⟨_, rfl, _, _, _, _, rfl, rfl, SqL.of hX, atI_nat (j := 3) rfl, _, _, rfl, rfl, .inr ⟨by decide, by decide⟩, _, _, rfl, rfl, .inl ⟨_, rfl, _, _, rfl, rfl, (by decide : (0 : Int) < 2147483647), _, rfl, _, _, _, _, rfl, rfl, hX, rfl, ?_⟩⟩
          refine ⟨_, rfl, _, _, _, _, rfl, rfl, SqL.of upd_same, atI_nat (j := 3) rfl, _, _, rfl, rfl, wide_div (b := 64) (by decide) (by decide) (by decide) (by decide), .inl ⟨_, rfl, _, rfl, _, _, rfl, rfl, hn, ?_⟩⟩
          exact q _ _ (Int.emod_nonneg _ (by omega)) (Int.emod_lt_of_pos _ hn) (hB.trans But.put) ⟨a', b', _, ns, upd_same, by rw [upd_ne nlp]; exact hL, hlen, ha', hb', Int.emod_nonneg _ (by decide), Int.emod_lt_of_pos _ (by decide)⟩
        · refine ⟨_, rfl, _, _, _, _, rfl, rfl, SqL.of hX, atI_nat (j := 1) rfl, .inl ⟨_, rfl, _, rfl, _, _, rfl, rfl, hn, ?_⟩⟩
          refine ⟨_, rfl, _, _, _, _, rfl, rfl, SqL.of hX, atI_nat (j := 1) rfl, _, rfl, _, _, rfl, rfl, wide_div hn hn2 (by decide) (by decide), _, rfl, _, _, _, _, rfl, rfl, hX, rfl, ?_⟩
          refine ⟨_, rfl, ?_⟩
          exact q _ _ (Int.emod_nonneg _ (by omega)) (Int.emod_lt_of_pos _ hn) (hB.trans But.put) ⟨_, b', m, ns, upd_same, by rw [upd_ne nlp]; exact hL, hlen, Int.ediv_nonneg ha' (by omega), hb', hm, hm2⟩
      · have hX : ∃ a' b' : Int, H p = some (.lst [.ref l, .int a', .int b', .int m]) ∧ 0 ≤ a' ∧ 0 ≤ b' := ⟨_, _, h1, ha, hb⟩
        have hB : But p H H := But.refl p H
        have hL := h2
        obtain ⟨a', b', hX, ha', hb'⟩ := hX
        refine ⟨_, rfl, _, _, _, _, rfl, rfl, SqL.of hX, atI_nat (j := 1) rfl, rfl, _, rfl, ite2 (fun e3 => ?_) (fun e3 => ?_)⟩
        · refine ⟨_, rfl, _, _, _, _, rfl, rfl, SqL.of hX, atI_nat (j := 3) rfl, _, _, rfl, rfl, .inr ⟨by decide, by decide⟩, _, _, rfl, rfl, .inl ⟨_, rfl, _, _, rfl, rfl, (by decide : (0 : Int) < 2147483647), _, rfl, _, _, _, _, rfl, rfl, hX, rfl, ?_⟩⟩
          refine ⟨_, rfl, _, _, _, _, rfl, rfl, SqL.of upd_same, atI_nat (j := 3) rfl, _, _, rfl, rfl, wide_div (b := 64) (by decide) (by decide) (by decide) (by decide), .inl ⟨_, rfl, _, rfl, _, _, rfl, rfl, hn, ?_⟩⟩
          exact q _ _ (Int.emod_nonneg _ (by omega)) (Int.emod_lt_of_pos _ hn) (hB.trans But.put) ⟨a', b', _, ns, upd_same, by rw [upd_ne nlp]; exact hL, hlen, ha', hb', Int.emod_nonneg _ (by decide), Int.emod_lt_of_pos _ (by decide)⟩
        · refine ⟨_, rfl, _, _, _, _, rfl, rfl, SqL.of hX, atI_nat (j := 1) rfl, .inl ⟨_, rfl, _, rfl, _, _, rfl, rfl, hn, ?_⟩⟩
          refine ⟨_, rfl, _, _, _, _, rfl, rfl, SqL.of hX, atI_nat (j := 1) rfl, _, rfl, _, _, rfl, rfl, wide_div hn hn2 (by decide) (by decide), _, rfl, _, _, _, _, rfl, rfl, hX, rfl, ?_⟩
          refine ⟨_, rfl, ?_⟩
          exact q _ _ (Int.emod_nonneg _ (by omega)) (Int.emod_lt_of_pos _ hn) (hB.trans But.put) ⟨_, b', m, ns, upd_same, by rw [upd_ne nlp]; exact hL, hlen, Int.ediv_nonneg ha' (by omega), hb', hm, hm2⟩
    · have hX : ∃ a' b' : Int, H p = some (.lst [.ref l, .int a', .int b', .int m]) ∧ 0 ≤ a' ∧ 0 ≤ b' := ⟨_, _, h1, ha, hb⟩
      have hB : But p H H := But.refl p H
      have hL := h2
      obtain ⟨a', b', hX, ha', hb'⟩ := hX
      refine ⟨_, rfl, _, _, _, _, rfl, rfl, SqL.of hX, atI_nat (j := 1) rfl, rfl, _, rfl, ite2 (fun e3 => ?_) (fun e3 => ?_)⟩
      · refine ⟨_, rfl, _, _, _, _, rfl, rfl, SqL.of hX, atI_nat (j := 3) rfl, _, _, rfl, rfl, .inr ⟨by decide, by decide⟩, _, _, rfl, rfl, .inl ⟨_, rfl, _, _, rfl, rfl, (by decide : (0 : Int) < 2147483647), _, rfl, _, _, _, _, rfl, rfl, hX, rfl, ?_⟩⟩
        refine ⟨_, rfl, _, _, _, _, rfl, rfl, SqL.of upd_same, atI_nat (j := 3) rfl, _, _, rfl, rfl, wide_div (b := 64) (by decide) (by decide) (by decide) (by decide), .inl ⟨_, rfl, _, rfl, _, _, rfl, rfl, hn, ?_⟩⟩
        exact q _ _ (Int.emod_nonneg _ (by omega)) (Int.emod_lt_of_pos _ hn) (hB.trans But.put) ⟨a', b', _, ns, upd_same, by rw [upd_ne nlp]; exact hL, hlen, ha', hb', Int.emod_nonneg _ (by decide), Int.emod_lt_of_pos _ (by decide)⟩
      · refine ⟨_, rfl, _, _, _, _, rfl, rfl, SqL.of hX, atI_nat (j := 1) rfl, .inl ⟨_, rfl, _, rfl, _, _, rfl, rfl, hn, ?_⟩⟩
        refine ⟨_, rfl, _, _, _, _, rfl, rfl, SqL.of hX, atI_nat (j := 1) rfl, _, rfl, _, _, rfl, rfl, wide_div hn hn2 (by decide) (by decide), _, rfl, _, _, _, _, rfl, rfl, hX, rfl, ?_⟩
        refine ⟨_, rfl, ?_⟩
        exact q _ _ (Int.emod_nonneg _ (by omega)) (Int.emod_lt_of_pos _ hn) (hB.trans But.put) ⟨_, b', m, ns, upd_same, by rw [upd_ne nlp]; exact hL, hlen, Int.ediv_nonneg ha' (by omega), hb', hm, hm2⟩

theorem ok__law_apply {f : Addr} {fd : FuncData} (F : Fun K "_law_apply" "_law_apply" s__law_apply f fd) (E : Bi K mg)  : FnOk P w K mg base CX0 1 f fd ["table", "term"] (sp__law_apply K) := by
  refine F.ok sc__law_apply (fun vs H Q E h => ?_) (fun cdv A outer s H vs Q E' hr h => ?_)
  · obtain ⟨p, kvs, t, x, ds, rfl, _⟩ := h
    rfl
  · obtain ⟨p, kvs, t, x, ds, rfl, hp, ht, nt, hx, hn, hl, q⟩ := h
    refine ⟨_, (pss_cons (ps_set (i := 2) sc__law_apply.nd rfl (Or.inl rfl) (pe_lst pa_nil))
      (pss_cons (ps_for PassesOwn.never rfl (pi_tup (pv 1)) (pg_name (i := 3) sc__law_apply.nd rfl (Or.inl rfl)) (pss_one (ps_if (pw_and (pt_val (pe_callB call_isi (by rfl) E.b_isinstance (by decide +kernel) (pa_cons (pv 3) (pa_cons (pe_ty "tuple" (by rfl) E.b_tuple (by decide +kernel)) pa_nil)))) (pw_and (pt_cmpR op_eq (pe_ix ix_tup (pv 3) pe_int (fun _ _ => rfl)) pe_str (nomark _)) (pw_and1 (pt_cmp (pc_din (hu_of hr) (pe_ix ix_tup (pv 3) pe_int (fun _ _ => rfl)) (pv 0)))))).pt (pss_one (ps_for PassesOwn.never rfl (pi_tup (pe_dget (hu_of hr) (pv 0) (pe_ix ix_tup (pv 3) pe_int (fun _ _ => rfl)) (fun _ _ => rfl))) (pg_name (i := 4) sc__law_apply.nd rfl (Or.inl rfl)) (pss_one (ps_expr (pe_bm PySem.F.plainAttrs_list PySem.F.slot_list_append PySem.F.type_list_append mt_append (pv 2) (pa_cons (pv 4) pa_nil)))))) (pss_one (ps_expr (pe_bm PySem.F.plainAttrs_list PySem.F.slot_list_append PySem.F.type_list_append mt_append (pv 2) (pa_cons (pv 3) pa_nil)))))))
      (pss_one (ps_ret (pe_callTy call_tuple_of (by rfl) E.b_tuple (by decide +kernel) (pa_cons (pv 2) pa_nil)))))), ?_⟩
    cases id hx with
    | @tup a xs _ hs ha =>
    have hxl := DpAll.len ha
    refine seq_asg ?_
    refine ⟨Nat.zero_le _, fun r nr => ?_⟩
    refine gname (seq_any ?_)
    have s0 : Same H (upd H r (.lst [])) := same_upd nr
    have put : ∀ {H1 : Hp} {o : HO}, Same H H1 → Same H (upd H1 r o) := fun {H1 o} s1 b u e => by rw [upd_ne (ne_of_none e nr)]; exact s1 b u e
    have tf : decide (V.str (Str.ofString "f") = V.str (Str.ofString "v")) = false := by decide +kernel
    refine ⟨_, rfl, a, rfl, ⟨_, same_sqT s0 hs⟩, for_tup (K := K) (a := a) (xs := xs) (fun i σ H' => ∃ (v3 v4 : Option V) (ys : List V), σ = [some (.ref p), some (.ref a), some (.ref r), v3, v4] ∧ Same H H' ∧ H' r = some (.lst ys) ∧ DpAll K H ys (appM t (ds.take i)))
      ⟨none, none, [], rfl, s0, upd_same, .nil⟩ (fun i σ H' _ ⟨_, _, _, _, e, _⟩ => same_sqT e hs) ?_ ?_⟩
    · rintro i z σ H1 hi ⟨v3, v4, ys, rfl, s1, h1, h2⟩
      obtain ⟨d, hd, dz0⟩ := DpAll.getV ha hi
      have ndd := hn d (List.mem_of_getElem? hd)
      have dz := dp_same s1 _ _ dz0
      have hyl := DpAll.len h2
      have b0 := hl i
      have b1 := hl (i + 1)
      rw [appM_take hd, List.length_append] at b1
      have one : ∀ v4 : Option V, appN t d = [d] → ∃ (v3' v4' : Option V) (ys' : List V), [some (V.ref p), some (.ref a), some (.ref r), some z, v4] = [some (.ref p), some (.ref a), some (.ref r), v3', v4'] ∧ Same H (upd H1 r (.lst (ys ++ [z]))) ∧ (upd H1 r (.lst (ys ++ [z]))) r = some (.lst ys') ∧ DpAll K H ys' (appM t (ds.take (i + 1))) := fun v4 e => by
        refine ⟨_, _, ys ++ [z], rfl, put s1, upd_same, ?_⟩
        rw [appM_take hd, e]
        exact DpAll.app h2 (.cons dz0 .nil)
      refine gname ?_
      refine ⟨_, rfl, _, _, _, _, _, rfl, .ty _, tyx_of dz, kit_ty (kitT _), _, rfl, ?_⟩
      obtain ⟨wd, nd⟩ := id ndd
      cases nd with
      | i n z1 z2 =>
        refine iteF (iteF ?_)
        refine ⟨_, rfl, .inl ⟨rfl, _, SqL.of h1⟩, _, rfl, _, _, _, rfl, rfl, h1, small1000 (by omega), ?_⟩
        exact one _ (appN_non (fun z => nomatch z))
      | f x0 n z0 z1 z2 =>
        cases id dz with
        | @tup c zs _ hz az =>
        obtain ⟨v0, hv0, dv0⟩ := DpAll.get (i := 0) az rfl
        cases dv0
        refine iteT ⟨_, rfl, _, _, _, _, rfl, rfl, hz, atI_nat (j := 0) hv0, rfl, _, rfl, ?_⟩
        rw [tf]
        refine iteF (iteF ?_)
        refine ⟨_, rfl, .inl ⟨rfl, _, SqL.of h1⟩, _, rfl, _, _, _, rfl, rfl, h1, small1000 (by omega), ?_⟩
        exact one _ (appN_non (fun z => nomatch z))
      | v n z1 z2 =>
        cases id dz with
        | @tup c zs _ hz az =>
        obtain ⟨v0, hv0, dv0⟩ := DpAll.get (i := 0) az rfl
        obtain ⟨v2, hv2, dv2⟩ := DpAll.get (i := 1) az rfl
        cases dv0
        cases dv2
        refine iteT ⟨_, rfl, _, _, _, _, rfl, rfl, hz, atI_nat (j := 0) hv0, rfl, _, rfl, ?_⟩
        rw [decide_eq_true rfl]
        refine iteT ?_
        refine ⟨_, rfl, _, _, _, _, rfl, rfl, hz, atI_nat (j := 1) hv2, _, rfl, p, _, rfl, DGet.k (k := Sum.inl n) (s1 _ _ hp), _, rfl, ?_⟩
        rcases TabK.val n ht with ⟨w1, w2⟩ | ⟨v', w, w1, w2, w3⟩
        · rw [w1]
          refine iteF ?_
          refine ⟨_, rfl, .inl ⟨rfl, _, SqL.of h1⟩, _, rfl, _, _, _, rfl, rfl, h1, small1000 (by omega), ?_⟩
          exact one _ (appN_out w2)
        · rw [w1]
          refine iteT ?_
          have g12 : DGet H1 p (.int n) (some v') := by
            have := DGet.k (k := Sum.inl n) (s1 _ _ hp)
            rw [w1] at this
            exact this
          rw [appN_in w2] at b1
          cases w3 with
          | @tup c2 ws _ hw aw =>
          have hwl := DpAll.len aw
          refine ⟨_, rfl, _, rfl, _, _, _, _, rfl, rfl, hz, atI_nat (j := 1) hv2, p, _, rfl, g12, c2, rfl, ⟨_, same_sqT s1 hw⟩, for_tup (K := K) (a := c2) (xs := ws) (fun j σ H' => ∃ (v4 : Option V) (ys' : List V), σ = [some (.ref p), some (.ref a), some (.ref r), some (.ref c), v4] ∧ Same H H' ∧ H' r = some (.lst ys') ∧ DpAll K H ys' (appM t (ds.take i) ++ w.take j))
            ⟨v4, ys, rfl, s1, h1, by rw [List.take_zero, List.append_nil]; exact h2⟩ (fun i σ H' _ ⟨_, _, _, e, _⟩ => same_sqT e hw) ?_ ?_⟩
          · rintro j y σ H2 hj ⟨v4, ys', rfl, s2, g1, g2⟩
            obtain ⟨e, he, dy⟩ := DpAll.getV aw hj
            have hl2 := DpAll.len g2
            rw [List.length_append, List.length_take] at hl2
            refine gname ?_
            refine ⟨_, rfl, .inl ⟨rfl, _, SqL.of g1⟩, _, rfl, _, _, _, rfl, rfl, g1, small1000 (by omega), ?_⟩
            refine ⟨_, _, rfl, put s2, upd_same, ?_⟩
            rw [List.take_add_one, he, ← List.append_assoc]
            exact DpAll.app g2 (.cons dy .nil)
          · rintro σ H2 ⟨v4, ys', rfl, s2, g1, g2⟩
            rw [hwl, List.take_length] at g2
            refine ⟨_, _, ys', rfl, s2, g1, ?_⟩
            rw [appM_take hd, appN_in w2]
            exact g2
    · rintro σ H1 ⟨v3, v4, ys, rfl, s1, h1, h2⟩
      rw [hxl, List.take_length] at h2
      refine nxp ?_
      refine ⟨_, rfl, _, _, rfl, .inl ⟨SqL.of h1, fun u nu => ?_⟩⟩
      exact q _ _ (s1.trans (same_upd nu)) (.tup (SqT.of upd_same) (dp_sameAll (s1.trans (same_upd nu)) _ _ h2))

theorem ok__law_whole {f : Addr} {fd : FuncData} (F : Fun K "_law_whole" "_law_whole" s__law_whole f fd) (E : Bi K mg)  : FnOk P w K mg base CX0 1 f fd ["value"] (sp__law_whole K) := by
  refine F.ok sc__law_whole (fun vs H Q E h => ?_) (fun cdv A outer s H vs Q E' hr h => ?_)
  · obtain ⟨x, d, rfl, _⟩ := h
    rfl
  · obtain ⟨x, d, rfl, hd, q⟩ := h
    refine ⟨_, (pss_one (ps_ret (pe_and (pe_callB call_isi (by rfl) E.b_isinstance (by decide +kernel) (pa_cons (pv 0) (pa_cons (pe_ty "int" (by rfl) E.b_int (by decide +kernel)) pa_nil))) (pe_one (pe_not (pe_callB call_isi (by rfl) E.b_isinstance (by decide +kernel) (pa_cons (pv 0) (pa_cons (pe_ty "bool" (by rfl) E.b_bool (by decide +kernel)) pa_nil)))))))), ?_⟩
    refine ⟨x, rfl, _, _, _, _, _, rfl, .ty _, tyx_of hd, kit_ty (kitI _), _, rfl, ite2 (fun e => ?_) (fun e => ?_)⟩
    · refine ⟨x, rfl, _, _, _, _, _, rfl, .ty _, tyx_of hd, kit_ty (kitBo _), _, rfl, ?_⟩
      rw [e, Bool.true_and] at q
      exact q
    · rw [Bool.eq_false_iff.mpr e, Bool.false_and] at q
      exact q

theorem ok__law_same {f : Addr} {fd : FuncData} (F : Fun K "_law_same" "_law_same" s__law_same f fd) (E : Bi K mg)  : FnOk P w K mg base CX0 1 f fd ["table", "rows"] (sp__law_same K) := by
  refine F.ok sc__law_same (fun vs H Q E h => ?_) (fun cdv A outer s H vs Q E' hr h => ?_)
  · obtain ⟨p, r, kvs, t, ys, rfl, _⟩ := h
    rfl
  · obtain ⟨p, r, kvs, t, y0, rfl, hp, ht, nt, dt, lt, hrr, hy, q⟩ := h
    refine ⟨_, (pss_one (ps_ret (pe_cmpR (op_eqD hr.units) (pe_lock (pe_lc (own := [("number", 2)]) (g := gName 2) (tt := tYes) rfl sc__law_same.nd (pi_keys (pv 0)) (blkOk_by (N := N__law_same) (sc := defScope s__law_same) (by decide +kernel)) (fun _ _ _ _ _ => pg_name (i := 2) sc__law_same.nd rfl (Or.inl rfl)) (fun _ _ _ _ _ => pts_nil) (fun _ _ _ _ _ => (pe_tup (pa_cons (pv 2) (pa_cons (pe_dget (hu_of hr) (pv 0) (pv 2) (fun _ _ => rfl)) pa_nil)))))) (pv 1) (nomark _)))), ?_⟩
    refine ⟨p, _, hp, trivial, fun od => ?_⟩
    refine ⟨_, rfl, p, od, rfl, .inl ⟨kvs, upd_same, fun D hD => ?_⟩⟩
    have nf : notTup H p := .inr (.inl ⟨_, hp⟩)
    have TF := tab_put (o := .frz od (.dK kvs)) nf nt ht
    have sD := same_upd (o := .lst []) hD
    have Dp' : D ≠ p := fun z => by rw [z, upd_same] at hD; cases hD
    refine lc_it walk_keys (fun i H' => ∃ ys, Same (upd H p (.frz od (.dK kvs))) H' ∧ H' D = some (.lst ys) ∧ DpAll K H' ys ((t.take i).map rowD) ∧ ys.length = i)
      ⟨[], sD, upd_same, .nil, rfl⟩ (fun i H' _ ⟨_, e, _⟩ => e _ _ upd_same) ?_ ?_
    · rintro i x HB HC hi ⟨ys, sB, b1, b2, b3⟩ ⟨rfl, k, v, hk, rfl⟩
      obtain ⟨qq, hq1, hq2, hq3⟩ := TabK.get TF hk
      have hq2 : k = Sum.inl qq.1 := hq2
      subst hq2
      have hqm := List.mem_of_getElem? hq1
      have TC := tab_same sB nt TF
      have hlt := (List.getElem?_eq_some_iff.mp hq1).1
      have hlt2 := lt
      rcases TabK.val qq.1 TC with ⟨_, w2⟩ | ⟨v1, w1, w2, w3, w4⟩
      · rw [valT_at dt hqm] at w2; cases w2
      · rw [valT_at dt hqm] at w3
        cases w3
        have gg : DGet HC p (.int qq.1) (some v1) := .inl ⟨kvs, Sum.inl qq.1, .inr ⟨od, sB _ _ upd_same⟩, rfl, w2.symm⟩
        refine ⟨rfl, _, rfl, _, rfl, _, rfl, p, v1, rfl, gg, (by show 2 ≤ sizeLine; decide), fun z nz => ?_⟩
        have sz := same_upd (o := .tup [.int qq.1, v1]) nz
        have e2 := sz _ _ b1
        have nt2 : notTup (upd HC z (.tup [.int qq.1, v1])) D := .inl ⟨_, e2⟩
        refine ⟨ys, e2, small1000 (by omega), ys ++ [.ref z], (fun b o e => by rw [upd_ne (ne_of_none e hD)]; exact sz _ _ (sB _ _ e)), upd_same, ?_, by rw [List.length_append, b3]; rfl⟩
        rw [List.take_add_one, hq1, List.map_append]
        exact DpAll.app (dp_putAll nt2 _ _ (rows_noL fun x hx => nt x (List.mem_of_mem_take hx)) (dp_sameAll sz _ _ b2)) (.cons (dp_put nt2 _ _ (row_noL (nt qq hqm)) (.tup (SqT.of upd_same) (.cons (.int _) (.cons (dp_same sz _ _ w4) .nil)))) .nil)
    · rintro HB ⟨ys, sB, b1, b2, b3⟩
      rw [TabK.len ht, List.take_length] at b2
      have fB := sB _ _ upd_same
      have nB : notTup HB p := .inr (.inr ⟨_, _, fB⟩)
      have b4 := dp_putAll (o := .dK kvs) nB _ _ (rows_noL nt) b2
      have b5 := keep_frz hp sB
      have b6 : (upd HB p (.dK kvs)) D = some (.lst ys) := by rw [upd_ne Dp']; exact b1
      refine ⟨fB, ?_⟩
      have h9 := b5 _ _ hrr
      exact ⟨_, rfl, _, _, .lst (SqL.of b6) b4, .lst (SqL.of h9) (dp_sameAll b5 _ _ hy), rows_shaped nt, rows_shaped nt, by
        have e : PyData.eqv (.list (t.map rowD)) (.list (t.map rowD)) = true := by simp only [PyData.eqv]; exact rows_eqv nt
        rw [e]
        exact q _ b5⟩

theorem ok_apply {f : Addr} {fd : FuncData} (F : Fun K "apply" "apply" s_apply f fd) (E : Bi K mg) (D_is_variable : Has P w K mg base 1 "is_variable" ["node"] (sp_is_variable K)) : FnOk P w K mg base CX0 2 f fd ["substitution", "term"] (sp_apply K) := by
  obtain ⟨f_is_variable, fd_is_variable, G_is_variable, g_is_variable, kp_is_variable, b_is_variable⟩ := D_is_variable
  refine F.ok sc_apply (fun vs H Q E h => ?_) (fun cdv A outer s H vs Q E' hr h => ?_)
  · obtain ⟨p, kvs, t, x, ds, rfl, _⟩ := h
    rfl
  · obtain ⟨p, kvs, t, x, ds, rfl, hp, ht, nt, hx, hn, hl, q⟩ := h
    refine ⟨_, (pss_cons (ps_set (i := 2) sc_apply.nd rfl (Or.inl rfl) (pe_lst pa_nil))
      (pss_cons (ps_for PassesOwn.never rfl (pi_tup (pv 1)) (pg_name (i := 3) sc_apply.nd rfl (Or.inl rfl)) (pss_one (ps_if (pw_and (pt_val (pe_call G_is_variable (hr.mono (by decide)) (by rfl) g_is_variable kp_is_variable b_is_variable .nil pass0 (pa_cons (pv 3) pa_nil))) (pw_and1 (pt_cmp (pc_din (hu_of hr) (pe_ix ix_tup (pv 3) pe_int (fun _ _ => rfl)) (pv 0))))).pt (pss_one (ps_expr (pe_bm PySem.F.plainAttrs_list PySem.F.slot_list_extend PySem.F.type_list_extend mt_extT (pv 2) (pa_cons (pe_dget (hu_of hr) (pv 0) (pe_ix ix_tup (pv 3) pe_int (fun _ _ => rfl)) (fun _ _ => rfl)) pa_nil)))) (pss_one (ps_expr (pe_bm PySem.F.plainAttrs_list PySem.F.slot_list_append PySem.F.type_list_append mt_append (pv 2) (pa_cons (pv 3) pa_nil)))))))
      (pss_one (ps_ret (pe_callTy call_tuple_of (by rfl) E.b_tuple (by decide +kernel) (pa_cons (pv 2) pa_nil)))))), ?_⟩
    cases id hx with
    | @tup a xs _ hs ha =>
    have hxl := DpAll.len ha
    refine seq_asg ?_
    refine ⟨Nat.zero_le _, fun r nr => ?_⟩
    refine gname (seq_any ?_)
    have s0 : Same H (upd H r (.lst [])) := same_upd nr
    have put : ∀ {H1 : Hp} {o : HO}, Same H H1 → Same H (upd H1 r o) := fun {H1 o} s1 b u e => by rw [upd_ne (ne_of_none e nr)]; exact s1 b u e
    refine ⟨_, rfl, a, rfl, ⟨_, same_sqT s0 hs⟩, for_tup (K := K) (a := a) (xs := xs) (fun i σ H' => ∃ (v3 : Option V) (ys : List V), σ = [some (.ref p), some (.ref a), some (.ref r), v3] ∧ Same H H' ∧ H' r = some (.lst ys) ∧ DpAll K H ys (appM t (ds.take i)))
      ⟨none, [], rfl, s0, upd_same, .nil⟩ (fun i σ H' _ ⟨_, _, _, e, _⟩ => same_sqT e hs) ?_ ?_⟩
    · rintro i z σ H1 hi ⟨v3, ys, rfl, s1, h1, h2⟩
      obtain ⟨d, hd, dz0⟩ := DpAll.getV ha hi
      have ndd := hn d (List.mem_of_getElem? hd)
      have dz := dp_same s1 _ _ dz0
      have hyl := DpAll.len h2
      have b0 := hl i
      have b1 := hl (i + 1)
      rw [appM_take hd, List.length_append] at b1
      have one : appN t d = [d] → ∃ (v3' : Option V) (ys' : List V), [some (V.ref p), some (.ref a), some (.ref r), some z] = [some (V.ref p), some (.ref a), some (.ref r), v3'] ∧ Same H (upd H1 r (.lst (ys ++ [z]))) ∧ (upd H1 r (.lst (ys ++ [z]))) r = some (.lst ys') ∧ DpAll K H ys' (appM t (ds.take (i + 1))) := fun e => by
        refine ⟨_, ys ++ [z], rfl, put s1, upd_same, ?_⟩
        rw [appM_take hd, e]
        exact DpAll.app h2 (.cons dz0 .nil)
      refine gname ?_
      refine ⟨_, rfl, z, d, rfl, dz, ndd, _, rfl, ite2 (fun v => ?_) (fun v => ?_)⟩
      · obtain ⟨n, rfl⟩ := var_form ndd v
        cases id dz with
        | @tup c zs _ hz az =>
        obtain ⟨v2, hv2, dv2⟩ := DpAll.get (i := 1) az rfl
        cases dv2
        refine ⟨_, rfl, _, _, _, _, rfl, rfl, hz, atI_nat (j := 1) hv2, _, rfl, p, _, rfl, DGet.k (k := Sum.inl n) (s1 _ _ hp), _, rfl, ?_⟩
        rcases TabK.val n ht with ⟨w1, w2⟩ | ⟨v', w, w1, w2, w3⟩
        · rw [w1]
          refine iteF ?_
          refine ⟨_, rfl, .inl ⟨rfl, _, SqL.of h1⟩, _, rfl, _, _, _, rfl, rfl, h1, small1000 (by omega), ?_⟩
          exact one (appN_out w2)
        · rw [w1]
          refine iteT ?_
          have g12 : DGet H1 p (.int n) (some v') := by
            have := DGet.k (k := Sum.inl n) (s1 _ _ hp)
            rw [w1] at this
            exact this
          rw [appN_in w2] at b1
          cases w3 with
          | @tup c2 ws _ hw aw =>
          have hwl := DpAll.len aw
          refine ⟨_, rfl, .inl ⟨rfl, _, SqL.of h1⟩, _, rfl, _, rfl, _, _, _, _, rfl, rfl, hz, atI_nat (j := 1) hv2, p, _, rfl, g12, _, _, _, _, rfl, rfl, h1, same_sqT s1 hw, small_of (by omega), ?_⟩
          refine ⟨_, _, rfl, put s1, upd_same, ?_⟩
          rw [appM_take hd, appN_in w2]
          exact DpAll.app h2 aw
      · refine iteF ?_
        refine ⟨_, rfl, .inl ⟨rfl, _, SqL.of h1⟩, _, rfl, _, _, _, rfl, rfl, h1, small1000 (by omega), ?_⟩
        exact one (appN_non v)
    · rintro σ H1 ⟨v3, ys, rfl, s1, h1, h2⟩
      rw [hxl, List.take_length] at h2
      refine nxp ?_
      refine ⟨_, rfl, _, _, rfl, .inl ⟨SqL.of h1, fun u nu => ?_⟩⟩
      exact q _ _ (s1.trans (same_upd nu)) (.tup (SqT.of upd_same) (dp_sameAll (s1.trans (same_upd nu)) _ _ h2))

theorem ok__law_name {f : Addr} {fd : FuncData} (F : Fun K "_law_name" "_law_name" s__law_name f fd) (E : Bi K mg) (D__law_draw : Has P w K mg base 1 "_law_draw" ["stream", "many"] (sp__law_draw K)) : FnOk P w K mg base CX0 2 f fd ["stream"] (sp__law_name K) := by
  obtain ⟨f__law_draw, fd__law_draw, G__law_draw, g__law_draw, kp__law_draw, b__law_draw⟩ := D__law_draw
  refine F.ok sc__law_name (fun vs H Q E h => ?_) (fun cdv A outer s H vs Q E' hr h => ?_)
  · obtain ⟨s, l, rfl, _⟩ := h
    rfl
  · obtain ⟨s, l, rfl, hS, q⟩ := h
    have n9 : (2 : Nat) ^ 8 ≤ 2 ^ 9000 := Nat.pow_le_pow_right (by decide) (by decide)
    refine ⟨_, (pss_cons (ps_set (i := 1) sc__law_name.nd rfl (Or.inl rfl) (pe_lst (pa_cons pe_str (pa_cons pe_str (pa_cons pe_str (pa_cons pe_str (pa_cons pe_str (pa_cons pe_str (pa_cons pe_str (pa_cons pe_str (pa_cons pe_str (pa_cons pe_str (pa_cons pe_str (pa_cons pe_str (pa_cons pe_str (pa_cons pe_str (pa_cons pe_str (pa_cons pe_str (pa_cons pe_str (pa_cons pe_str (pa_cons pe_str (pa_cons pe_str pa_nil))))))))))))))))))))))
      (pss_cons (ps_if (pt_cmpR op_gt (pe_call G__law_draw (hr.mono (by decide)) (by rfl) g__law_draw kp__law_draw b__law_draw .nil pass0 (pa_cons (pv 0) (pa_cons pe_int pa_nil))) pe_int (nomark _)) (pss_one (ps_ret (pe_ix ix_list (pv 1) (pe_call G__law_draw (hr.mono (by decide)) (by rfl) g__law_draw kp__law_draw b__law_draw .nil pass0 (pa_cons (pv 0) (pa_cons pe_int pa_nil))) (fun _ _ => rfl)))) pss_nil)
      (pss_cons (ps_if (pt_cmpR op_gt (pe_call G__law_draw (hr.mono (by decide)) (by rfl) g__law_draw kp__law_draw b__law_draw .nil pass0 (pa_cons (pv 0) (pa_cons pe_int pa_nil))) pe_int (nomark _)) (pss_one (ps_ret (pe_ix ix_list (pv 1) (pe_call G__law_draw (hr.mono (by decide)) (by rfl) g__law_draw kp__law_draw b__law_draw .nil pass0 (pa_cons (pv 0) (pa_cons (pe_callB call_len_seq (by rfl) E.b_len PySem.boot_len (pa_cons (pv 1) pa_nil)) pa_nil))) (fun _ _ => rfl)))) pss_nil)
      (pss_cons (ps_set (i := 2) sc__law_name.nd rfl (Or.inr rfl) pe_str)
      (pss_cons (ps_set (i := 2) sc__law_name.nd rfl (Or.inr rfl) (pe_op op_add_str (pv 2) pe_str))
      (pss_one (ps_ret (pe_m1 PySem.F.slot_str_join PySem.F.type_str_join mt_join pe_str (pe_lc (own := [("k", 3)]) (g := gName 3) (tt := tYes) rfl sc__law_name.nd (pi_range1 (by rfl) E.b_range (pa_cons (pe_op op_add pe_int (pe_call G__law_draw (hr.mono (by decide)) (by rfl) g__law_draw kp__law_draw b__law_draw .nil pass0 (pa_cons (pv 0) (pa_cons pe_int pa_nil)))) pa_nil)) (blkOk_by (N := N__law_name) (sc := defScope s__law_name) (by decide +kernel)) (fun _ _ _ _ _ => pg_name (i := 3) sc__law_name.nd rfl (Or.inl rfl)) (fun _ _ _ _ _ => pts_nil) (fun _ _ _ _ _ => (pe_ix ix_str (pv 2) (pe_call G__law_draw (hr.mono (by decide)) (by rfl) g__law_draw kp__law_draw b__law_draw .nil pass0 (pa_cons (pv 0) (pa_cons (pe_callB call_len_str (by rfl) E.b_len PySem.boot_len (pa_cons (pv 2) pa_nil)) pa_nil))) (fun _ _ => rfl)))))))))))), ?_⟩
    refine seq_asg ?_
    refine lit_lst (K := K) (ds := names20.map PyData.str) ?_ (by decide) H _ fun v0 H0 t0 i0 => ?_
    · unfold names20
      simp only [List.map_cons, List.map_nil]
      walk_at "lits"
    cases i0 with
    | @lst p0 xs0 _ g0 e0 a0 =>
    obtain ⟨os, hos⟩ := hS.at_s
    have np : p0 ≠ s := fun z => by
      rw [z, hos] at g0
      cases g0
    have hl0 : xs0.length = 20 := by rw [a0.len, List.length_map]; decide
    have pick : ∀ (r : Int) (H' : Hp), 0 ≤ r → r < 20 → But s H H' → H' p0 = some (.lst xs0) → Stm H' s l → ∃ x, atI xs0 r = some (.str x) ∧ Q (.str x) H' := by
      intro r H' r0 r1 hB e1 St
      have hr : r.toNat < names20.length := by
        have : names20.length = 20 := by decide
        omega
      have hd : (names20.map PyData.str)[r.toNat]? = some (.str names20[r.toNat]) := by
        rw [List.getElem?_map, List.getElem?_eq_getElem hr]
        rfl
      obtain ⟨v, hv, iv⟩ := ImAll.get a0 hd
      cases iv
      exact ⟨_, at_of (j := r.toNat) (by omega) hv, q _ _ (List.all_eq_true.mp names20_ok _ (List.getElem_mem hr)) hB St⟩
    refine gname (seq_ifN ?_)
    refine ⟨_, rfl, s, l, 3, rfl, hS.keep t0, by decide, Nat.lt_of_lt_of_le (by decide) n9, fun r1 H1 _ _ hB1 S1 => ⟨_, _, rfl, rfl, _, rfl, ite2 (fun e => ?_) (fun e => ?_)⟩⟩
    · refine ⟨_, rfl, _, rfl, s, l, 4, rfl, S1, by decide, Nat.lt_of_lt_of_le (by decide) n9, fun r2 H2 r20 r21 hB2 S2 => ?_⟩
      obtain ⟨x, hx, hq⟩ := pick r2 H2 r20 (by omega) (((But.of t0).trans hB1).trans hB2) (hB2 _ _ np (hB1 _ _ np e0)) S2
      exact ⟨_, _, _, _, rfl, rfl, SqL.of (hB2 _ _ np (hB1 _ _ np e0)), hx, hq⟩
    · refine seq_ifN ?_
      refine ⟨_, rfl, s, l, 4, rfl, S1, by decide, Nat.lt_of_lt_of_le (by decide) n9, fun r2 H2 _ _ hB2 S2 => ⟨_, _, rfl, rfl, _, rfl, ite2 (fun e => ?_) (fun e => ?_)⟩⟩
      · refine ⟨_, rfl, _, rfl, _, rfl, _, _, rfl, .inl (SqL.of (hB2 _ _ np (hB1 _ _ np e0))), s, l, _, rfl, S2, by rw [hl0]; decide, by rw [hl0]; exact Nat.lt_of_lt_of_le (by decide) n9, fun r3 H3 r30 r31 hB3 S3 => ?_⟩
        obtain ⟨x, hx, hq⟩ := pick r3 H3 r30 (by rw [hl0] at r31; exact r31) ((((But.of t0).trans hB1).trans hB2).trans hB3) (hB3 _ _ np (hB2 _ _ np (hB1 _ _ np e0))) S3
        exact ⟨_, _, _, _, rfl, rfl, SqL.of (hB3 _ _ np (hB2 _ _ np (hB1 _ _ np e0))), hx, hq⟩
      · refine seq_asg (gname (seq_asg ?_))
        refine ⟨_, rfl, _, _, rfl, rfl, by decide +kernel, ?_⟩
        refine gname ?_
        have hB : But s H H2 := ((But.of t0).trans hB1).trans hB2
        refine ⟨⟨_, rfl⟩, ?_⟩
        refine ⟨_, rfl, s, l, 40, rfl, S2, by decide, Nat.lt_of_lt_of_le (by decide) n9, fun n H3 n0 n1 hB3 S3 => ⟨_, _, rfl, rfl, _, rfl, by omega, by omega, fun D hD => ?_⟩⟩
        obtain ⟨os3, hos3⟩ := S3.at_s
        obtain ⟨ol3, hol3⟩ := S3.at_l
        have sD : s ≠ D := ne_of_none hos3 hD
        have lD : l ≠ D := ne_of_none hol3 hD
        refine lc_range (fun i H' => ∃ cs : List Nat, H' D = some (.lst ((cs.map fun c => (⟨#[c]⟩ : Str)).map V.str)) ∧ cs.length = i ∧ cs.all okSign = true ∧ Stm H' s l ∧ (∀ b o, b ≠ s → b ≠ D → H3 b = some o → H' b = some o))
          ⟨[], upd_same, rfl, rfl, S3.put sD lD, fun b o _ h2 e => by rw [upd_ne h2]; exact e⟩ ?_ ?_
        · rintro i H4 hi ⟨cs, h1, h2, h3, h4, h5⟩
          refine ⟨rfl, _, rfl, _, rfl, _, rfl, _, rfl, (show signs.length ≤ sizeLine from by rw [signs_len]; decide), s, l, _, rfl, h4, (show (0 : Int) < (signs.length : Int) from by rw [signs_len]; decide),
            (show ((signs.length : Nat) : Int).natAbs < 2 ^ 9000 from by rw [signs_len]; exact Nat.lt_of_lt_of_le (by decide) n9), fun r H5 r0 r1 hB5 S5 => ?_⟩
          have r2 : r < (signs.length : Int) := r1
          have hr : r.toNat < signs.cps.toList.length := by
            have : signs.cps.toList.length = signs.length := by simp [Str.length]
            omega
          have hc : signs.cps.toList[r.toNat]? = some signs.cps.toList[r.toNat] := List.getElem?_eq_getElem hr
          have ok : okSign signs.cps.toList[r.toNat] = true := List.all_eq_true.mp signs_ok _ (List.getElem_mem hr)
          generalize signs.cps.toList[r.toNat] = c at hc ok
          refine ⟨_, _, c, rfl, rfl, (show signs.length ≤ sizeLine from by rw [signs_len]; decide), ?_, _, hB5 _ _ sD.symm h1, ?_, cs ++ [c], ?_, ?_, ?_, S5.put sD lD, fun b o hb1 hb2 e => ?_⟩
          · rw [show r = ((r.toNat : Nat) : Int) by omega]
            exact atI_nat hc
          · rw [List.length_map, List.length_map, h2]
            exact small1000 (by omega)
          · rw [upd_same, List.map_append, List.map_append]
            rfl
          · rw [List.length_append, h2]; rfl
          · rw [List.all_append, h3]
            show (true && (okSign c && true)) = true
            rw [ok]; rfl
          · rw [upd_ne hb2]
            exact hB5 b o hb1 (h5 b o hb1 hb2 e)
        · rintro H4 ⟨cs, h1, h2, h3, h4, h5⟩
          refine ⟨_, _, cs.map fun c => ⟨#[c]⟩, rfl, rfl, .inl (SqL.of h1), ?_, ?_⟩
          · rw [List.length_map, List.map_map, show (cs.map ((fun x : Str => x.length) ∘ fun c => (⟨#[c]⟩ : Str))).sum = cs.length from ?_]
            · show cs.length + cs.length * 0 ≤ 16777216
              omega
            · clear h1 h2 h3
              induction cs with
              | nil => rfl
              | cons c r ih =>
                rw [List.map_cons, List.sum_cons, ih, List.length_cons]
                show 1 + r.length = r.length + 1
                omega
          · rw [TL.join_eq]
            have ec := join_ones (Str.ofString "") (by decide +kernel) cs
            refine q _ H4 ?_ (fun b o hb e => h5 b o hb (fun z => ?_) (hB3 b o hb (hB b o hb e))) h4
            · unfold okName
              have el : (Str.join (Str.ofString "") (cs.map fun c => (⟨#[c]⟩ : Str))).length = cs.length := by
                show (Str.join (Str.ofString "") (cs.map fun c => (⟨#[c]⟩ : Str))).cps.size = _
                rw [← Array.length_toList, ec]
              rw [el, ec, h3, decide_eq_true (show 1 ≤ cs.length by omega), decide_eq_true (show cs.length ≤ 40 by omega)]
              rfl
            · rw [z] at e
              rw [hB3 _ _ (fun z => by subst z; exact sD rfl) (hB _ _ (fun z => by subst z; exact sD rfl) e)] at hD
              cases hD

theorem ok__law_arity {f : Addr} {fd : FuncData} (F : Fun K "_law_arity" "_law_arity" s__law_arity f fd) (E : Bi K mg) (D__law_whole : Has P w K mg base 1 "_law_whole" ["value"] (sp__law_whole K)) : FnOk P w K mg base CX0 2 f fd ["value"] (sp__law_arity K) := by
  obtain ⟨f__law_whole, fd__law_whole, G__law_whole, g__law_whole, kp__law_whole, b__law_whole⟩ := D__law_whole
  refine F.ok sc__law_arity (fun vs H Q E h => ?_) (fun cdv A outer s H vs Q E' hr h => ?_)
  · obtain ⟨x, d, rfl, _⟩ := h
    rfl
  · obtain ⟨x, d, rfl, hd, hn, q⟩ := h
    refine ⟨_, (pss_cons (ps_if (pt_val (pe_call G__law_whole (hr.mono (by decide)) (by rfl) g__law_whole kp__law_whole b__law_whole .nil pass0 (pa_cons (pv 0) pa_nil))) (pss_one (ps_ret pe_int)) pss_nil)
      (pss_cons (ps_if (pw_or (pt_not (pt_val (pe_callB call_isi (by rfl) E.b_isinstance (by decide +kernel) (pa_cons (pv 0) (pa_cons (pe_ty "tuple" (by rfl) E.b_tuple (by decide +kernel)) pa_nil))))) (pw_or (pt_cmpR op_lt (pe_callB call_len_seq (by rfl) E.b_len PySem.boot_len (pa_cons (pv 0) pa_nil)) pe_int (nomark _)) (pw_or1 (pt_not (pt_val (pe_call G__law_whole (hr.mono (by decide)) (by rfl) g__law_whole kp__law_whole b__law_whole .nil pass0 (pa_cons (pe_ix ix_tup (pv 0) (pe_op op_sub (pe_callB call_len_seq (by rfl) E.b_len PySem.boot_len (pa_cons (pv 0) pa_nil)) pe_int) (fun _ _ => rfl)) pa_nil))))))).pt (pss_one (ps_ret (pe_un un_neg pe_int))) pss_nil)
      (pss_cons (ps_if (pw_and (pt_cmpR op_eq (pe_ix ix_tup (pv 0) pe_int (fun _ _ => rfl)) pe_str (nomark _)) (pw_and (pt_cmpR op_eq (pe_callB call_len_seq (by rfl) E.b_len PySem.boot_len (pa_cons (pv 0) pa_nil)) pe_int (nomark _)) (pw_and1 (pt_cmpR op_ge (pe_ix ix_tup (pv 0) pe_int (fun _ _ => rfl)) pe_int (nomark _))))).pt (pss_one (ps_ret pe_int)) pss_nil)
      (pss_cons (ps_if (pw_and (pt_cmpR op_eq (pe_ix ix_tup (pv 0) pe_int (fun _ _ => rfl)) pe_str (nomark _)) (pw_and (pt_cmpR op_eq (pe_callB call_len_seq (by rfl) E.b_len PySem.boot_len (pa_cons (pv 0) pa_nil)) pe_int (nomark _)) (pw_and (pt_val (pe_callB call_isi (by rfl) E.b_isinstance (by decide +kernel) (pa_cons (pe_ix ix_tup (pv 0) pe_int (fun _ _ => rfl)) (pa_cons (pe_ty "str" (by rfl) E.b_str (by decide +kernel)) pa_nil)))) (pw_and1 (pt_chain op_le op_le pe_int (pe_ix ix_tup (pv 0) pe_int (fun _ _ => rfl)) pe_int))))).pt (pss_one (ps_ret (pe_ix ix_tup (pv 0) pe_int (fun _ _ => rfl)))) pss_nil)
      (pss_one (ps_ret (pe_un un_neg pe_int))))))), ?_⟩
    obtain ⟨wd, nd⟩ := id hn
    refine seq_ifN ?_
    refine ⟨_, rfl, x, d, rfl, hd, _, rfl, ?_⟩
    cases nd with
    | i n z1 z2 => exact iteT q
    | v n z1 z2 =>
      refine iteF (seq_ifN ?_)
      cases id hd with
      | @tup a xs _ hs ha =>
      cases ha with
      | cons d1 ha =>
      cases ha with
      | cons d2 ha =>
      cases ha
      cases d1
      cases d2
      refine ⟨_, rfl, _, _, _, _, _, rfl, .ty _, tyx_of hd, kit_ty (kitT _), _, rfl, iteF ?_⟩
      refine ⟨_, rfl, _, _, rfl, .inr hs, _, _, rfl, rfl, _, rfl, ite2 (fun z => absurd z (show ¬ decide ((2 : Int) < 2) = true from by decide)) (fun _ => ?_)⟩
      refine ⟨_, rfl, _, rfl, _, _, rfl, .inr hs, _, _, rfl, rfl, _, _, _, _, rfl, rfl, hs, atI_nat (j := 1) rfl, _, .int n, rfl, .int n, _, rfl, iteF (seq_ifN ?_)⟩
      refine ⟨_, rfl, _, _, _, _, rfl, rfl, hs, atI_nat (j := 0) rfl, rfl, _, rfl, ?_⟩
      rw [decide_eq_true rfl]
      refine iteT ⟨_, rfl, _, _, rfl, .inr hs, rfl, _, rfl, ?_⟩
      refine iteT ⟨_, rfl, _, _, _, _, rfl, rfl, hs, atI_nat (j := 1) rfl, _, _, rfl, rfl, _, rfl, ?_⟩
      rw [decide_eq_true z1]
      exact iteT q
    | f y n z0 z1 z2 =>
      refine iteF (seq_ifN ?_)
      cases id hd with
      | @tup a xs _ hs ha =>
      cases ha with
      | cons d1 ha =>
      cases ha with
      | cons d2 ha =>
      cases ha with
      | cons d3 ha =>
      cases ha
      cases d1
      cases d2
      cases d3
      refine ⟨_, rfl, _, _, _, _, _, rfl, .ty _, tyx_of hd, kit_ty (kitT _), _, rfl, iteF ?_⟩
      refine ⟨_, rfl, _, _, rfl, .inr hs, _, _, rfl, rfl, _, rfl, ite2 (fun z => absurd z (show ¬ decide ((3 : Int) < 2) = true from by decide)) (fun _ => ?_)⟩
      refine ⟨_, rfl, _, rfl, _, _, rfl, .inr hs, _, _, rfl, rfl, _, _, _, _, rfl, rfl, hs, atI_nat (j := 2) rfl, _, .int n, rfl, .int n, _, rfl, iteF (seq_ifN ?_)⟩
      refine ⟨_, rfl, _, _, _, _, rfl, rfl, hs, atI_nat (j := 0) rfl, rfl, _, rfl, ?_⟩
      rw [show decide (V.str (Str.ofString "f") = V.str (Str.ofString "v")) = false by decide +kernel]
      refine iteF (iteF (seq_ifN ?_))
      refine ⟨_, rfl, _, _, _, _, rfl, rfl, hs, atI_nat (j := 0) rfl, rfl, _, rfl, ?_⟩
      rw [decide_eq_true rfl]
      refine iteT ⟨_, rfl, _, _, rfl, .inr hs, rfl, _, rfl, ?_⟩
      refine iteT ⟨_, rfl, _, _, _, _, rfl, rfl, hs, atI_nat (j := 1) rfl, _, _, _, _, _, rfl, .ty _, tyx_of (show Dp K H (V.str y) (.str y) from .str y), kit_ty (kitS _), _, rfl, ?_⟩
      refine iteT ⟨_, rfl, _, _, _, _, rfl, rfl, hs, atI_nat (j := 2) rfl, _, _, rfl, rfl, _, rfl, ite2 (fun _ => ?_) (fun z => absurd (decide_eq_true z1) z)⟩
      refine ⟨_, _, rfl, rfl, _, rfl, ite2 (fun _ => ?_) (fun z => absurd (decide_eq_true z2) z)⟩
      refine ⟨_, rfl, _, _, _, _, rfl, rfl, hs, atI_nat (j := 2) rfl, ?_⟩
      have e : ((arN (.tuple [.str "f", .str y, .int n]) : Nat) : Int) = n := Int.toNat_of_nonneg z1
      rw [e] at q
      exact q

theorem ok_compose {f : Addr} {fd : FuncData} (F : Fun K "compose" "compose" s_compose f fd) (E : Bi K mg) (D_apply : Has P w K mg base 2 "apply" ["substitution", "term"] (sp_apply K)) : FnOk P w K mg base CX0 3 f fd ["first", "second"] (sp_compose K) := by
  obtain ⟨f_apply, fd_apply, G_apply, g_apply, kp_apply, b_apply⟩ := D_apply
  refine F.ok sc_compose (fun vs H Q E h => ?_) (fun cdv A outer s H vs Q E' hr h => ?_)
  · obtain ⟨p, q, k1, k2, t, u, rfl, _⟩ := h
    rfl
  · obtain ⟨p, q, k1, k2, t, u, rfl, pq, hp, hq, T, U, nt, nu, dt, du, lt, lu, t0, u0, hb, Q1⟩ := h
    refine ⟨_, (pss_cons (ps_lock (ps_setDc (i := 2) (own := [("number", 3), ("value", 4)]) (g := gTup K 2 (gCons (gName 3) (gCons (gName 4) gNil))) (tt := tYes) rfl sc_compose.nd rfl rfl (by rfl) (pi_items (pv 0)) (blkOk_by (N := N_compose) (sc := defScope s_compose) (by decide +kernel)) (fun _ _ _ _ _ => pg_tup rfl (pgs_cons (pg_name (i := 3) sc_compose.nd rfl (Or.inl rfl)) (pgs_cons (pg_name (i := 4) sc_compose.nd rfl (Or.inl rfl)) pgs_nil))) (fun _ _ _ _ _ => pts_nil) (fun _ _ _ _ _ => (pv 3)) (fun _ _ _ _ _ => (pe_call G_apply (hr.mono (by decide)) (by rfl) g_apply kp_apply b_apply .nil pass0 (pa_cons (pv 1) (pa_cons (pv 4) pa_nil))))))
      (pss_cons (ps_lock (ps_for PassesOwn.never rfl (pi_items (pv 1)) (pg_tup rfl (pgs_cons (pg_name (i := 3) sc_compose.nd rfl (Or.inl rfl)) (pgs_cons (pg_name (i := 4) sc_compose.nd rfl (Or.inl rfl)) pgs_nil))) (pss_one (ps_if (pt_cmp (pc_dnotin (hu_of hr) (pv 3) (pv 2))) (pss_one (ps_dput (hu_of hr) (pv 2) (pv 3) (pv 4) (by rfl))) pss_nil))))
      (pss_one (ps_ret (pe_lock (pe_dc (own := [("number", 3), ("value", 4)]) (g := gTup K 2 (gCons (gName 3) (gCons (gName 4) gNil))) rfl sc_compose.nd (pi_items (pv 2)) (blkOk_by (N := N_compose) (sc := defScope s_compose) (by decide +kernel)) (fun _ _ _ _ _ => pg_tup rfl (pgs_cons (pg_name (i := 3) sc_compose.nd rfl (Or.inl rfl)) (pgs_cons (pg_name (i := 4) sc_compose.nd rfl (Or.inl rfl)) pgs_nil))) (fun _ _ _ _ _ => pts_one (pt_cmpR (show OpR _ (compareOp .NotEq) (rNeD K) from op_neD hr.units) (pv 4) (pe_tup (pa_cons (pe_tup (pa_cons pe_str (pa_cons (pv 3) pa_nil))) pa_nil)) (nomark _))) (fun _ _ _ _ _ => (pv 3)) (fun _ _ _ _ _ => (pv 4)))))))), ?_⟩
    have lk1 := TabK.len T
    have lk2 := TabK.len U
    refine seq_any ?_
    refine ⟨p, .dK k1, hp, trivial, fun od => ?_⟩
    refine asg1 ?_
    have nf : notTup H p := .inr (.inl ⟨_, hp⟩)
    have TL := tab_put (o := .frz od (.dK k1)) nf nt T
    have UL := tab_put (o := .frz od (.dK k1)) nf nu U
    have eq0 : (upd H p (.frz od (.dK k1))) q = some (.dK k2) := by rw [upd_ne pq.symm]; exact hq
    have keep : ∀ H', Same (upd H p (.frz od (.dK k1))) H' → Same H (upd H' p (.dK k1)) := fun H' s b o e => by
      by_cases z : b = p
      · subst z
        rw [hp] at e
        rw [upd_same]
        exact e
      · rw [upd_ne z]
        exact s _ _ (by rw [upd_ne z]; exact e)
    refine ⟨_, rfl, p, od, k1, rfl, upd_same, fun r nr => ?_⟩
    have nrH : H r = Option.none := by
      by_cases z : r = p
      · rw [z, upd_same] at nr; cases nr
      · rw [upd_ne z] at nr; exact nr
    have rp : r ≠ p := fun z => by rw [z, upd_same] at nr; cases nr
    refine dc_it walk_items (fun i H' => ∃ kvs, Same (upd H p (.frz od (.dK k1))) H' ∧ H' r = some (.dK kvs) ∧ TabK K H' kvs (comp1 (t.take i) u))
      ⟨[], same_upd nr, upd_same, True.intro⟩ (fun i H' _ ⟨_, e, _⟩ => e _ _ upd_same) ?_ ?_
    · rintro i x H1 H2 hi ⟨kvs, s1, e1, T1⟩ ⟨A1, x1, x2, rfl, nA, rfl, y1, y2⟩
      have hk : k1[i]? = some k1[i] := List.getElem?_eq_getElem hi
      generalize k1[i] = kv at hk
      simp only [hk, Option.map_some, Option.some.injEq] at y1 y2
      subst y1 y2
      obtain ⟨x, hx, hx1, hx2⟩ := TabK.get TL hk
      have nx := nt x (List.mem_of_getElem? hx)
      have s2 := s1.trans (same_upd (o := .tup [kV kv.1, kv.2]) nA)
      refine ⟨A1, [kV kv.1, kv.2], rfl, SqT.of upd_same, rfl, _, _, rfl, gname ⟨_, [], rfl, gname ⟨rfl, ?_⟩⟩⟩
      refine ⟨rfl, _, rfl, _, rfl, _, rfl, q, k2, u, kv.2, x.2, rfl, s2 _ _ eq0, tab_same s2 nu UL, nu, dp_same s2 _ _ hx2, nx, hb x (List.mem_of_getElem? hx), fun v H3 s3 d3 => ?_⟩
      have rA : r ≠ A1 := ne_of_none e1 nA
      have e3 : H3 r = some (.dK kvs) := s3 _ _ (by rw [upd_ne rA]; exact e1)
      have T3 := tab_same ((same_upd (o := .tup [kV kv.1, kv.2]) nA).trans s3) (comp1_nd (fun y hy => nt y (List.mem_of_mem_take hy)) nu) T1
      have hkl := TabK.len T1
      rw [show (comp1 (t.take i) u).length = (t.take i).length from List.length_map .., List.length_take] at hkl
      refine ⟨kvs, kv.1, rfl, e3, small1000 (by omega), ?_⟩
      have n3 : notTup H3 r := .inr (.inl ⟨_, e3⟩)
      have s4 : Same (upd H p (.frz od (.dK k1))) (upd H3 r (.dK (putK kvs kv.1 v))) := fun b o e => by rw [upd_ne (ne_of_none e nr)]; exact (s2.trans s3) _ _ e
      refine ⟨_, s4, upd_same, ?_⟩
      rw [hx1]
      have hnew : x.1 ∉ (comp1 (t.take i) u).map (·.1) := by rw [comp1_keys]; exact nodup_new dt hx
      have e4 : comp1 (t.take (i + 1)) u = comp1 (t.take i) u ++ [(x.1, appM u x.2)] := by
        unfold comp1
        rw [List.take_add_one, hx, List.map_append]
        rfl
      rw [e4]
      exact TabK.add (tab_put n3 (comp1_nd (fun y hy => nt y (List.mem_of_mem_take hy)) nu) T3) hnew (dp_put n3 _ _ (tup_noL (appM_nd nu nx)) d3)
    · rintro H1 ⟨kv0, s1, e1, T1⟩
      rw [lk1, List.take_length] at T1
      refine gname ?_
      refine ⟨s1 _ _ upd_same, ?_⟩
      have sH := keep H1 s1
      have n1 : notTup H1 p := .inr (.inr ⟨_, _, s1 _ _ upd_same⟩)
      have c1n := comp1_nd nt nu
      have T2 := tab_put (o := .dK k1) n1 c1n T1
      have er : (upd H1 p (.dK k1)) r = some (.dK kv0) := by rw [upd_ne rp]; exact e1
      clear T1 e1 s1 n1
      generalize upd H1 p (.dK k1) = H2 at sH T2 er
      have rq : r ≠ q := fun z => by rw [z, hq] at nrH; cases nrH
      refine seq_any ?_
      have hq2 := sH _ _ hq
      refine ⟨q, .dK k2, hq2, trivial, fun oe => ?_⟩
      have nf2 : notTup H2 q := .inr (.inl ⟨_, hq2⟩)
      have U2 := tab_put (o := .frz oe (.dK k2)) nf2 nu (tab_same sH nu U)
      have T3 := tab_put (o := .frz oe (.dK k2)) nf2 c1n T2
      have nc : ∀ i, TabN (comp1 t u ++ (u.take i).filter (newK t)) := fun i y hy => by
        rcases List.mem_append.mp hy with z | z
        · exact c1n y z
        · exact nu y (List.mem_of_mem_take (List.mem_filter.mp z).1)
      have ll1 : (comp1 t u).length = t.length := List.length_map ..
      refine ⟨_, rfl, q, oe, k2, rfl, upd_same, for_it walk_items (fun i σ H' => ∃ v3 v4 kvs, σ = [some (.ref p), some (.ref q), some (.ref r), v3, v4] ∧ But r (upd H2 q (.frz oe (.dK k2))) H' ∧ H' r = some (.dK kvs) ∧ TabK K H' kvs (comp1 t u ++ (u.take i).filter (newK t)))
        ⟨_, _, kv0, rfl, But.refl _ _, by rw [upd_ne rq]; exact er, by rw [List.take_zero]; show TabK K _ _ (comp1 t u ++ []); rw [List.append_nil]; exact T3⟩ (fun i σ H' _ ⟨_, _, _, _, e, _⟩ => e _ _ rq.symm upd_same) ?_ ?_⟩
      · rintro i x σ H3 H4 hi ⟨v3, v4, kvs, rfl, s3, e3, T4⟩ ⟨A1, x1, x2, rfl, nA, rfl, y1, y2⟩
        have hk : k2[i]? = some k2[i] := List.getElem?_eq_getElem hi
        generalize k2[i] = kv at hk
        simp only [hk, Option.map_some, Option.some.injEq] at y1 y2
        subst y1 y2
        obtain ⟨kk, vv⟩ := kv
        obtain ⟨x, hx, hx1, hx2⟩ := TabK.get U2 hk
        have hx1 : kk = Sum.inl x.1 := hx1
        subst hx1
        have hx2 : Dp K (upd H2 q (.frz oe (.dK k2))) vv (.tuple x.2) := hx2
        have nx := nu x (List.mem_of_getElem? hx)
        have rA : r ≠ A1 := ne_of_none e3 nA
        have e4 : (upd H3 A1 (.tup [kV (Sum.inl x.1), vv])) r = some (.dK kvs) := by rw [upd_ne rA]; exact e3
        have T5 := tab_same (same_upd (o := .tup [kV (Sum.inl x.1), vv]) nA) (nc i) T4
        have b4 : But r (upd H2 q (.frz oe (.dK k2))) (upd H3 A1 (.tup [kV (Sum.inl x.1), vv])) := s3.trans (But.of (same_upd nA))
        have hil := (List.getElem?_eq_some_iff.mp hx).1
        have hkl := TabK.len T4
        have hfl := List.length_filter_le (newK t) (u.take i)
        rw [List.length_append, ll1] at hkl
        rw [List.length_take] at hfl
        refine ⟨A1, [kV (Sum.inl x.1), vv], rfl, SqT.of upd_same, rfl, _, _, rfl, gname ⟨_, [], rfl, gname ⟨rfl, ?_⟩⟩⟩
        refine ⟨_, rfl, _, rfl, r, _, rfl, DGet.k e4, _, rfl, ?_⟩
        have hfr : ∀ b : Bool, newK t x = b → (u.take (i + 1)).filter (newK t) = (u.take i).filter (newK t) ++ (if b = true then [x] else []) := fun b e => by
          rw [List.take_add_one, hx, List.filter_append]
          cases b with
          | true => rw [show (Option.toList (some x)).filter (newK t) = [x] by show [x].filter (newK t) = [x]; rw [List.filter_cons_of_pos (by exact e), List.filter_nil]]; rfl
          | false => rw [show (Option.toList (some x)).filter (newK t) = [] by show [x].filter (newK t) = []; rw [List.filter_cons_of_neg (by rw [e]; exact Bool.false_ne_true), List.filter_nil]]; rfl
        have hkeys : ∀ n, n ∈ (comp1 t u ++ (u.take i).filter (newK t)).map (·.1) ↔ n ∈ t.map (·.1) ∨ n ∈ ((u.take i).filter (newK t)).map (·.1) := fun n => by
          rw [List.map_append, List.mem_append, comp1_keys]
        have hnot : x.1 ∉ ((u.take i).filter (newK t)).map (·.1) := fun hm => by
          obtain ⟨y, hy, ey⟩ := List.mem_map.mp hm
          exact nodup_new du hx (List.mem_map.mpr ⟨y, (List.mem_filter.mp hy).1, ey⟩)
        by_cases hm : x.1 ∈ t.map (·.1)
        · rw [TabK.some T5 ((hkeys _).mpr (.inl hm))]
          refine iteF ⟨_, _, kvs, rfl, b4, e4, ?_⟩
          rw [hfr false (by unfold newK; rw [decide_eq_true hm]; rfl)]
          show TabK K _ _ (comp1 t u ++ (_ ++ []))
          rw [List.append_nil]
          exact T5
        · have hnone : x.1 ∉ (comp1 t u ++ (u.take i).filter (newK t)).map (·.1) := fun z => by
            rcases (hkeys _).mp z with z | z
            · exact hm z
            · exact hnot z
          rw [TabK.none T5 hnone]
          refine iteT ?_
          refine ⟨_, rfl, _, rfl, _, rfl, r, _, rfl, DPut.k (k := Sum.inl x.1) e4 (small1000 (by omega)), ?_⟩
          have n4 : notTup (upd H3 A1 (.tup [kV (Sum.inl x.1), vv])) r := .inr (.inl ⟨_, e4⟩)
          refine ⟨_, _, _, rfl, b4.trans But.put, upd_same, ?_⟩
          rw [hfr true (by unfold newK; rw [decide_eq_false hm]; rfl)]
          show TabK K _ _ (comp1 t u ++ (_ ++ [x]))
          rw [← List.append_assoc]
          refine TabK.add (tab_put n4 (nc i) T5) hnone ?_
          have nr2 : notTup (upd H2 q (.frz oe (.dK k2))) r := .inr (.inl ⟨kv0, by rw [upd_ne rq]; exact er⟩)
          exact dp_put n4 _ _ (tup_noL nx) (dp_map (fun c xs g => sqT_but nr2 b4 g) _ _ (tup_noL nx) hx2)
      · rintro σ H3 ⟨v3, v4, kvs, rfl, s3, e3, T4⟩
        rw [lk2, List.take_length] at T4
        refine nxp ?_
        have nq3 : notTup H3 q := .inr (.inr ⟨_, _, s3 _ _ rq.symm upd_same⟩)
        have nc4 : TabN (comp1 t u ++ u.filter (newK t)) := fun y hy => nc u.length y (by rw [List.take_length]; exact hy)
        refine ⟨s3 _ _ rq.symm upd_same, ?_⟩
        have T6 := tab_put (o := .dK k2) nq3 nc4 T4
        have e6 : (upd H3 q (.dK k2)) r = some (.dK kvs) := by rw [upd_ne rq]; exact e3
        have b6 : But r H2 (upd H3 q (.dK k2)) := fun b o hb e => by
          by_cases z : b = q
          · subst z
            rw [hq2] at e
            rw [upd_same]
            exact e
          · rw [upd_ne z]
            exact s3 _ _ hb (by rw [upd_ne z]; exact e)
        clear T4 s3 e3 nq3
        generalize upd H3 q (.dK k2) = H5 at T6 e6 b6
        refine ⟨r, .dK kvs, e6, trivial, fun og => ?_⟩
        refine ⟨_, rfl, r, og, kvs, rfl, upd_same, fun r3 nr3 => ?_⟩
        have r3r : r3 ≠ r := fun z => by rw [z, upd_same] at nr3; cases nr3
        have nr5 : H5 r3 = Option.none := by rw [upd_ne r3r] at nr3; exact nr3
        have s25 : ∀ b o, H b = some o → H5 b = some o := fun b o e => b6 b o (fun z => by rw [z, nrH] at e; cases e) (sH b o e)
        have nr0 : H r3 = Option.none := by
          cases e : H r3 with
          | none => rfl
          | some o => rw [s25 _ _ e] at nr5; cases nr5
        have n5 : notTup H5 r := .inr (.inl ⟨_, e6⟩)
        have T7 := tab_put (o := .frz og (.dK kvs)) n5 nc4 T6
        have lk3 := TabK.len T6
        have C0 : ∀ x ∈ comp1 t u ++ u.filter (newK t), 0 ≤ x.1 := fun x hx => by
          rcases List.mem_append.mp hx with z | z
          · obtain ⟨y, hy, rfl⟩ := List.mem_map.mp z
            exact t0 y hy
          · exact u0 x (List.mem_filter.mp z).1
        have Cn : ((comp1 t u ++ u.filter (newK t)).map (·.1)).Nodup := by
          rw [List.map_append, comp1_keys]
          refine List.nodup_append.mpr ⟨dt, List.Sublist.nodup ((List.filter_sublist ..).map _) du, fun a ha b hb e => ?_⟩
          obtain ⟨y, hy, rfl⟩ := List.mem_map.mp hb
          have := (List.mem_filter.mp hy).2
          unfold newK at this
          rw [← e, decide_eq_true ha] at this
          cases this
        have CT : compT t u = (comp1 t u ++ u.filter (newK t)).filter notOwn := rfl
        have lC : (comp1 t u ++ u.filter (newK t)).length ≤ 20 := by
          have := List.length_filter_le (newK t) u
          rw [List.length_append, ll1]
          omega
        generalize comp1 t u ++ u.filter (newK t) = C at T7 T6 nc4 C0 Cn CT lk3 lC
        refine dc_it walk_items (fun i H' => ∃ kv3, Same (upd H5 r (.frz og (.dK kvs))) H' ∧ H' r3 = some (.dK kv3) ∧ TabK K H' kv3 ((C.take i).filter notOwn))
          ⟨[], same_upd nr3, upd_same, True.intro⟩ (fun i H' _ ⟨_, e, _⟩ => e _ _ upd_same) ?_ ?_
        · rintro i x H6 H7 hi ⟨kv3, s6, e3, T8⟩ ⟨A1, x1, x2, rfl, nA, rfl, y1, y2⟩
          have hk : kvs[i]? = some kvs[i] := List.getElem?_eq_getElem hi
          generalize kvs[i] = kv at hk
          simp only [hk, Option.map_some, Option.some.injEq] at y1 y2
          subst y1 y2
          obtain ⟨kk, vv⟩ := kv
          obtain ⟨x, hx, hx1, hx2⟩ := TabK.get T7 hk
          have hx1 : kk = Sum.inl x.1 := hx1
          subst hx1
          have hxm := List.mem_of_getElem? hx
          have nx := nc4 x hxm
          have r3A : r3 ≠ A1 := ne_of_none e3 nA
          have sA := same_upd (o := .tup [kV (Sum.inl x.1), vv]) nA
          refine ⟨A1, [kV (Sum.inl x.1), vv], rfl, SqT.of upd_same, rfl, _, _, rfl, gname ⟨_, [], rfl, gname ⟨rfl, ?_⟩⟩⟩
          refine ⟨rfl, ?_⟩
          refine ⟨_, rfl, _, rfl, (by show 2 ≤ sizeLine; decide), fun a na => ⟨(by show 1 ≤ sizeLine; decide), fun b nb => ?_⟩⟩
          have sa := same_upd (o := .tup [.str "v", kV (Sum.inl x.1)]) na
          have sb := same_upd (o := .tup [.ref a]) nb
          have dvar : Dp K _ (.ref b) (.tuple (varN x.1)) := .tup (SqT.of (upd_same (H := upd (upd H6 A1 (.tup [kV (Sum.inl x.1), vv])) a (.tup [.str "v", kV (Sum.inl x.1)])) (a := b) (o := .tup [.ref a]))) (.cons (.tup (SqT.of (sb _ _ upd_same)) (.cons (.str _) (.cons (.int _) .nil))) .nil)
          have s8 := sA.trans (sa.trans sb)
          have s9 := s6.trans s8
          have e9 := s8 _ _ e3
          have ntF : TabN ((C.take i).filter notOwn) := fun y hy => nc4 y (List.mem_of_mem_take (List.mem_filter.mp hy).1)
          have T9 := tab_same s8 ntF T8
          generalize upd (upd (upd H6 A1 (.tup [kV (Sum.inl x.1), vv])) a (.tup [.str "v", kV (Sum.inl x.1)])) b (.tup [.ref a]) = H9 at dvar s9 e9 T9
          have hfl := List.length_filter_le notOwn (C.take i)
          rw [List.length_take] at hfl
          have hkl := TabK.len T9
          have hfr : ∀ b : Bool, notOwn x = b → (C.take (i + 1)).filter notOwn = (C.take i).filter notOwn ++ (if b = true then [x] else []) := fun b e => by
            rw [List.take_add_one, hx, List.filter_append]
            cases b with
            | true => rw [show (Option.toList (some x)).filter notOwn = [x] by show [x].filter notOwn = [x]; rw [List.filter_cons_of_pos (by exact e), List.filter_nil]]; rfl
            | false => rw [show (Option.toList (some x)).filter notOwn = [] by show [x].filter notOwn = []; rw [List.filter_cons_of_neg (by rw [e]; exact Bool.false_ne_true), List.filter_nil]]; rfl
          refine ⟨.tuple x.2, .tuple (varN x.1), dp_same s9 _ _ hx2, dvar, tup_shaped nx, tup_shaped (var_nd (C0 x hxm)), _, rfl, ite2 (fun e => ?_) (fun e => ?_)⟩
          · refine ⟨_, rfl, _, rfl, kv3, Sum.inl x.1, rfl, e9, small1000 (by omega), ?_⟩
            have n9 : notTup H9 r3 := .inr (.inl ⟨_, e9⟩)
            refine ⟨_, fun c o h => by rw [upd_ne (ne_of_none h nr3)]; exact s9 _ _ h, upd_same, ?_⟩
            rw [hfr true e]
            refine TabK.add (tab_put n9 ntF T9) (fun hm => ?_) (dp_put n9 _ _ (tup_noL nx) (dp_same s9 _ _ hx2))
            obtain ⟨y, hy, ey⟩ := List.mem_map.mp hm
            exact nodup_new Cn hx (List.mem_map.mpr ⟨y, (List.mem_filter.mp hy).1, ey⟩)
          · refine ⟨kv3, s9, e9, ?_⟩
            rw [hfr false (Bool.eq_false_iff.mpr e)]
            show TabK K _ _ (_ ++ [])
            rw [List.append_nil]
            exact T9
        · rintro H6 ⟨kv3, s6, e3, T8⟩
          rw [lk3, List.take_length, ← CT] at T8
          have fr := s6 _ _ upd_same
          refine ⟨fr, ?_⟩
          have n6 : notTup H6 r := .inr (.inr ⟨_, _, fr⟩)
          refine Q1 r3 kv3 _ (fun b o e => ?_) nr0 (by rw [upd_ne r3r]; exact e3) (tab_put n6 (by rw [CT]; exact fun y hy => nc4 y (List.mem_filter.mp hy).1) T8)
          have hb : b ≠ r := fun z => by rw [z, nrH] at e; cases e
          rw [upd_ne hb]
          exact s6 _ _ (by rw [upd_ne hb]; exact s25 b o e)

theorem ok__law_leaf {f : Addr} {fd : FuncData} (F : Fun K "_law_leaf" "_law_leaf" s__law_leaf f fd) (E : Bi K mg) (D__law_draw : Has P w K mg base 1 "_law_draw" ["stream", "many"] (sp__law_draw K)) (D__law_name : Has P w K mg base 2 "_law_name" ["stream"] (sp__law_name K)) : FnOk P w K mg base CX0 3 f fd ["stream", "widest"] (sp__law_leaf K) := by
  obtain ⟨f__law_draw, fd__law_draw, G__law_draw, g__law_draw, kp__law_draw, b__law_draw⟩ := D__law_draw
  obtain ⟨f__law_name, fd__law_name, G__law_name, g__law_name, kp__law_name, b__law_name⟩ := D__law_name
  refine F.ok sc__law_leaf (fun vs H Q E h => ?_) (fun cdv A outer s H vs Q E' hr h => ?_)
  · obtain ⟨s, l, wd, rfl, _⟩ := h
    rfl
  · obtain ⟨s, l, wd, rfl, hS, hw, hw2, q⟩ := h
    have n9 : (2 : Nat) ^ 140 ≤ 2 ^ 9000 := Nat.pow_le_pow_right (by decide) (by decide)
    refine ⟨_, (pss_cons (ps_set (i := 2) sc__law_leaf.nd rfl (Or.inl rfl) (pe_call G__law_draw (hr.mono (by decide)) (by rfl) g__law_draw kp__law_draw b__law_draw .nil pass0 (pa_cons (pv 0) (pa_cons pe_int pa_nil))))
      (pss_cons (ps_if (pw_and (pt_cmpR op_lt (pv 2) pe_int (nomark _)) (pw_and1 (pt_cmpR op_gt (pv 1) pe_int (nomark _)))).pt (pss_one (ps_ret (pe_tup (pa_cons pe_str (pa_cons (pe_call G__law_draw (hr.mono (by decide)) (by rfl) g__law_draw kp__law_draw b__law_draw .nil pass0 (pa_cons (pv 0) (pa_cons (pv 1) pa_nil))) pa_nil))))) pss_nil)
      (pss_cons (ps_if (pt_cmpR op_eq (pv 2) pe_int (nomark _)) (pss_one (ps_ret (pe_op op_sub (pe_call G__law_draw (hr.mono (by decide)) (by rfl) g__law_draw kp__law_draw b__law_draw .nil pass0 (pa_cons (pv 0) (pa_cons pe_int pa_nil))) pe_int))) pss_nil)
      (pss_cons (ps_if (pw_and (pt_cmpR op_eq (pv 2) pe_int (nomark _)) (pw_and1 (pt_cmpR op_eq (pe_call G__law_draw (hr.mono (by decide)) (by rfl) g__law_draw kp__law_draw b__law_draw .nil pass0 (pa_cons (pv 0) (pa_cons pe_int pa_nil))) pe_int (nomark _)))).pt (pss_one (ps_ret (pe_op op_sub (pe_call G__law_draw (hr.mono (by decide)) (by rfl) g__law_draw kp__law_draw b__law_draw .nil pass0 (pa_cons (pv 0) (pa_cons (pe_op op_pow pe_int pe_int) pa_nil))) (pe_call G__law_draw (hr.mono (by decide)) (by rfl) g__law_draw kp__law_draw b__law_draw .nil pass0 (pa_cons (pv 0) (pa_cons (pe_op op_pow pe_int pe_int) pa_nil)))))) pss_nil)
      (pss_one (ps_ret (pe_tup (pa_cons pe_str (pa_cons (pe_call G__law_name (hr.mono (by decide)) (by rfl) g__law_name kp__law_name b__law_name .nil pass0 (pa_cons (pv 0) pa_nil)) (pa_cons pe_int pa_nil)))))))))), ?_⟩
    have fin : ∀ H1 : Hp, But s H H1 → Stm H1 s l → ∀ x H2, okName x = true → But s H1 H2 → Stm H2 s l → ∀ p, H2 p = Option.none → Q (.ref p) (upd H2 p (.tup [.str "f", .str x, .int 0])) := by
      intro H1 b1 S1 x H2 hx b2 S2 p np
      obtain ⟨os, hos⟩ := S2.at_s
      obtain ⟨ol, hol⟩ := S2.at_l
      have hp : H p = Option.none := by
        cases e : H p with
        | none => rfl
        | some o =>
          by_cases z : p = s
          · rw [z, hos] at np; cases np
          · rw [b2 _ _ z (b1 _ _ z e)] at np; cases np
      exact q _ (.tuple [.str "f", .str x, .int 0]) _ (.f x 0 hx (by decide) (by decide)) rfl ((b1.trans b2).trans (But.of (same_upd np))) (S2.put (ne_of_none hos np) (ne_of_none hol np)) (.tup hp upd_same (.cons (.str _) (.cons (.str _) (.cons (.int _) .nil))))
    refine seq_asg ?_
    refine ⟨_, rfl, s, l, 5, rfl, hS, by decide, Nat.lt_of_lt_of_le (by decide) n9, fun pick H1 _ _ b1 S1 => ?_⟩
    refine gname (seq_ifN ?_)
    have fresh : ∀ (H2 : Hp), But s H H2 → Stm H2 s l → ∀ p, H2 p = Option.none → H p = Option.none := by
      intro H2 b2 S2 p np
      obtain ⟨os, hos⟩ := S2.at_s
      cases e : H p with
      | none => rfl
      | some o =>
        by_cases z : p = s
        · rw [z, hos] at np; cases np
        · rw [b2 _ _ z e] at np; cases np
    refine ⟨_, rfl, _, _, rfl, rfl, _, rfl, ite2 (fun e => ?_) (fun e => ?_)⟩
    · refine ⟨_, rfl, _, _, rfl, rfl, _, rfl, ite2 (fun e2 => ?_) (fun e2 => absurd (decide_eq_true hw) e2)⟩
      refine ⟨_, rfl, _, rfl, s, l, wd, rfl, S1, hw, Nat.lt_of_lt_of_le (show wd.natAbs < 2 ^ 140 from Nat.lt_of_le_of_lt (show wd.natAbs ≤ 1000 by omega) (by decide)) n9, fun r H2 r0 r1 b2 S2 => ⟨(by show 2 ≤ sizeLine; decide), fun p np => ?_⟩⟩
      obtain ⟨os, hos⟩ := S2.at_s
      obtain ⟨ol, hol⟩ := S2.at_l
      exact q _ (.tuple [.str "v", .int r]) _ (.v r r0 r1) rfl ((b1.trans b2).trans (But.of (same_upd np))) (S2.put (ne_of_none hos np) (ne_of_none hol np)) (.tup (fresh H2 (b1.trans b2) S2 p np) upd_same (.cons (.str _) (.cons (.int _) .nil)))
    · refine iteF (seq_ifN ?_)
      refine ⟨_, rfl, rfl, _, rfl, ite2 (fun e2 => ?_) (fun e2 => ?_)⟩
      · refine ⟨_, rfl, s, l, 10, rfl, S1, by decide, Nat.lt_of_lt_of_le (by decide) n9, fun r H2 r0 r1 b2 S2 => ⟨_, _, rfl, rfl, ?_⟩⟩
        exact q _ (.int (r - 4)) _ (.i _ (by omega) (by omega)) rfl (b1.trans b2) S2 (.int _)
      · refine seq_ifN ?_
        refine ⟨_, rfl, rfl, _, rfl, ite2 (fun e3 => ?_) (fun e3 => ?_)⟩
        · refine ⟨_, rfl, s, l, 4, rfl, S1, by decide, Nat.lt_of_lt_of_le (by decide) n9, fun r H2 r0 r1 b2 S2 => ⟨rfl, _, rfl, ite2 (fun e4 => ?_) (fun e4 => ?_)⟩⟩
          · have h40 : (10 : Int) ^ (40 : Int).toNat = 10 ^ 40 := rfl
            refine ⟨_, rfl, _, _, rfl, rfl, ⟨by decide, by decide, by decide⟩, s, l, _, rfl, S2, by decide, Nat.lt_of_lt_of_le (by decide) n9, fun r3 H3 r30 r31 b3 S3 => ?_⟩
            refine ⟨_, rfl, _, _, rfl, rfl, ⟨by decide, by decide, by decide⟩, s, l, _, rfl, S3, by decide, Nat.lt_of_lt_of_le (by decide) n9, fun r4 H4 r40 r41 b4 S4 => ⟨_, _, rfl, rfl, ?_⟩⟩
            rw [h40] at r31 r41
            exact q _ (.int (r3 - r4)) _ (.i _ (by omega) (by omega)) rfl (((b1.trans b2).trans b3).trans b4) S4 (.int _)
          · refine ⟨_, rfl, s, l, rfl, S2, fun x H3 hx b3 S3 => ⟨(by show 3 ≤ sizeLine; decide), fun p np => fin H2 (b1.trans b2) S2 x H3 hx b3 S3 p np⟩⟩
        · refine iteF ?_
          refine ⟨_, rfl, s, l, rfl, S1, fun x H3 hx b3 S3 => ⟨(by show 3 ≤ sizeLine; decide), fun p np => fin H1 b1 S1 x H3 hx b3 S3 p np⟩⟩

theorem ok__law_is_term {f : Addr} {fd : FuncData} (F : Fun K "_law_is_term" "_law_is_term" s__law_is_term f fd) (E : Bi K mg) (D__law_arity : Has P w K mg base 2 "_law_arity" ["value"] (sp__law_arity K)) : FnOk P w K mg base CX0 3 f fd ["value"] (sp__law_is_term K) := by
  obtain ⟨f__law_arity, fd__law_arity, G__law_arity, g__law_arity, kp__law_arity, b__law_arity⟩ := D__law_arity
  refine F.ok sc__law_is_term (fun vs H Q E h => ?_) (fun cdv A outer s H vs Q E' hr h => ?_)
  · obtain ⟨x, ds, rfl, _⟩ := h
    rfl
  · obtain ⟨x, ds, rfl, hx, hn, hc, q⟩ := h
    refine ⟨_, (pss_cons (ps_if (pt_not (pt_val (pe_callB call_isi (by rfl) E.b_isinstance (by decide +kernel) (pa_cons (pv 0) (pa_cons (pe_ty "tuple" (by rfl) E.b_tuple (by decide +kernel)) pa_nil))))) (pss_one (ps_ret pe_bl)) pss_nil)
      (pss_cons (ps_set (i := 1) sc__law_is_term.nd rfl (Or.inl rfl) pe_int)
      (pss_cons (ps_for PassesOwn.never rfl (pi_tup (pv 0)) (pg_name (i := 2) sc__law_is_term.nd rfl (Or.inl rfl)) (pss_cons (ps_set (i := 3) sc__law_is_term.nd rfl (Or.inl rfl) (pe_call G__law_arity (hr.mono (by decide)) (by rfl) g__law_arity kp__law_arity b__law_arity .nil pass0 (pa_cons (pv 2) pa_nil)))
      (pss_cons (ps_if (pw_or (pt_cmpR op_eq (pv 1) pe_int (nomark _)) (pw_or1 (pt_cmpR op_lt (pv 3) pe_int (nomark _)))).pt (pss_one (ps_ret pe_bl)) pss_nil)
      (pss_one (ps_set (i := 1) sc__law_is_term.nd rfl (Or.inl rfl) (pe_op op_add (pe_op op_sub (pv 1) pe_int) (pv 3)))))))
      (pss_one (ps_ret (pe_cmpR op_eq (pv 1) pe_int (nomark _))))))), ?_⟩
    cases id hx with
    | @tup a xs _ hs ha =>
    have hxl := DpAll.len ha
    refine seq_ifN ?_
    refine ⟨_, rfl, _, _, _, _, _, rfl, .ty _, tyx_of hx, kit_ty (kitT _), _, rfl, iteF ?_⟩
    refine seq_asg (gname (seq_any ?_))
    refine ⟨_, rfl, a, rfl, ⟨_, hs⟩, for_tup (K := K) (a := a) (xs := xs) (fun i σ H' => ∃ (v2 v3 : Option V) (m : Nat), σ = [some (.ref a), some (.int (m : Int)), v2, v3] ∧ H' = H ∧ Cls m (ds.drop i))
      ⟨none, none, 1, rfl, rfl, hc⟩ (fun i σ H' _ ⟨_, _, _, _, e, _⟩ => by rw [e]; exact hs) ?_ ?_⟩
    · rintro i y σ H1 hi ⟨v2, v3, m, rfl, rfl, hm⟩
      obtain ⟨d, hd, dy⟩ := DpAll.getV ha hi
      have ndd := hn d (List.mem_of_getElem? hd)
      obtain ⟨kd, gd⟩ := List.getElem?_eq_some_iff.mp hd
      rw [show ds.drop i = d :: ds.drop (i + 1) by rw [List.drop_eq_getElem_cons kd, gd]] at hm
      have m0 := hm.1
      refine gname (seq_asg ?_)
      refine ⟨_, rfl, y, d, rfl, dy, ndd, ?_⟩
      refine gname (seq_ifN ?_)
      refine ⟨_, rfl, rfl, _, rfl, ite2 (fun z => ?_) (fun _ => ?_)⟩
      · have := V.int.inj (of_decide_eq_true z)
        omega
      · refine ⟨_, rfl, _, _, rfl, rfl, _, rfl, ite2 (fun z => ?_) (fun _ => ?_)⟩
        · have := of_decide_eq_true z
          omega
        · refine asg1 ?_
          refine ⟨_, rfl, _, _, rfl, rfl, _, rfl, _, _, rfl, rfl, ?_⟩
          refine gname ⟨some y, some (.int (arN d : Int)), m - 1 + arN d, ?_, rfl, hm.2⟩
          show [_, some (V.int ((m : Int) - 1 + (arN d : Int))), _, _] = _
          rw [show (m : Int) - 1 + (arN d : Int) = ((m - 1 + arN d : Nat) : Int) by omega]
    · rintro σ H1 ⟨v2, v3, m, rfl, rfl, hm⟩
      rw [hxl, List.drop_length] at hm
      have hm : m = 0 := hm
      subst hm
      refine nxp ?_
      exact ⟨_, rfl, rfl, q⟩

theorem ok__law_term {f : Addr} {fd : FuncData} (F : Fun K "_law_term" "_law_term" s__law_term f fd) (E : Bi K mg) (D__law_draw : Has P w K mg base 1 "_law_draw" ["stream", "many"] (sp__law_draw K)) (D__law_name : Has P w K mg base 2 "_law_name" ["stream"] (sp__law_name K)) (D__law_leaf : Has P w K mg base 3 "_law_leaf" ["stream", "widest"] (sp__law_leaf K)) : FnOk P w K mg base CX0 4 f fd ["stream", "size", "widest"] (sp__law_term K) := by
  obtain ⟨f__law_draw, fd__law_draw, G__law_draw, g__law_draw, kp__law_draw, b__law_draw⟩ := D__law_draw
  obtain ⟨f__law_name, fd__law_name, G__law_name, g__law_name, kp__law_name, b__law_name⟩ := D__law_name
  obtain ⟨f__law_leaf, fd__law_leaf, G__law_leaf, g__law_leaf, kp__law_leaf, b__law_leaf⟩ := D__law_leaf
  refine F.ok sc__law_term (fun vs H Q E h => ?_) (fun cdv A outer s H vs Q E' hr h => ?_)
  · obtain ⟨s, l, n, wd, rfl, _⟩ := h
    rfl
  · obtain ⟨s, l, n, wd, rfl, hS, hn, hn2, hw, hw2, q⟩ := h
    have n9 : (2 : Nat) ^ 140 ≤ 2 ^ 9000 := Nat.pow_le_pow_right (by decide) (by decide)
    refine ⟨_, (pss_cons (ps_set (i := 3) sc__law_term.nd rfl (Or.inl rfl) (pe_lst pa_nil))
      (pss_cons (ps_set (i := 4) sc__law_term.nd rfl (Or.inl rfl) pe_int)
      (pss_cons (ps_while PassesOwn.never (pt_cmpR op_gt (pv 4) pe_int (nomark _)) (pss_cons (ps_set (i := 4) sc__law_term.nd rfl (Or.inl rfl) (pe_op op_sub (pv 4) pe_int))
      (pss_cons (ps_set (i := 5) sc__law_term.nd rfl (Or.inl rfl) (pe_op op_sub (pe_op op_sub (pe_op op_sub (pv 1) (pe_callB call_len_seq (by rfl) E.b_len PySem.boot_len (pa_cons (pv 3) pa_nil))) (pv 4)) pe_int))
      (pss_one (ps_if (pw_and (pt_cmpR op_gt (pv 5) pe_int (nomark _)) (pw_and1 (pt_cmpR op_gt (pe_call G__law_draw (hr.mono (by decide)) (by rfl) g__law_draw kp__law_draw b__law_draw .nil pass0 (pa_cons (pv 0) (pa_cons pe_int pa_nil))) pe_int (nomark _)))).pt (pss_cons (ps_set (i := 6) sc__law_term.nd rfl (Or.inl rfl) (pe_op op_add pe_int (pe_call G__law_draw (hr.mono (by decide)) (by rfl) g__law_draw kp__law_draw b__law_draw .nil pass0 (pa_cons (pv 0) (pa_cons (pe_callB (call_min2 rfl) (by rfl) E.b_min (by decide +kernel) (pa_cons (pv 5) (pa_cons (pe_op op_add pe_int (pe_op op_mul pe_int (pe_callTy call_int1 (by rfl) E.b_int (by decide +kernel) (pa_cons (pe_cmpR op_eq (pe_call G__law_draw (hr.mono (by decide)) (by rfl) g__law_draw kp__law_draw b__law_draw .nil pass0 (pa_cons (pv 0) (pa_cons pe_int pa_nil))) pe_int (nomark _)) pa_nil)))) pa_nil))) pa_nil)))))
      (pss_cons (ps_set (i := 6) sc__law_term.nd rfl (Or.inl rfl) (pe_callB (call_min2 rfl) (by rfl) E.b_min (by decide +kernel) (pa_cons (pv 6) (pa_cons pe_int pa_nil))))
      (pss_cons (ps_expr (pe_bm PySem.F.plainAttrs_list PySem.F.slot_list_append PySem.F.type_list_append mt_append (pv 3) (pa_cons (pe_tup (pa_cons pe_str (pa_cons (pe_call G__law_name (hr.mono (by decide)) (by rfl) g__law_name kp__law_name b__law_name .nil pass0 (pa_cons (pv 0) pa_nil)) (pa_cons (pv 6) pa_nil)))) pa_nil)))
      (pss_one (ps_set (i := 4) sc__law_term.nd rfl (Or.inl rfl) (pe_op op_add (pv 4) (pv 6))))))) (pss_one (ps_expr (pe_bm PySem.F.plainAttrs_list PySem.F.slot_list_append PySem.F.type_list_append mt_append (pv 3) (pa_cons (pe_call G__law_leaf (hr.mono (by decide)) (by rfl) g__law_leaf kp__law_leaf b__law_leaf .nil pass0 (pa_cons (pv 0) (pa_cons (pv 2) pa_nil))) pa_nil)))))))))
      (pss_one (ps_ret (pe_callTy call_tuple_of (by rfl) E.b_tuple (by decide +kernel) (pa_cons (pv 3) pa_nil))))))), ?_⟩
    refine seq_asg ?_
    refine ⟨Nat.zero_le _, fun r nr => ?_⟩
    refine gname (seq_asg (gname (seq_any ?_)))
    obtain ⟨os, hos⟩ := hS.at_s
    obtain ⟨ol, hol⟩ := hS.at_l
    have sr : s ≠ r := ne_of_none hos nr
    have lr : l ≠ r := ne_of_none hol nr
    refine ⟨fun k σ H' => ∃ (m : Nat) (va vb : Option V) (xs : List V) (ds : List PyData), σ = [some (.ref s), some (.int n), some (.int wd), some (.ref r), some (.int (m : Int)), va, vb] ∧ H' r = some (.lst xs) ∧ ImAll K (fun b => H b = Option.none ∧ b ≠ r) H' xs ds ∧
        (∀ t, Cls m t → Cls 1 (ds ++ t)) ∧ (∀ d ∈ ds, Nd wd d) ∧ (ds.length : Int) + m ≤ n ∧ Stm H' s l ∧ But s H H' ∧ k = n.toNat - ds.length,
      ⟨_, 1, _, _, [], [], rfl, upd_same, .nil, fun t h => h, (fun d hd => nomatch hd), by show (0 : Int) + 1 ≤ n; omega, hS.put sr lr, But.of (same_upd nr), rfl⟩, ?_⟩
    rintro k σ H1 ⟨m, va, vb, xs, ds, rfl, h1, h2, h3, h4, h5, h6, h7, rfl⟩
    have hxl : xs.length = ds.length := h2.len
    refine ⟨_, rfl, _, _, rfl, rfl, _, rfl, ite2 (fun e => ?_) (fun e => ?_)⟩
    · have hm : 0 < m := by
        have := of_decide_eq_true e
        omega
      refine ⟨fun σ' H' => ∃ (m' : Nat) (va vb : Option V) (xs' : List V) (ds' : List PyData), σ' = [some (.ref s), some (.int n), some (.int wd), some (.ref r), some (.int (m' : Int)), va, vb] ∧ H' r = some (.lst xs') ∧ ImAll K (fun b => H b = Option.none ∧ b ≠ r) H' xs' ds' ∧
        (∀ t, Cls m' t → Cls 1 (ds' ++ t)) ∧ (∀ d ∈ ds', Nd wd d) ∧ (ds'.length : Int) + m' ≤ n ∧ Stm H' s l ∧ But s H H' ∧ ds'.length = ds.length + 1,
        fun σ' H' ⟨m', va', vb', xs', ds', g1, g2, g3, g4, g5, g6, g7, g8, g9⟩ => ⟨n.toNat - ds'.length, by omega, m', va', vb', xs', ds', g1, g2, g3, g4, g5, g6, g7, g8, rfl⟩, ?_⟩
      -- missing = missing - 1; room = ..
      refine seq_asg ?_
      refine ⟨_, rfl, _, _, rfl, rfl, ?_⟩
      refine gname (seq_asg ?_)
      refine ⟨_, rfl, _, rfl, _, _, rfl, .inl (SqL.of h1), _, _, rfl, rfl, _, rfl, _, _, rfl, rfl, _, _, rfl, rfl, ?_⟩
      refine gname ?_
      -- a new node is put behind
      have put : ∀ (H2 : Hp) (v : V) (d : PyData), But s H1 H2 → Stm H2 s l → Im K (fun b => H1 b = Option.none) H2 v d → Nd wd d → ∀ (m' : Nat) (z : Int), z = (m' : Int) → m' = m - 1 + arN d → (ds.length : Int) + 1 + m' ≤ n → ∀ va vb,
          ∃ (m'' : Nat) (va' vb' : Option V) (xs' : List V) (ds' : List PyData), [some (.ref s), some (.int n), some (.int wd), some (.ref r), some (.int z), va, vb] = [some (.ref s), some (.int n), some (.int wd), some (.ref r), some (.int (m'' : Int)), va', vb'] ∧ (upd H2 r (.lst (xs ++ [v]))) r = some (.lst xs') ∧ ImAll K (fun b => H b = Option.none ∧ b ≠ r) (upd H2 r (.lst (xs ++ [v]))) xs' ds' ∧
            (∀ t, Cls m'' t → Cls 1 (ds' ++ t)) ∧ (∀ d ∈ ds', Nd wd d) ∧ (ds'.length : Int) + m'' ≤ n ∧ Stm (upd H2 r (.lst (xs ++ [v]))) s l ∧ But s H (upd H2 r (.lst (xs ++ [v]))) ∧ ds'.length = ds.length + 1 := by
        intro H2 v d b2 S2 iv nd m' z hz em hle va vb
        have k1 : ∀ b o, (H b = Option.none ∧ b ≠ r) → H1 b = some o → (upd H2 r (.lst (xs ++ [v]))) b = some o := fun b o g e => by
          rw [upd_ne g.2]
          exact b2 b o (fun z => by rw [z, hos] at g; cases g.1) e
        have k2 : ∀ b o, H1 b = Option.none → H2 b = some o → (upd H2 r (.lst (xs ++ [v]))) b = some o := fun b o g e => by
          rw [upd_ne (fun z => by rw [z, h1] at g; cases g)]
          exact e
        have k3 : ∀ b, H1 b = Option.none → H b = Option.none ∧ b ≠ r := fun b g => by
          refine ⟨?_, fun z => by rw [z, h1] at g; cases g⟩
          cases eh : H b with
          | none => rfl
          | some o =>
            by_cases z : b = s
            · obtain ⟨o1, ho1⟩ := h6.at_s
              rw [z, ho1] at g; cases g
            · rw [h7 _ _ z eh] at g; cases g
        have k4 : ∀ t, Cls m' t → Cls 1 ((ds ++ [d]) ++ t) := fun t ht => by
          rw [List.append_assoc]
          exact h3 _ ⟨hm, by rw [em] at ht; exact ht⟩
        have k5 : ∀ d' ∈ ds ++ [d], Nd wd d' := fun d' hd' => by
          rcases List.mem_append.mp hd' with z | z
          · exact h4 _ z
          · rw [List.mem_singleton.mp z]; exact nd
        have k6 : ((ds ++ [d]).length : Int) + (m' : Int) ≤ n := by
          rw [List.length_append]
          show ((ds.length + 1 : Nat) : Int) + (m' : Int) ≤ n
          omega
        have k7 : But s H (upd H2 r (.lst (xs ++ [v]))) := fun b o hb e => by
          rw [upd_ne (ne_of_none e nr)]
          exact b2 b o hb (h7 b o hb e)
        exact ⟨m', va, vb, xs ++ [v], ds ++ [d], by rw [hz], upd_same, ImAll.snoc (Im.monoAll k1 (fun _ g => g) _ _ h2) (Im.mono k2 k3 _ _ iv), k4, k5, k6, S2.put sr lr, k7, by rw [List.length_append]; rfl⟩
      have hm1 : (m : Int) - 1 = ((m - 1 : Nat) : Int) := by omega
      -- if room > 0 and draw > 0
      refine ⟨_, rfl, _, _, rfl, rfl, _, rfl, ite2 (fun e1 => ?_) (fun e1 => ?_)⟩
      · have hroom : 0 < n - (xs.length : Int) - ((m : Int) - 1) - 1 := of_decide_eq_true e1
        refine ⟨_, rfl, s, l, 3, rfl, h6, by decide, Nat.lt_of_lt_of_le (by decide) n9, fun r1 H2 _ _ b2 S2 => ⟨_, _, rfl, rfl, _, rfl, ite2 (fun e2 => ?_) (fun e2 => ?_)⟩⟩
        · refine seq_asg ?_
          refine ⟨_, rfl, _, rfl, _, rfl, s, l, 8, rfl, S2, by decide, Nat.lt_of_lt_of_le (by decide) n9, fun r2 H3 _ _ b3 S3 => ⟨rfl, .inr ⟨_, rfl, _, _, rfl, rfl, .inl ⟨by decide, by decide⟩, _, _, rfl, rfl, _, _, rfl, ?_⟩⟩⟩
          have hk : (0 : Int) ≤ (if decide (V.int r2 = V.int 0) = true then 1 else 0) ∧ (if decide (V.int r2 = V.int 0) = true then (1 : Int) else 0) ≤ 1 := by split <;> decide
          generalize (if decide (V.int r2 = V.int 0) = true then (1 : Int) else 0) = k at hk
          refine ⟨s, l, _, rfl, S3, by split <;> omega, Nat.lt_of_lt_of_le (show _ < 2 ^ 140 from Nat.lt_of_le_of_lt (show _ ≤ 1000 by split <;> omega) (by decide)) n9, fun r3 H4 r30 r31 b4 S4 => ⟨_, _, rfl, rfl, ?_⟩⟩
          have h3r : 1 + r3 ≤ n - (xs.length : Int) - ((m : Int) - 1) - 1 := by
            split at r31 <;> omega
          refine gname (seq_asg ?_)
          refine ⟨_, rfl, _, _, rfl, ?_⟩
          refine gname (seq_any ?_)
          have har : 1 ≤ (if (8 : Int) < 1 + r3 then 8 else 1 + r3) ∧ (if (8 : Int) < 1 + r3 then 8 else 1 + r3) ≤ 8 ∧ (if (8 : Int) < 1 + r3 then 8 else 1 + r3) ≤ 1 + r3 := by split <;> omega
          have e4 : H4 r = some (.lst xs) := b4 _ _ sr.symm (b3 _ _ sr.symm (b2 _ _ sr.symm h1))
          generalize hga : (if (8 : Int) < 1 + r3 then (8 : Int) else 1 + r3) = ar at har
          obtain ⟨ha1, ha8, har3⟩ := har
          refine ⟨_, rfl, .inl ⟨rfl, _, SqL.of e4⟩, _, rfl, s, l, rfl, S4, fun x H5 hx b5 S5 => ⟨_, rfl, (by show 3 ≤ sizeLine; decide), fun p np => ?_⟩⟩
          have e5 : H5 r = some (.lst xs) := b5 _ _ sr.symm e4
          obtain ⟨os5, hos5⟩ := S5.at_s
          obtain ⟨ol5, hol5⟩ := S5.at_l
          have bb : But s H1 H5 := ((b2.trans b3).trans b4).trans b5
          have fp : H1 p = Option.none := by
            cases eh : H1 p with
            | none => rfl
            | some o =>
              by_cases z : p = s
              · rw [z, hos5] at np; cases np
              · rw [bb _ _ z eh] at np; cases np
          have rp : r ≠ p := ne_of_none e5 np
          refine ⟨_, _, _, rfl, rfl, by rw [upd_ne rp]; exact e5, small1000 (by omega), ?_⟩
          refine nxp (asg1 ?_)
          refine ⟨_, rfl, _, rfl, _, _, rfl, rfl, ?_⟩
          refine gname ?_
          have ea : arN (.tuple [.str "f", .str x, .int ar]) = ar.toNat := rfl
          exact put _ (.ref p) (.tuple [.str "f", .str x, .int ar]) (bb.trans (But.of (same_upd np))) (S5.put (ne_of_none hos5 np) (ne_of_none hol5 np)) (.tup fp upd_same (.cons (.str _) (.cons (.str _) (.cons (.int _) .nil)))) (.f x ar hx (by omega) ha8) (m - 1 + ar.toNat) _ (by omega) rfl (by omega) _ _
        · have e2r : H2 r = some (.lst xs) := b2 _ _ sr.symm h1
          refine ⟨_, rfl, .inl ⟨rfl, _, SqL.of e2r⟩, _, rfl, _, rfl, s, l, wd, rfl, S2, hw, hw2, fun v d H3 nd na b3 S3 iv => ?_⟩
          have fr : ∀ b, H2 b = Option.none → H1 b = Option.none := fun b g => by
            cases eh : H1 b with
            | none => rfl
            | some o =>
              by_cases z : b = s
              · obtain ⟨o1, ho1⟩ := S2.at_s
                rw [z, ho1] at g; cases g
              · rw [b2 _ _ z eh] at g; cases g
          refine ⟨_, _, _, rfl, rfl, b3 _ _ sr.symm e2r, small1000 (by omega), ?_⟩
          exact put H3 v d (b2.trans b3) S3 (Im.mono (fun _ _ _ e => e) fr _ _ iv) nd (m - 1) _ hm1 (by rw [na]; rfl) (by omega) _ _
      · refine iteF ?_
        refine ⟨_, rfl, .inl ⟨rfl, _, SqL.of h1⟩, _, rfl, _, rfl, s, l, wd, rfl, h6, hw, hw2, fun v d H3 nd na b3 S3 iv => ?_⟩
        refine ⟨_, _, _, rfl, rfl, b3 _ _ sr.symm h1, small1000 (by omega), ?_⟩
        exact put H3 v d b3 S3 iv nd (m - 1) _ hm1 (by rw [na]; rfl) (by omega) _ _
    · refine nxp ?_
      have hm : m = 0 := by
        cases m with
        | zero => rfl
        | succ m => exact absurd (decide_eq_true (by omega)) e
      subst hm
      have ht : Term wd ds := ⟨by have := h3 [] rfl; rwa [List.append_nil] at this, h4⟩
      refine ⟨_, rfl, _, _, rfl, .inl ⟨SqL.of h1, fun t nt => ?_⟩⟩
      obtain ⟨os1, hos1⟩ := h6.at_s
      obtain ⟨ol1, hol1⟩ := h6.at_l
      have ft : H t = Option.none := by
        cases eh : H t with
        | none => rfl
        | some o =>
          by_cases z : t = s
          · rw [z, hos1] at nt; cases nt
          · rw [h7 _ _ z eh] at nt; cases nt
      exact q _ ds _ ht (by omega) (h7.trans (But.of (same_upd nt))) (h6.put (ne_of_none hos1 nt) (ne_of_none hol1 nt)) (.tup ft upd_same (Im.monoAll (fun b o _ e => same_upd nt b o e) (fun _ g => g.1) _ _ h2))

theorem ok__law_is_table {f : Addr} {fd : FuncData} (F : Fun K "_law_is_table" "_law_is_table" s__law_is_table f fd) (E : Bi K mg) (D__law_is_term : Has P w K mg base 3 "_law_is_term" ["value"] (sp__law_is_term K)) (D__law_whole : Has P w K mg base 1 "_law_whole" ["value"] (sp__law_whole K)) : FnOk P w K mg base CX0 4 f fd ["value"] (sp__law_is_table K) := by
  obtain ⟨f__law_is_term, fd__law_is_term, G__law_is_term, g__law_is_term, kp__law_is_term, b__law_is_term⟩ := D__law_is_term
  obtain ⟨f__law_whole, fd__law_whole, G__law_whole, g__law_whole, kp__law_whole, b__law_whole⟩ := D__law_whole
  refine F.ok sc__law_is_table (fun vs H Q E h => ?_) (fun cdv A outer s H vs Q E' hr h => ?_)
  · obtain ⟨p, kvs, t, rfl, _⟩ := h
    rfl
  · obtain ⟨p, kvs, t, rfl, hp, ht, nt, hc, hl, q⟩ := h
    refine ⟨_, (pss_cons (ps_if (pt_not (pt_val (pe_callB call_isi (by rfl) E.b_isinstance (by decide +kernel) (pa_cons (pv 0) (pa_cons (pe_ty "dict" (by rfl) E.b_dict (by decide +kernel)) pa_nil))))) (pss_one (ps_ret pe_bl)) pss_nil)
      (pss_one (ps_ret (pe_callB (cr_all rfl) (by rfl) E.b_all (by decide +kernel) (pa_cons (pe_lock (pe_lc (own := [("number", 1)]) (g := gName 1) (tt := tYes) rfl sc__law_is_table.nd (pi_keys (pv 0)) (blkOk_by (N := N__law_is_table) (sc := defScope s__law_is_table) (by decide +kernel)) (fun _ _ _ _ _ => pg_name (i := 1) sc__law_is_table.nd rfl (Or.inl rfl)) (fun _ _ _ _ _ => pts_nil) (fun _ _ _ _ _ => (pe_and (pe_call G__law_whole (hr.mono (by decide)) (by rfl) g__law_whole kp__law_whole b__law_whole .nil pass0 (pa_cons (pv 1) pa_nil)) (pe_one (pe_call G__law_is_term (hr.mono (by decide)) (by rfl) g__law_is_term kp__law_is_term b__law_is_term .nil pass0 (pa_cons (pe_dget (hu_of hr) (pv 0) (pv 1) (fun _ _ => rfl)) pa_nil))))))) pa_nil))))), ?_⟩
    refine seq_ifN ?_
    refine ⟨_, rfl, _, _, _, _, _, rfl, .ty _, .base (.dK hp), kit_ty (show kitB "dict" "dict" = some true by decide +kernel), _, rfl, iteF ?_⟩
    refine ⟨p, _, hp, trivial, fun od => ?_⟩
    refine ⟨_, rfl, p, od, rfl, .inl ⟨kvs, upd_same, fun D hD => ?_⟩⟩
    have nf : notTup H p := .inr (.inl ⟨_, hp⟩)
    have TF := tab_put (o := .frz od (.dK kvs)) nf nt ht
    have sD := same_upd (o := .lst []) hD
    have Dp' : D ≠ p := fun z => by rw [z, upd_same] at hD; cases hD
    have hkl := TabK.len ht
    refine lc_it walk_keys (fun i H' => Same (upd H p (.frz od (.dK kvs))) H' ∧ H' D = some (.lst (List.replicate i (.bl true))))
      ⟨sD, upd_same⟩ (fun i H' _ h => h.1 _ _ upd_same) ?_ ?_
    · rintro i x HB HC hi ⟨sB, b1⟩ ⟨rfl, k, v, hk, rfl⟩
      obtain ⟨qq, hq1, hq2, hq3⟩ := TabK.get TF hk
      have hq2 : k = Sum.inl qq.1 := hq2
      subst hq2
      have hqm := List.mem_of_getElem? hq1
      have TC := tab_same sB nt TF
      obtain ⟨w0, hw0⟩ := valT_of hqm
      obtain ⟨q0, hq0, e0⟩ := valT_mem hw0
      rcases TabK.val qq.1 TC with ⟨_, w2⟩ | ⟨v1, w1, w2, w3, w4⟩
      · rw [hw0] at w2; cases w2
      · rw [hw0] at w3
        cases w3
        have gg : DGet HC p (.int qq.1) (some v1) := .inl ⟨kvs, Sum.inl qq.1, .inr ⟨od, sB _ _ upd_same⟩, rfl, w2.symm⟩
        refine ⟨rfl, _, rfl, _, .int qq.1, rfl, .int _, _, rfl, iteT ?_⟩
        refine ⟨_, rfl, _, rfl, p, v1, rfl, gg, v1, w0, rfl, w4, (by rw [← e0]; exact nt q0 hq0), (by rw [← e0]; exact hc q0 hq0), ?_⟩
        refine ⟨_, b1, small1000 (by rw [List.length_replicate]; omega), fun b o e => by rw [upd_ne (ne_of_none e hD)]; exact sB _ _ e, ?_⟩
        rw [upd_same, ← List.replicate_succ']
    · rintro HB ⟨sB, b1⟩
      refine ⟨sB _ _ upd_same, D, List.replicate kvs.length true, rfl, SqL.of (by rw [upd_ne Dp', b1, List.map_replicate]), ?_⟩
      rw [show (List.replicate kvs.length true).all id = true by simp]
      exact q _ (keep_frz hp sB)

theorem ok__law_table {f : Addr} {fd : FuncData} (F : Fun K "_law_table" "_law_table" s__law_table f fd) (E : Bi K mg) (D__law_draw : Has P w K mg base 1 "_law_draw" ["stream", "many"] (sp__law_draw K)) (D__law_term : Has P w K mg base 4 "_law_term" ["stream", "size", "widest"] (sp__law_term K)) : FnOk P w K mg base CX0 5 f fd ["stream"] (sp__law_table K) := by
  obtain ⟨f__law_draw, fd__law_draw, G__law_draw, g__law_draw, kp__law_draw, b__law_draw⟩ := D__law_draw
  obtain ⟨f__law_term, fd__law_term, G__law_term, g__law_term, kp__law_term, b__law_term⟩ := D__law_term
  refine F.ok sc__law_table (fun vs H Q E h => ?_) (fun cdv A outer s H vs Q E' hr h => ?_)
  · obtain ⟨s, l, rfl, _⟩ := h
    rfl
  · obtain ⟨s, l, rfl, hS, q⟩ := h
    have n9 : (2 : Nat) ^ 8 ≤ 2 ^ 9000 := Nat.pow_le_pow_right (by decide) (by decide)
    refine ⟨_, (pss_cons (ps_set (i := 1) sc__law_table.nd rfl (Or.inl rfl) pe_dnewK)
      (pss_cons (ps_for PassesOwn.never rfl (pi_range1 (by rfl) E.b_range (pa_cons (pe_call G__law_draw (hr.mono (by decide)) (by rfl) g__law_draw kp__law_draw b__law_draw .nil pass0 (pa_cons (pv 0) (pa_cons pe_int pa_nil))) pa_nil)) (pg_name (i := 2) sc__law_table.nd rfl (Or.inl rfl)) (pss_cons (ps_set (i := 3) sc__law_table.nd rfl (Or.inl rfl) (pe_call G__law_draw (hr.mono (by decide)) (by rfl) g__law_draw kp__law_draw b__law_draw .nil pass0 (pa_cons (pv 0) (pa_cons pe_int pa_nil))))
      (pss_cons (ps_dput (hu_of hr) (pv 1) (pv 3) (pe_call G__law_term (hr.mono (by decide)) (by rfl) g__law_term kp__law_term b__law_term .nil pass0 (pa_cons (pv 0) (pa_cons (pe_op op_add pe_int (pe_call G__law_draw (hr.mono (by decide)) (by rfl) g__law_draw kp__law_draw b__law_draw .nil pass0 (pa_cons (pv 0) (pa_cons pe_int pa_nil)))) (pa_cons pe_int pa_nil)))) (by rfl))
      (pss_one (ps_if (pt_cmpR op_eq (pe_call G__law_draw (hr.mono (by decide)) (by rfl) g__law_draw kp__law_draw b__law_draw .nil pass0 (pa_cons (pv 0) (pa_cons pe_int pa_nil))) pe_int (nomark _)) (pss_one (ps_dput (hu_of hr) (pv 1) (pv 3) (pe_tup (pa_cons (pe_tup (pa_cons pe_str (pa_cons (pv 3) pa_nil))) pa_nil)) (by rfl))) pss_nil)))))
      (pss_one (ps_ret (pv 1))))), ?_⟩
    refine seq_asg ?_
    refine fun p np => ?_
    refine gname (seq_any ?_)
    obtain ⟨os, hos⟩ := hS.at_s
    obtain ⟨ol, hol⟩ := hS.at_l
    have sp : s ≠ p := ne_of_none hos np
    have lp : l ≠ p := ne_of_none hol np
    have s0 : Same H (upd H p (.dK [])) := same_upd np
    refine ⟨_, rfl, s, l, 5, rfl, hS.keep s0, by decide, Nat.lt_of_lt_of_le (by decide) n9, fun n H1 n0 n1 b1 S1 => ?_⟩
    refine ⟨_, rfl, by omega, by omega, for_range (lo := 0) (n := n.toNat) (fun i σ H' => ∃ (vk vn : Option V) (kvs : List (Key × V)) (t : Tab), σ = [some (.ref s), some (.ref p), vk, vn] ∧ H' p = some (.dK kvs) ∧ TabK K H' kvs t ∧ Okt t ∧ (t.map (·.1)).Nodup ∧ t.length ≤ i ∧ (∀ x ∈ t, 0 ≤ x.1) ∧ Stm H' s l ∧ But s H H')
      ⟨none, none, [], [], rfl, b1 _ _ sp.symm upd_same, True.intro, (fun x h => nomatch h), by simp, Nat.le_refl _, (fun x h => nomatch h), S1, (But.of s0).trans b1⟩ ?_ ?_⟩
    · rintro i σ H2 hi ⟨vk, vn, kvs, t, rfl, h1, T, ok, dt, lt, t0, S2, b2⟩
      refine gname (seq_asg ?_)
      refine ⟨_, rfl, s, l, 6, rfl, S2, by decide, Nat.lt_of_lt_of_le (by decide) n9, fun m H3 m0 m1 b3 S3 => ?_⟩
      refine gname (seq_any ?_)
      refine ⟨_, rfl, _, rfl, s, l, 5, rfl, S3, by decide, Nat.lt_of_lt_of_le (by decide) n9, fun r H4 r0 r1 b4 S4 => ⟨_, _, rfl, rfl, ?_⟩⟩
      refine ⟨s, l, 1 + r, 6, rfl, S4, by omega, by omega, by decide, by decide, fun v ds H5 ht hlen b5 S5 iv => ?_⟩
      have bb := (b3.trans b4).trans b5
      have nt : TabN t := fun x hx => (ok x hx).1
      have T5 : TabK K H5 kvs t := TabK.mono (fun v ds hn hd => dp_but S2 bb hn hd) nt T
      have e5 := bb _ _ sp.symm h1
      have nd : ∀ d ∈ ds, NdA d := fun d hd => ⟨6, ht.nd d hd⟩
      have dv := Im.dp _ _ iv
      have hkl := TabK.len T
      have nf : notTup H5 p := .inr (.inl ⟨_, e5⟩)
      refine ⟨_, rfl, _, rfl, p, _, rfl, DPut.k (k := Sum.inl m) e5 (small1000 (by omega)), ?_⟩
      obtain ⟨t', z1, z2, z3, z4, z5, z6⟩ := TabK.put2 (n := m) (dp_put (o := .dK (putK kvs (Sum.inl m) v)) nf _ _ (tup_noL nd) dv) (tab_put (o := .dK (putK kvs (Sum.inl m) v)) nf nt T5)
      have ok' : Okt t' := fun x hx => by
        rcases z2 x hx with z | z
        · exact ok x z
        · rw [z.2]; exact ⟨nd, ht.cl, by omega⟩
      have t0' : ∀ x ∈ t', 0 ≤ x.1 := fun x hx => by
        rcases z2 x hx with z | ⟨z | z, _⟩
        · exact t0 x z
        · obtain ⟨y, hy, ey⟩ := List.mem_map.mp z
          rw [← ey]; exact t0 y hy
        · rw [z]; exact m0
      have put : ∀ {Ha : Hp} {o : HO}, But s H Ha → But s H (upd Ha p o) := fun {Ha o} b c u hc e => by rw [upd_ne (ne_of_none e np)]; exact b c u hc e
      have b6 : But s H (upd H5 p (.dK (putK kvs (Sum.inl m) v))) := put (b2.trans bb)
      have S6 := S5.put (o := .dK (putK kvs (Sum.inl m) v)) sp lp
      have e6 : (upd H5 p (.dK (putK kvs (Sum.inl m) v))) p = some (.dK (putK kvs (Sum.inl m) v)) := upd_same
      have l6 := TabK.len z1
      generalize putK kvs (Sum.inl m) v = kv2 at z1 b6 S6 e6 l6
      generalize upd H5 p (.dK kv2) = H6 at z1 b6 S6 e6
      refine nxp ?_
      refine ⟨_, rfl, s, l, 5, rfl, S6, by decide, Nat.lt_of_lt_of_le (by decide) n9, fun r2 H7 _ _ b7 S7 => ⟨rfl, _, rfl, ?_⟩⟩
      have nt' : TabN t' := fun x hx => (ok' x hx).1
      have T7 : TabK K H7 kv2 t' := TabK.mono (fun v ds hn hd => dp_but S6 b7 hn hd) nt' z1
      have e7 := b7 _ _ sp.symm e6
      refine ite2 (fun _ => ?_) (fun _ => ⟨_, _, kv2, t', rfl, e7, T7, ok', z3 dt, by omega, t0', S7, b6.trans b7⟩)
      refine ⟨_, rfl, (by show 2 ≤ sizeLine; decide), fun a na => ⟨(by show 1 ≤ sizeLine; decide), fun b nb => ?_⟩⟩
      obtain ⟨sv, dvar⟩ := mk_var (K := K) na nb
      have e8 := sv _ _ e7
      have T8 := tab_same sv nt' T7
      have S8 := S7.keep sv
      have b8 := (b6.trans b7).trans (But.of sv)
      generalize upd (upd H7 a (.tup [.str "v", .int m])) b (.tup [.ref a]) = H8 at sv dvar e8 T8 S8 b8
      refine ⟨_, rfl, _, rfl, p, _, rfl, DPut.k (k := Sum.inl m) e8 (small1000 (by omega)), ?_⟩
      have nf8 : notTup H8 p := .inr (.inl ⟨_, e8⟩)
      obtain ⟨t2, y1, y2, y3, y4, y5, y6⟩ := TabK.put2 (n := m) (dp_put (o := .dK (putK kv2 (Sum.inl m) (.ref b))) nf8 _ _ (tup_noL (var_nd m0)) dvar) (tab_put (o := .dK (putK kv2 (Sum.inl m) (.ref b))) nf8 nt' T8)
      have l2 := y5 z6
      refine ⟨_, _, _, t2, rfl, upd_same, y1, fun x hx => ?_, y3 (z3 dt), by omega, fun x hx => ?_, S8.put sp lp, put b8⟩
      · rcases y2 x hx with z | z
        · exact ok' x z
        · rw [z.2]; exact ⟨var_nd m0, ⟨by decide, rfl⟩, by show 1 ≤ 5; decide⟩
      · rcases y2 x hx with z | ⟨z | z, _⟩
        · exact t0' x z
        · obtain ⟨y, hy, ey⟩ := List.mem_map.mp z
          rw [← ey]; exact t0' y hy
        · rw [z]; exact m0
    · rintro σ H2 ⟨vk, vn, kvs, t, rfl, h1, T, ok, dt, lt, t0, S2, b2⟩
      exact nxp ⟨_, rfl, q p kvs t H2 b2 S2 np h1 T ok dt (by omega) t0⟩

theorem ok_law {f : Addr} {fd : FuncData} (F : Fun K "law" "law" s_law f fd) (E : Bi K mg) (D__law_stream : Has P w K mg base 1 "_law_stream" ["script"] (sp__law_stream K)) (D__law_term : Has P w K mg base 4 "_law_term" ["stream", "size", "widest"] (sp__law_term K)) (D__law_draw : Has P w K mg base 1 "_law_draw" ["stream", "many"] (sp__law_draw K)) (D__law_table : Has P w K mg base 5 "_law_table" ["stream"] (sp__law_table K)) (D__law_apply : Has P w K mg base 1 "_law_apply" ["table", "term"] (sp__law_apply K)) (D_apply : Has P w K mg base 2 "apply" ["substitution", "term"] (sp_apply K)) (D_compose : Has P w K mg base 3 "compose" ["first", "second"] (sp_compose K)) (D__law_same : Has P w K mg base 1 "_law_same" ["table", "rows"] (sp__law_same K)) (D__law_is_table : Has P w K mg base 4 "_law_is_table" ["value"] (sp__law_is_table K)) : FnOk P w K mg base CX0 6 f fd ["script"] (sp_law K) := by
  obtain ⟨f__law_stream, fd__law_stream, G__law_stream, g__law_stream, kp__law_stream, b__law_stream⟩ := D__law_stream
  obtain ⟨f__law_term, fd__law_term, G__law_term, g__law_term, kp__law_term, b__law_term⟩ := D__law_term
  obtain ⟨f__law_draw, fd__law_draw, G__law_draw, g__law_draw, kp__law_draw, b__law_draw⟩ := D__law_draw
  obtain ⟨f__law_table, fd__law_table, G__law_table, g__law_table, kp__law_table, b__law_table⟩ := D__law_table
  obtain ⟨f__law_apply, fd__law_apply, G__law_apply, g__law_apply, kp__law_apply, b__law_apply⟩ := D__law_apply
  obtain ⟨f_apply, fd_apply, G_apply, g_apply, kp_apply, b_apply⟩ := D_apply
  obtain ⟨f_compose, fd_compose, G_compose, g_compose, kp_compose, b_compose⟩ := D_compose
  obtain ⟨f__law_same, fd__law_same, G__law_same, g__law_same, kp__law_same, b__law_same⟩ := D__law_same
  obtain ⟨f__law_is_table, fd__law_is_table, G__law_is_table, g__law_is_table, kp__law_is_table, b__law_is_table⟩ := D__law_is_table
  refine F.ok sc_law (fun vs H Q E h => ?_) (fun cdv A outer s H vs Q E' hr h => ?_)
  · obtain ⟨a, ns, rfl, _⟩ := h
    rfl
  · obtain ⟨a, ns, rfl, hS, hl, q⟩ := h
    have n9 : (2 : Nat) ^ 8 ≤ 2 ^ 9000 := Nat.pow_le_pow_right (by decide) (by decide)
    refine ⟨_, (pss_cons (ps_set (i := 1) sc_law.nd rfl (Or.inl rfl) (pe_call G__law_stream (hr.mono (by decide)) (by rfl) g__law_stream kp__law_stream b__law_stream .nil pass0 (pa_cons (pv 0) pa_nil)))
      (pss_cons (ps_set (i := 2) sc_law.nd rfl (Or.inl rfl) (pe_call G__law_term (hr.mono (by decide)) (by rfl) g__law_term kp__law_term b__law_term .nil pass0 (pa_cons (pv 1) (pa_cons (pe_op op_add pe_int (pe_call G__law_draw (hr.mono (by decide)) (by rfl) g__law_draw kp__law_draw b__law_draw .nil pass0 (pa_cons (pv 1) (pa_cons pe_int pa_nil)))) (pa_cons pe_int pa_nil)))))
      (pss_cons (ps_set (i := 3) sc_law.nd rfl (Or.inr rfl) (pe_call G__law_table (hr.mono (by decide)) (by rfl) g__law_table kp__law_table b__law_table .nil pass0 (pa_cons (pv 1) pa_nil)))
      (pss_cons (ps_set (i := 4) sc_law.nd rfl (Or.inr rfl) (pe_call G__law_table (hr.mono (by decide)) (by rfl) g__law_table kp__law_table b__law_table .nil pass0 (pa_cons (pv 1) pa_nil)))
      (pss_cons (ps_lock (ps_setLc (i := 5) (own := [("number", 6)]) (g := gName 6) (tt := tYes) rfl sc_law.nd rfl rfl (by rfl) (pi_keys (pv 3)) (blkOk_by (N := N_law) (sc := defScope s_law) (by decide +kernel)) (fun _ _ _ _ _ => pg_name (i := 6) sc_law.nd rfl (Or.inl rfl)) (fun _ _ _ _ _ => pts_nil) (fun _ _ _ _ _ => (pe_tup (pa_cons (pv 6) (pa_cons (pe_dget (hu_of hr) (pv 3) (pv 6) (fun _ _ => rfl)) pa_nil))))))
      (pss_cons (ps_lock (ps_setLc (i := 7) (own := [("number", 6)]) (g := gName 6) (tt := tYes) rfl sc_law.nd rfl rfl (by rfl) (pi_keys (pv 4)) (blkOk_by (N := N_law) (sc := defScope s_law) (by decide +kernel)) (fun _ _ _ _ _ => pg_name (i := 6) sc_law.nd rfl (Or.inl rfl)) (fun _ _ _ _ _ => pts_nil) (fun _ _ _ _ _ => (pe_tup (pa_cons (pv 6) (pa_cons (pe_dget (hu_of hr) (pv 4) (pv 6) (fun _ _ => rfl)) pa_nil))))))
      (pss_cons (ps_set (i := 8) sc_law.nd rfl (Or.inl rfl) (pe_call G__law_apply (hr.mono (by decide)) (by rfl) g__law_apply kp__law_apply b__law_apply .nil pass0 (pa_cons (pv 3) (pa_cons (pv 2) pa_nil))))
      (pss_cons (ps_if (pw_or (pt_cmpR (op_neD hr.units) (pe_call G_apply (hr.mono (by decide)) (by rfl) g_apply kp_apply b_apply .nil pass0 (pa_cons (pv 3) (pa_cons (pv 2) pa_nil))) (pv 8) (nomark _)) (pw_or1 (pt_cmpR (op_neD hr.units) (pe_call G_apply (hr.mono (by decide)) (by rfl) g_apply kp_apply b_apply .nil pass0 (pa_cons pe_dnewK (pa_cons (pv 2) pa_nil))) (pv 2) (nomark _)))).pt (pss_one (ps_ret pe_bl)) pss_nil)
      (pss_cons (ps_set (i := 9) sc_law.nd rfl (Or.inr rfl) (pe_call G_compose (hr.mono (by decide)) (by rfl) g_compose kp_compose b_compose .nil pass0 (pa_cons (pv 3) (pa_cons (pv 4) pa_nil))))
      (pss_cons (ps_if (pw_or (pt_not (pt_val (pe_call G__law_is_table (hr.mono (by decide)) (by rfl) g__law_is_table kp__law_is_table b__law_is_table .nil pass0 (pa_cons (pv 9) pa_nil)))) (pw_or (pt_not (pt_val (pe_call G__law_same (hr.mono (by decide)) (by rfl) g__law_same kp__law_same b__law_same .nil pass0 (pa_cons (pv 3) (pa_cons (pv 5) pa_nil))))) (pw_or1 (pt_not (pt_val (pe_call G__law_same (hr.mono (by decide)) (by rfl) g__law_same kp__law_same b__law_same .nil pass0 (pa_cons (pv 4) (pa_cons (pv 7) pa_nil)))))))).pt (pss_one (ps_ret pe_bl)) pss_nil)
      (pss_cons (ps_lock (ps_for PassesOwn.never rfl (pi_keys (pv 9)) (pg_name (i := 6) sc_law.nd rfl (Or.inl rfl)) (pss_one (ps_if (pt_cmpR (op_eqD hr.units) (pe_dget (hu_of hr) (pv 9) (pv 6) (fun _ _ => rfl)) (pe_tup (pa_cons (pe_tup (pa_cons pe_str (pa_cons (pv 6) pa_nil))) pa_nil)) (nomark _)) (pss_one (ps_ret pe_bl)) pss_nil))))
      (pss_cons (ps_for PassesOwn.never rfl (pi_tup (pe_tup (pa_cons (pv 2) (pa_cons (pe_tup (pa_cons (pe_tup (pa_cons pe_str (pa_cons pe_int pa_nil))) pa_nil)) (pa_cons (pe_tup (pa_cons (pe_tup (pa_cons pe_str (pa_cons pe_int pa_nil))) pa_nil)) (pa_cons (pe_tup (pa_cons (pe_tup (pa_cons pe_str (pa_cons pe_int pa_nil))) pa_nil)) pa_nil)))))) (pg_name (i := 10) sc_law.nd rfl (Or.inl rfl)) (pss_one (ps_if (pt_cmpR (op_neD hr.units) (pe_call G__law_apply (hr.mono (by decide)) (by rfl) g__law_apply kp__law_apply b__law_apply .nil pass0 (pa_cons (pv 9) (pa_cons (pv 10) pa_nil))) (pe_call G__law_apply (hr.mono (by decide)) (by rfl) g__law_apply kp__law_apply b__law_apply .nil pass0 (pa_cons (pv 4) (pa_cons (pe_call G__law_apply (hr.mono (by decide)) (by rfl) g__law_apply kp__law_apply b__law_apply .nil pass0 (pa_cons (pv 3) (pa_cons (pv 10) pa_nil))) pa_nil))) (nomark _)) (pss_one (ps_ret pe_bl)) pss_nil)))
      (pss_cons (ps_lock (ps_for PassesOwn.never rfl (pi_keys (pv 9)) (pg_name (i := 6) sc_law.nd rfl (Or.inl rfl)) (pss_one (ps_if (pw_and (pt_cmp (pc_dnotin (hu_of hr) (pv 6) (pv 3))) (pw_and1 (pt_cmp (pc_dnotin (hu_of hr) (pv 6) (pv 4))))).pt (pss_one (ps_ret pe_bl)) pss_nil))))
      (pss_cons (ps_if (pt_cmpR (op_neD hr.units) (pe_call G_apply (hr.mono (by decide)) (by rfl) g_apply kp_apply b_apply .nil pass0 (pa_cons (pv 9) (pa_cons (pv 2) pa_nil))) (pe_call G__law_apply (hr.mono (by decide)) (by rfl) g__law_apply kp__law_apply b__law_apply .nil pass0 (pa_cons (pv 4) (pa_cons (pv 8) pa_nil))) (nomark _)) (pss_one (ps_ret pe_bl)) pss_nil)
      (pss_cons (ps_lock (ps_setLc (i := 11) (own := [("number", 6)]) (g := gName 6) (tt := tYes) rfl sc_law.nd rfl rfl (by rfl) (pi_keys (pv 9)) (blkOk_by (N := N_law) (sc := defScope s_law) (by decide +kernel)) (fun _ _ _ _ _ => pg_name (i := 6) sc_law.nd rfl (Or.inl rfl)) (fun _ _ _ _ _ => pts_nil) (fun _ _ _ _ _ => (pe_tup (pa_cons (pv 6) (pa_cons (pe_dget (hu_of hr) (pv 9) (pv 6) (fun _ _ => rfl)) pa_nil))))))
      (pss_cons (ps_dput (hu_of hr) (pv 9) pe_int (pe_tup (pa_cons pe_int pa_nil)) (by rfl))
      (pss_cons (ps_dput (hu_of hr) (pv 9) pe_int (pe_tup (pa_cons pe_int pa_nil)) (by rfl))
      (pss_cons (ps_set (i := 12) sc_law.nd rfl (Or.inr rfl) (pe_call G_compose (hr.mono (by decide)) (by rfl) g_compose kp_compose b_compose .nil pass0 (pa_cons (pv 3) (pa_cons (pv 4) pa_nil))))
      (pss_cons (ps_if (pw_or (pt_cmpR op_ne (pe_callB call_lenD (by rfl) E.b_len PySem.boot_len (pa_cons (pv 12) pa_nil)) (pe_callB call_len_seq (by rfl) E.b_len PySem.boot_len (pa_cons (pv 11) pa_nil)) (nomark _)) (pw_or (pt_not (pt_val (pe_call G__law_same (hr.mono (by decide)) (by rfl) g__law_same kp__law_same b__law_same .nil pass0 (pa_cons (pv 3) (pa_cons (pv 5) pa_nil))))) (pw_or1 (pt_not (pt_val (pe_call G__law_same (hr.mono (by decide)) (by rfl) g__law_same kp__law_same b__law_same .nil pass0 (pa_cons (pv 4) (pa_cons (pv 7) pa_nil)))))))).pt (pss_one (ps_ret pe_bl)) pss_nil)
      (pss_one (ps_ret (pe_callB (cr_all rfl) (by rfl) E.b_all (by decide +kernel) (pa_cons (pe_lc (own := [("pair", 13)]) (g := gName 13) (tt := tYes) rfl sc_law.nd (pi_list (pv 11)) (blkOk_by (N := N_law) (sc := defScope s_law) (by decide +kernel)) (fun _ _ _ _ _ => pg_name (i := 13) sc_law.nd rfl (Or.inl rfl)) (fun _ _ _ _ _ => pts_nil) (fun _ _ _ _ _ => (pe_and (pe_cmp (pc_din (hu_of hr) (pe_ix (show IxR _ (rIxT K) from ix_tup) (pv 13) pe_int (fun _ _ => rfl)) (pv 12))) (pe_one (pe_cmpR (show OpR _ (compareOp .Eq) (rEqD K) from op_eqD hr.units) (pe_dget (hu_of hr) (pv 12) (pe_ix (show IxR _ (rIxT K) from ix_tup) (pv 13) pe_int (fun _ _ => rfl)) (fun _ _ => rfl)) (pe_ix (show IxR _ (rIxT K) from ix_tup) (pv 13) pe_int (fun _ _ => rfl)) (nomark _)))))) pa_nil))))))))))))))))))))))), ?_⟩
    refine seq_asg ?_
    refine ⟨_, rfl, a, ns, rfl, hS, hl, fun s l H1 hs hl1 s1 S1 => ?_⟩
    refine gname (seq_asg ?_)
    refine ⟨_, rfl, _, rfl, s, l, 12, rfl, S1, by decide, Nat.lt_of_lt_of_le (by decide) n9, fun n H2 n0 n1 b2 S2 => ⟨_, _, rfl, rfl, ?_⟩⟩
    refine ⟨s, l, 1 + n, 6, rfl, S2, by omega, by omega, by decide, by decide, fun tv ds H3 ht hlen b3 S3 iv => ?_⟩
    have nds : ∀ d ∈ ds, NdA d := fun d hd => ⟨6, ht.nd d hd⟩
    have dtv := Im.dp _ _ iv
    have dlen : ds.length ≤ 12 := by omega
    clear iv hlen
    refine gname (seq_asg ?_)
    refine ⟨_, rfl, s, l, rfl, S3, fun p1 k1 t H4 b4 S4 np1 h1 T ok1 dt lt t0 => ?_⟩
    refine gname (seq_asg ?_)
    refine ⟨_, rfl, s, l, rfl, S4, fun p2 k2 u H5 b5 S5 np2 h2 U ok2 du lu u0 => ?_⟩
    refine gname (seq_any ?_)
    have nt : TabN t := fun x hx => (ok1 x hx).1
    have nu : TabN u := fun x hx => (ok2 x hx).1
    have p12 : p1 ≠ p2 := ne_of_none h1 np2
    have p1s : p1 ≠ s := fun z => by
      obtain ⟨_, _, _, _, e, _⟩ := S4.ex
      rw [z, e] at h1; cases h1
    have h1 := b5 _ _ p1s h1
    have T : TabK K H5 k1 t := TabK.mono (fun v ds hn hd => dp_but S4 b5 hn hd) nt T
    have dtv := dp_but S4 b5 nds (dp_but S3 b4 nds dtv)
    clear b2 b3 b4 b5 S1 S2 S3 S4 S5 hs hl1 s1 np1 np2 hS
    refine ⟨p1, _, h1, trivial, fun od => ?_⟩
    refine asg1 ?_
    refine ⟨_, rfl, p1, od, rfl, .inl ⟨k1, upd_same, fun r1 hD => ?_⟩⟩
    have nf : notTup H5 p1 := .inr (.inl ⟨_, h1⟩)
    have TF := tab_put (o := .frz od (.dK k1)) nf nt T
    have sD := same_upd (o := .lst []) hD
    have Dp' : r1 ≠ p1 := fun z => by rw [z, upd_same] at hD; cases hD
    refine lc_it walk_keys (fun i H' => ∃ ys, Same (upd H5 p1 (.frz od (.dK k1))) H' ∧ H' r1 = some (.lst ys) ∧ DpAll K H' ys ((t.take i).map rowD) ∧ ys.length = i)
      ⟨[], sD, upd_same, .nil, rfl⟩ (fun i H' _ ⟨_, e, _⟩ => e _ _ upd_same) ?_ ?_
    · rintro i x HB HC hi ⟨ys, sB, b1, b2, b3⟩ ⟨rfl, k, v, hk, rfl⟩
      obtain ⟨qq, hq1, hq2, hq3⟩ := TabK.get TF hk
      have hq2 : k = Sum.inl qq.1 := hq2
      subst hq2
      have hqm := List.mem_of_getElem? hq1
      have TC := tab_same sB nt TF
      have hlt := (List.getElem?_eq_some_iff.mp hq1).1
      have hlt2 := lt
      rcases TabK.val qq.1 TC with ⟨_, w2⟩ | ⟨v1, w1, w2, w3, w4⟩
      · rw [valT_at dt hqm] at w2; cases w2
      · rw [valT_at dt hqm] at w3
        cases w3
        have gg : DGet HC p1 (.int qq.1) (some v1) := .inl ⟨k1, Sum.inl qq.1, .inr ⟨od, sB _ _ upd_same⟩, rfl, w2.symm⟩
        refine ⟨rfl, _, rfl, _, rfl, _, rfl, p1, v1, rfl, gg, (by show 2 ≤ sizeLine; decide), fun z nz => ?_⟩
        have sz := same_upd (o := .tup [.int qq.1, v1]) nz
        have e2 := sz _ _ b1
        have nt2 : notTup (upd HC z (.tup [.int qq.1, v1])) r1 := .inl ⟨_, e2⟩
        refine ⟨ys, e2, small1000 (by omega), ys ++ [.ref z], (fun b o e => by rw [upd_ne (ne_of_none e hD)]; exact sz _ _ (sB _ _ e)), upd_same, ?_, by rw [List.length_append, b3]; rfl⟩
        rw [List.take_add_one, hq1, List.map_append]
        exact DpAll.app (dp_putAll nt2 _ _ (rows_noL fun x hx => nt x (List.mem_of_mem_take hx)) (dp_sameAll sz _ _ b2)) (.cons (dp_put nt2 _ _ (row_noL (nt qq hqm)) (.tup (SqT.of upd_same) (.cons (.int _) (.cons (dp_same sz _ _ w4) .nil)))) .nil)
    · rintro HB1 ⟨y1, sB, b1, b2, b3⟩
      rw [TabK.len T, List.take_length] at b2
      have fB := sB _ _ upd_same
      have nB : notTup HB1 p1 := .inr (.inr ⟨_, _, fB⟩)
      have b4 := dp_putAll (o := .dK k1) nB _ _ (rows_noL nt) b2
      have b5 := keep_frz h1 sB
      have b6 : (upd HB1 p1 (.dK k1)) r1 = some (.lst y1) := by rw [upd_ne Dp']; exact b1
      refine gname ?_
      refine ⟨fB, ?_⟩
      have h1' := b5 _ _ h1
      have h2' := b5 _ _ h2
      have T' := tab_same b5 nt T
      have U' := tab_same b5 nu U
      have D' := dp_same b5 _ _ dtv
      have g1' := b6
      have Y1' := b4
      clear T U h1 h2 dtv b4 b5 b6 nB fB b1 b2 b3 Dp' sD TF nf sB hD
      generalize upd HB1 p1 (.dK k1) = H6 at h1' h2' T' U' D' g1' Y1'
      refine seq_any ?_
      refine ⟨p2, _, h2', trivial, fun od => ?_⟩
      refine asg1 ?_
      refine ⟨_, rfl, p2, od, rfl, .inl ⟨k2, upd_same, fun r2 hD => ?_⟩⟩
      have nf : notTup H6 p2 := .inr (.inl ⟨_, h2'⟩)
      have TF := tab_put (o := .frz od (.dK k2)) nf nu U'
      have sD := same_upd (o := .lst []) hD
      have Dp' : r2 ≠ p2 := fun z => by rw [z, upd_same] at hD; cases hD
      refine lc_it walk_keys (fun i H' => ∃ ys, Same (upd H6 p2 (.frz od (.dK k2))) H' ∧ H' r2 = some (.lst ys) ∧ DpAll K H' ys ((u.take i).map rowD) ∧ ys.length = i)
        ⟨[], sD, upd_same, .nil, rfl⟩ (fun i H' _ ⟨_, e, _⟩ => e _ _ upd_same) ?_ ?_
      · rintro i x HB HC hi ⟨ys, sB, b1, b2, b3⟩ ⟨rfl, k, v, hk, rfl⟩
        obtain ⟨qq, hq1, hq2, hq3⟩ := TabK.get TF hk
        have hq2 : k = Sum.inl qq.1 := hq2
        subst hq2
        have hqm := List.mem_of_getElem? hq1
        have TC := tab_same sB nu TF
        have hlt := (List.getElem?_eq_some_iff.mp hq1).1
        have hlt2 := lu
        rcases TabK.val qq.1 TC with ⟨_, w2⟩ | ⟨v1, w1, w2, w3, w4⟩
        · rw [valT_at du hqm] at w2; cases w2
        · rw [valT_at du hqm] at w3
          cases w3
          have gg : DGet HC p2 (.int qq.1) (some v1) := .inl ⟨k2, Sum.inl qq.1, .inr ⟨od, sB _ _ upd_same⟩, rfl, w2.symm⟩
          refine ⟨rfl, _, rfl, _, rfl, _, rfl, p2, v1, rfl, gg, (by show 2 ≤ sizeLine; decide), fun z nz => ?_⟩
          have sz := same_upd (o := .tup [.int qq.1, v1]) nz
          have e2 := sz _ _ b1
          have nt2 : notTup (upd HC z (.tup [.int qq.1, v1])) r2 := .inl ⟨_, e2⟩
          refine ⟨ys, e2, small1000 (by omega), ys ++ [.ref z], (fun b o e => by rw [upd_ne (ne_of_none e hD)]; exact sz _ _ (sB _ _ e)), upd_same, ?_, by rw [List.length_append, b3]; rfl⟩
          rw [List.take_add_one, hq1, List.map_append]
          exact DpAll.app (dp_putAll nt2 _ _ (rows_noL fun x hx => nu x (List.mem_of_mem_take hx)) (dp_sameAll sz _ _ b2)) (.cons (dp_put nt2 _ _ (row_noL (nu qq hqm)) (.tup (SqT.of upd_same) (.cons (.int _) (.cons (dp_same sz _ _ w4) .nil)))) .nil)
      · rintro HB2 ⟨y2, sB, b1, b2, b3⟩
        rw [TabK.len U', List.take_length] at b2
        have fB := sB _ _ upd_same
        have nB : notTup HB2 p2 := .inr (.inr ⟨_, _, fB⟩)
        have b4 := dp_putAll (o := .dK k2) nB _ _ (rows_noL nu) b2
        have b5 := keep_frz h2' sB
        have b6 : (upd HB2 p2 (.dK k2)) r2 = some (.lst y2) := by rw [upd_ne Dp']; exact b1
        refine gname ?_
        refine ⟨fB, ?_⟩
        have F : Fx K (upd HB2 p2 (.dK k2)) p1 p2 r1 r2 k1 k2 t u y1 y2 tv ds :=
          ⟨b5 _ _ h1', b5 _ _ h2', tab_same b5 nt T', tab_same b5 nu U', b5 _ _ g1', b6, dp_sameAll b5 _ _ Y1', b4, dp_same b5 _ _ D'⟩
        clear T' U' h1' h2' g1' Y1' D' b4 b5 b6 nB fB b1 b2 b3 Dp' sD TF nf sB hD
        generalize upd HB2 p2 (.dK k2) = H6 at F
        refine nxp (seq_asg ?_)
        have bd : ∀ (t : Tab) (ds : List PyData), (∀ x ∈ t, x.2.length ≤ 25) → ds.length ≤ 12 → ∀ i, (appM t (ds.take i)).length ≤ 900 := fun t ds ht hl i => by
          have h1 : ∀ ds : List PyData, (appM t ds).length ≤ 25 * ds.length := fun ds => by
            induction ds with
            | nil => exact Nat.le_refl 0
            | cons d r ih =>
              have h2 : (appN t d).length ≤ 25 := by
                unfold appN
                split
                · cases e : valT t (numN d) with
                  | some w =>
                    obtain ⟨q, hq, e2⟩ := valT_mem e
                    have := ht q hq
                    rw [← e2]
                    exact this
                  | none => exact (by decide : 1 ≤ 25)
                · exact (by decide : 1 ≤ 25)
              show (appN t d ++ appM t r).length ≤ _
              rw [List.length_append, List.length_cons]
              omega
          have h2 := h1 (ds.take i)
          have h3 : (ds.take i).length ≤ 12 := by rw [List.length_take]; omega
          omega
        have bt : ∀ x ∈ t, x.2.length ≤ 25 := fun x hx => Nat.le_trans (ok1 x hx).2.2 (by decide)
        have bu : ∀ x ∈ u, x.2.length ≤ 25 := fun x hx => Nat.le_trans (ok2 x hx).2.2 (by decide)
        have l5 := app_len (fun x hx => (ok1 x hx).2.2) ds
        have ndu : ∀ d ∈ appM t ds, NdA d := appM_nd nt nds
        -- the second table applied to what the first gave
        have bd2 : ∀ es : List PyData, es.length ≤ 12 → ∀ i, (appM u ((appM t es).take i)).length ≤ 900 := fun es hl i => by
          have h0 := app_len (fun x hx => (ok1 x hx).2.2) es
          have h1 := app_len (fun x hx => (ok2 x hx).2.2) ((appM t es).take i)
          have h3 : ((appM t es).take i).length ≤ 60 := by rw [List.length_take]; omega
          omega
        refine ⟨_, rfl, _, rfl, p1, k1, t, tv, ds, rfl, F.h1, F.T, nt, F.D, nds, bd _ _ bt dlen, fun dv H7 s7 d7 => ?_⟩
        have F := F.same nt nu s7
        refine gname (seq_ifN ?_)
        refine ⟨_, rfl, _, rfl, p1, k1, t, tv, ds, rfl, F.h1, F.T, nt, F.D, nds, bd _ _ bt dlen, fun av H8 s8 d8 => ?_⟩
        have F := F.same nt nu s8
        have d7 := dp_same s8 _ _ d7
        refine ⟨_, rfl, _, _, d8, d7, tup_shaped ndu, tup_shaped ndu, _, rfl, ?_⟩
        rw [tup_eqv ndu]
        refine iteF ?_
        refine fun pe ne => ?_
        have se := same_upd (o := .dK []) ne
        have F := F.same nt nu se
        have d7 := dp_same se _ _ d7
        refine ⟨_, rfl, pe, [], [], tv, ds, rfl, upd_same, True.intro, (fun x h => nomatch h), F.D, nds, fun i => by rw [appM_nil, List.length_take]; omega, fun av2 H9 s9 d9 => ?_⟩
        have F := F.same nt nu s9
        have d7 := dp_same s9 _ _ d7
        rw [appM_nil] at d9
        refine ⟨_, rfl, _, _, d9, F.D, tup_shaped nds, tup_shaped nds, _, rfl, ?_⟩
        rw [tup_eqv nds]
        refine iteF (seq_asg ?_)
        -- compose
        have hcb : ∀ x ∈ t, ∀ i, (appM u (x.2.take i)).length ≤ 900 := fun x hx => bd _ _ bu (Nat.le_trans (ok1 x hx).2.2 (by decide))
        refine ⟨_, rfl, _, rfl, p1, p2, k1, k2, t, u, rfl, p12, F.h1, F.h2, F.T, F.U, nt, nu, dt, du, by omega, by omega, t0, u0, hcb, fun p3 k3 HA sA nA eA TA => ?_⟩
        have q1 : p1 ≠ p3 := ne_of_none F.h1 nA
        have q2 : p2 ≠ p3 := ne_of_none F.h2 nA
        have q3 : r1 ≠ p3 := ne_of_none F.g1 nA
        have q4 : r2 ≠ p3 := ne_of_none F.g2 nA
        have F := F.same nt nu sA
        have d7 := dp_same sA _ _ d7
        have okc := comp_ok ok1 ok2
        have nc : TabN (compT t u) := fun x hx => (okc x hx).1
        have bc : ∀ x ∈ compT t u, x.2.length ≤ 25 := fun x hx => (okc x hx).2.2
        have dc : ((compT t u).map (·.1)).Nodup := List.Sublist.nodup ((List.filter_sublist ..).map _) (comp_nodup dt du)
        have lc : (compT t u).length ≤ 8 := by
          have h1 : (compT t u).length ≤ _ := List.length_filter_le notOwn _
          have h2 := List.length_filter_le (newK t) u
          have h3 : (comp1 t u).length = t.length := List.length_map ..
          rw [List.length_append] at h1
          omega
        have ca : ∀ es : List PyData, (∀ d ∈ es, NdA d) → appM (compT t u) es = appM u (appM t es) := fun es he => comp_app nt nu (valT_compT dt du) he
        refine gname (seq_ifN ?_)
        refine ⟨_, rfl, p3, k3, _, rfl, eA, TA, nc, (fun x hx => (okc x hx).2.1), by omega, fun HB sB => ⟨_, rfl, iteF ?_⟩⟩
        have F := F.same nt nu sB
        refine ⟨_, rfl, _, rfl, p1, r1, k1, t, y1, rfl, F.h1, F.T, nt, dt, by omega, F.g1, F.Y1, fun HC sC => ⟨_, rfl, iteF ?_⟩⟩
        have F := F.same nt nu sC
        refine ⟨_, rfl, _, rfl, p2, r2, k2, u, y2, rfl, F.h2, F.U, nu, du, by omega, F.g2, F.Y2, fun HD sD => ⟨_, rfl, iteF ?_⟩⟩
        have F := F.same nt nu sD
        have sBD := (sB.trans sC).trans sD
        have eD := sBD _ _ eA
        have TD := tab_same sBD nc TA
        have d7 := dp_same sBD _ _ d7
        clear sA sB sC sD sBD nA eA TA se s9 d9 s8 d8 s7
        -- no key is its own value
        refine seq_any ?_
        refine ⟨p3, _, eD, trivial, fun od => ?_⟩
        have nfD : notTup HD p3 := .inr (.inl ⟨_, eD⟩)
        have TF := tab_put (o := .frz od (.dK k3)) nfD nc TD
        have lk3 := TabK.len TD
        refine ⟨_, rfl, p3, od, rfl, .inl ⟨k3, upd_same, for_it walk_keys (fun i σ H' => ∃ w6, σ = [some (.ref a), some (.ref s), some tv, some (.ref p1), some (.ref p2), some (.ref r1), w6, some (.ref r2), some dv, some (.ref p3), none, none, none, none] ∧ Same (upd HD p3 (.frz od (.dK k3))) H')
          ⟨none, rfl, Same.refl _⟩ (fun i σ H' _ ⟨_, _, e⟩ => e _ _ upd_same) ?_ ?_⟩⟩
        · rintro i x σ HE HF hi ⟨w6, rfl, sE⟩ ⟨rfl, k, v, hk, rfl⟩
          obtain ⟨qq, hq1, hq2, hq3⟩ := TabK.get TF hk
          have hq2 : k = Sum.inl qq.1 := hq2
          subst hq2
          have hqm := List.mem_of_getElem? hq1
          have TE := tab_same sE nc TF
          rcases TabK.val qq.1 TE with ⟨_, w2⟩ | ⟨v1, w1, w2, w3, w4⟩
          · rw [valT_at dc hqm] at w2; cases w2
          · rw [valT_at dc hqm] at w3
            cases w3
            have gg : DGet HF p3 (.int qq.1) (some v1) := .inl ⟨k3, Sum.inl qq.1, .inr ⟨od, sE _ _ upd_same⟩, rfl, w2.symm⟩
            refine gname ?_
            refine ⟨_, rfl, _, rfl, p3, v1, rfl, gg, _, rfl, (by show 2 ≤ sizeLine; decide), fun b1 n1 => ⟨(by show 1 ≤ sizeLine; decide), fun b2 n2 => ?_⟩⟩
            obtain ⟨sv, dvar⟩ := mk_var (K := K) n1 n2
            have hn0 : 0 ≤ qq.1 := by
              rcases comp_keys hqm with z | z
              · obtain ⟨y, hy, ey⟩ := List.mem_map.mp z
                rw [← ey]; exact t0 y hy
              · obtain ⟨y, hy, ey⟩ := List.mem_map.mp z
                rw [← ey]; exact u0 y hy
            refine ⟨_, _, dp_same sv _ _ w4, dvar, tup_shaped (nc qq hqm), tup_shaped (var_nd hn0), _, rfl, ?_⟩
            rw [comp_own hqm]
            exact iteF ⟨_, rfl, sE.trans sv⟩
        · rintro σ HE ⟨w6, rfl, sE⟩
          refine nxp ?_
          refine ⟨sE _ _ upd_same, ?_⟩
          have sK := keep_frz eD sE
          have F := F.same nt nu sK
          have nE : notTup HE p3 := .inr (.inr ⟨_, _, sE _ _ upd_same⟩)
          have TG := tab_put (o := .dK k3) nE nc (tab_same sE nc TF)
          have d7 := dp_same sK _ _ d7
          have eG : (upd HE p3 (.dK k3)) p3 = some (.dK k3) := upd_same
          clear sE sK nE TF nfD TD eD
          generalize upd HE p3 (.dK k3) = HG at F TG d7 eG
          -- four terms
          refine seq_any ?_
          refine ⟨_, rfl, (by show 2 ≤ sizeLine; decide), fun a1 m1 => ⟨(by show 1 ≤ sizeLine; decide), fun b1 m2 => ⟨(by show 2 ≤ sizeLine; decide), fun a2 m3 => ⟨(by show 1 ≤ sizeLine; decide), fun b2 m4 => ⟨(by show 2 ≤ sizeLine; decide), fun a3 m5 => ⟨(by show 1 ≤ sizeLine; decide), fun b3 m6 => ⟨(by show 4 ≤ sizeLine; decide), fun c mc => ?_⟩⟩⟩⟩⟩⟩⟩
          obtain ⟨sv1, dv1⟩ := mk_var (K := K) m1 m2
          obtain ⟨sv2, dv2⟩ := mk_var (K := K) m3 m4
          obtain ⟨sv3, dv3⟩ := mk_var (K := K) m5 m6
          have svc := same_upd (o := .tup [tv, .ref b1, .ref b2, .ref b3]) mc
          have sV := ((sv1.trans sv2).trans sv3).trans svc
          have F := F.same nt nu sV
          have TG := tab_same sV nc TG
          have d7 := dp_same sV _ _ d7
          have eG := sV _ _ eG
          have dv1 := dp_same ((sv2.trans sv3).trans svc) _ _ dv1
          have dv2 := dp_same (sv3.trans svc) _ _ dv2
          have dv3 := dp_same svc _ _ dv3
          have hcc : (upd (upd (upd (upd (upd (upd (upd HG a1 (.tup [.str "v", .int 0])) b1 (.tup [.ref a1])) a2 (.tup [.str "v", .int 3])) b2 (.tup [.ref a2])) a3 (.tup [.str "v", .int 5])) b3 (.tup [.ref a3])) c (.tup [tv, .ref b1, .ref b2, .ref b3])) c = some (.tup [tv, .ref b1, .ref b2, .ref b3]) := upd_same
          clear sv1 sv2 sv3 svc sV m1 m2 m3 m4 m5 m6 mc
          generalize upd (upd (upd (upd (upd (upd (upd HG a1 (.tup [.str "v", .int 0])) b1 (.tup [.ref a1])) a2 (.tup [.str "v", .int 3])) b2 (.tup [.ref a2])) a3 (.tup [.str "v", .int 5])) b3 (.tup [.ref a3])) c (.tup [tv, .ref b1, .ref b2, .ref b3]) = HH at F TG d7 eG dv1 dv2 dv3 hcc
          have row : ∀ (i : Nat) (x : V), [tv, .ref b1, .ref b2, .ref b3][i]? = some x → ∃ es, Dp K HH x (.tuple es) ∧ (∀ d ∈ es, NdA d) ∧ es.length ≤ 12 := fun i x hx => by
            have hm := List.mem_of_getElem? hx
            simp only [List.mem_cons, List.not_mem_nil, or_false] at hm
            rcases hm with z | z | z | z <;> subst z
            · exact ⟨ds, F.D, nds, dlen⟩
            · exact ⟨_, dv1, var_nd (by decide), by show 1 ≤ 12; decide⟩
            · exact ⟨_, dv2, var_nd (by decide), by show 1 ≤ 12; decide⟩
            · exact ⟨_, dv3, var_nd (by decide), by show 1 ≤ 12; decide⟩
          refine ⟨c, rfl, ⟨_, SqT.of hcc⟩, for_tup (K := K) (a := c) (xs := [tv, .ref b1, .ref b2, .ref b3]) (fun i σ H' => ∃ w10, σ = [some (.ref a), some (.ref s), some tv, some (.ref p1), some (.ref p2), some (.ref r1), w6, some (.ref r2), some dv, some (.ref p3), w10, none, none, none] ∧ Same HH H')
            ⟨none, rfl, Same.refl _⟩ (fun i σ H' _ ⟨_, _, e⟩ => SqT.of (e _ _ hcc)) ?_ ?_⟩
          · rintro i x σ HI hx ⟨w10, rfl, sI⟩
            obtain ⟨es, dx, nx, lx⟩ := row i x hx
            refine gname ?_
            have FI := F.same nt nu sI
            refine ⟨_, rfl, _, rfl, p3, k3, _, x, es, rfl, sI _ _ eG, tab_same sI nc TG, nc, dp_same sI _ _ dx, nx, bd _ _ bc lx, fun v1 H1 s1 d1 => ?_⟩
            have F1 := FI.same nt nu s1
            refine ⟨_, rfl, _, rfl, _, rfl, p1, k1, t, x, es, rfl, F1.h1, F1.T, nt, dp_same (sI.trans s1) _ _ dx, nx, bd _ _ bt lx, fun v2 H2 s2 d2 => ?_⟩
            have F2 := F1.same nt nu s2
            refine ⟨p2, k2, u, v2, _, rfl, F2.h2, F2.U, nu, d2, appM_nd nt nx, bd2 _ lx, fun v3 H3 s3 d3 => ?_⟩
            have n3 := appM_nd nu (appM_nd nt nx)
            have d1 := dp_same (s2.trans s3) _ _ d1
            rw [ca es nx] at d1
            refine ⟨_, _, d1, d3, tup_shaped n3, tup_shaped n3, _, rfl, ?_⟩
            rw [tup_eqv n3]
            exact iteF ⟨_, rfl, ((sI.trans s1).trans s2).trans s3⟩
          · rintro σ HI ⟨w10, rfl, sI⟩
            refine nxp (seq_any ?_)
            have F := F.same nt nu sI
            have TI := tab_same sI nc TG
            have eI := sI _ _ eG
            have d7 := dp_same sI _ _ d7
            clear sI hcc dv1 dv2 dv3 row TG eG
            -- the keys
            refine ⟨p3, _, eI, trivial, fun od => ?_⟩
            have nfD : notTup HI p3 := .inr (.inl ⟨_, eI⟩)
            have TF := tab_put (o := .frz od (.dK k3)) nfD nc TI
            have F' := F.put (o := .frz od (.dK k3)) nt nu nds nfD q1 q2 q3 q4
            refine ⟨_, rfl, p3, od, rfl, .inl ⟨k3, upd_same, for_it walk_keys (fun i σ H' => ∃ w6, σ = [some (.ref a), some (.ref s), some tv, some (.ref p1), some (.ref p2), some (.ref r1), w6, some (.ref r2), some dv, some (.ref p3), w10, none, none, none] ∧ H' = upd HI p3 (.frz od (.dK k3)))
              ⟨w6, rfl, rfl⟩ (fun i σ H' _ ⟨_, _, e⟩ => by rw [e]; exact upd_same) ?_ ?_⟩⟩
            · rintro i x σ HE HF hi ⟨w6, rfl, rfl⟩ ⟨rfl, k, v, hk, rfl⟩
              obtain ⟨qq, hq1, hq2, hq3⟩ := TabK.get TF hk
              have hq2 : k = Sum.inl qq.1 := hq2
              subst hq2
              have hqm := List.mem_of_getElem? hq1
              refine gname ?_
              refine ⟨_, rfl, _, rfl, p1, _, rfl, DGet.k (k := Sum.inl qq.1) F'.h1, _, rfl, ?_⟩
              by_cases hm : qq.1 ∈ t.map (·.1)
              · rw [TabK.some F'.T hm]
                exact iteF (iteF ⟨_, rfl, rfl⟩)
              · rw [TabK.none F'.T hm]
                refine iteT ?_
                refine ⟨_, rfl, _, rfl, p2, _, rfl, DGet.k (k := Sum.inl qq.1) F'.h2, _, rfl, ?_⟩
                rw [TabK.some F'.U ((comp_keys hqm).resolve_left hm)]
                exact iteF ⟨_, rfl, rfl⟩
            · rintro σ HE ⟨w6, rfl, rfl⟩
              refine nxp ?_
              refine ⟨upd_same, ?_⟩
              have sK := keep_frz eI (Same.refl (upd HI p3 (.frz od (.dK k3))))
              have F := F.same nt nu sK
              have TJ := tab_same sK nc TI
              have eJ := sK _ _ eI
              have d7 := dp_same sK _ _ d7
              clear F' TF nfD sK TI eI
              generalize upd (upd HI p3 (.frz od (.dK k3))) p3 (.dK k3) = HJ at F TJ eJ d7
              refine nxp (seq_ifN ?_)
              refine ⟨_, rfl, _, rfl, p3, k3, _, tv, ds, rfl, eJ, TJ, nc, F.D, nds, bd _ _ bc dlen, fun v1 H1 s1 d1 => ?_⟩
              have F := F.same nt nu s1
              have d7 := dp_same s1 _ _ d7
              refine ⟨_, rfl, _, rfl, p2, k2, u, dv, _, rfl, F.h2, F.U, nu, d7, ndu, bd2 _ dlen, fun v2 H2 s2 d2 => ?_⟩
              have F := F.same nt nu s2
              have n3 := appM_nd nu ndu
              have d1 := dp_same s2 _ _ d1
              rw [ca ds nds] at d1
              refine ⟨_, _, d1, d2, tup_shaped n3, tup_shaped n3, _, rfl, ?_⟩
              rw [tup_eqv n3]
              refine iteF (seq_any ?_)
              have s12 := s1.trans s2
              have TK := tab_same s12 nc TJ
              have eK := s12 _ _ eJ
              clear s1 s2 s12 d1 d2 TJ eJ d7
              refine ⟨p3, _, eK, trivial, fun od => ?_⟩
              refine asg1 ?_
              refine ⟨_, rfl, p3, od, rfl, .inl ⟨k3, upd_same, fun r3 hD => ?_⟩⟩
              have nf : notTup H2 p3 := .inr (.inl ⟨_, eK⟩)
              have TF := tab_put (o := .frz od (.dK k3)) nf nc TK
              have sD := same_upd (o := .lst []) hD
              have Dp' : r3 ≠ p3 := fun z => by rw [z, upd_same] at hD; cases hD
              refine lc_it walk_keys (fun i H' => ∃ ys, Same (upd H2 p3 (.frz od (.dK k3))) H' ∧ H' r3 = some (.lst ys) ∧ DpAll K H' ys (((compT t u).take i).map rowD) ∧ ys.length = i)
                ⟨[], sD, upd_same, .nil, rfl⟩ (fun i H' _ ⟨_, e, _⟩ => e _ _ upd_same) ?_ ?_
              · rintro i x HB HC hi ⟨ys, sB, b1, b2, b3⟩ ⟨rfl, k, v, hk, rfl⟩
                obtain ⟨qq, hq1, hq2, hq3⟩ := TabK.get TF hk
                have hq2 : k = Sum.inl qq.1 := hq2
                subst hq2
                have hqm := List.mem_of_getElem? hq1
                have TC := tab_same sB nc TF
                have hlt := (List.getElem?_eq_some_iff.mp hq1).1
                have hlt2 := lc
                rcases TabK.val qq.1 TC with ⟨_, w2⟩ | ⟨v1, w1, w2, w3, w4⟩
                · rw [valT_at dc hqm] at w2; cases w2
                · rw [valT_at dc hqm] at w3
                  cases w3
                  have gg : DGet HC p3 (.int qq.1) (some v1) := .inl ⟨k3, Sum.inl qq.1, .inr ⟨od, sB _ _ upd_same⟩, rfl, w2.symm⟩
                  refine ⟨rfl, _, rfl, _, rfl, _, rfl, p3, v1, rfl, gg, (by show 2 ≤ sizeLine; decide), fun z nz => ?_⟩
                  have sz := same_upd (o := .tup [.int qq.1, v1]) nz
                  have e2 := sz _ _ b1
                  have nt2 : notTup (upd HC z (.tup [.int qq.1, v1])) r3 := .inl ⟨_, e2⟩
                  refine ⟨ys, e2, small1000 (by omega), ys ++ [.ref z], (fun b o e => by rw [upd_ne (ne_of_none e hD)]; exact sz _ _ (sB _ _ e)), upd_same, ?_, by rw [List.length_append, b3]; rfl⟩
                  rw [List.take_add_one, hq1, List.map_append]
                  exact DpAll.app (dp_putAll nt2 _ _ (rows_noL fun x hx => nc x (List.mem_of_mem_take hx)) (dp_sameAll sz _ _ b2)) (.cons (dp_put nt2 _ _ (row_noL (nc qq hqm)) (.tup (SqT.of upd_same) (.cons (.int _) (.cons (dp_same sz _ _ w4) .nil)))) .nil)
              · rintro HB3 ⟨y3, sB, b1, b2, b3⟩
                rw [TabK.len TK, List.take_length] at b2
                have fB := sB _ _ upd_same
                have nB : notTup HB3 p3 := .inr (.inr ⟨_, _, fB⟩)
                have b4 := dp_putAll (o := .dK k3) nB _ _ (rows_noL nc) b2
                have b5 := keep_frz eK sB
                have b6 : (upd HB3 p3 (.dK k3)) r3 = some (.lst y3) := by rw [upd_ne Dp']; exact b1
                refine gname ?_
                refine ⟨fB, ?_⟩
                have F := F.same nt nu b5
                have eL : (upd HB3 p3 (.dK k3)) p3 = some (.dK k3) := upd_same
                have g3 := b6
                have Y3 := b4
                have r3p : r3 ≠ p3 := Dp'
                clear b4 b5 b6 nB fB b1 b2 b3 Dp' sD TF nf sB hD TK eK
                generalize upd HB3 p3 (.dK k3) = HL at F eL g3 Y3
                refine seq_any ?_
                refine ⟨(by show 1 ≤ sizeLine; decide), fun x1 m1 => ?_⟩
                have sx := same_upd (o := .tup [.int 1]) m1
                have F := F.same nt nu sx
                have eL := sx _ _ eL
                have g3 := sx _ _ g3
                have Y3 := dp_sameAll sx _ _ Y3
                refine ⟨_, rfl, p3, _, rfl, DPut.k (k := Sum.inl 99) eL (small1000 (by omega)), ?_⟩
                have nL : notTup (upd HL x1 (.tup [.int 1])) p3 := .inr (.inl ⟨_, eL⟩)
                have F := F.put (o := .dK (putK k3 (Sum.inl 99) (.ref x1))) nt nu nds nL q1 q2 q3 q4
                have Y3 := dp_putAll (o := .dK (putK k3 (Sum.inl 99) (.ref x1))) nL _ _ (rows_noL nc) Y3
                have g3 : (upd (upd HL x1 (.tup [.int 1])) p3 (.dK (putK k3 (Sum.inl 99) (.ref x1)))) r3 = some (.lst y3) := by rw [upd_ne r3p]; exact g3
                have eL : (upd (upd HL x1 (.tup [.int 1])) p3 (.dK (putK k3 (Sum.inl 99) (.ref x1)))) p3 = some (.dK (putK k3 (Sum.inl 99) (.ref x1))) := upd_same
                have lp : (putK k3 (Sum.inl 99) (.ref x1)).length ≤ k3.length + 1 := by
                  unfold putK
                  split
                  · rw [List.length_map]; exact Nat.le_succ _
                  · rw [List.length_append]; exact Nat.le_refl _
                clear nL sx m1
                generalize putK k3 (Sum.inl 99) (.ref x1) = k4 at F Y3 g3 eL lp
                generalize upd (upd HL x1 (.tup [.int 1])) p3 (.dK k4) = HM at F Y3 g3 eL
                refine nxp (seq_any ?_)
                refine ⟨(by show 1 ≤ sizeLine; decide), fun x2 m1 => ?_⟩
                have sx := same_upd (o := .tup [.int 2]) m1
                have F := F.same nt nu sx
                have eL := sx _ _ eL
                have g3 := sx _ _ g3
                have Y3 := dp_sameAll sx _ _ Y3
                refine ⟨_, rfl, p3, _, rfl, DPut.k (k := Sum.inl 0) eL (small1000 (by omega)), ?_⟩
                have nL : notTup (upd HM x2 (.tup [.int 2])) p3 := .inr (.inl ⟨_, eL⟩)
                have F := F.put (o := .dK (putK k4 (Sum.inl 0) (.ref x2))) nt nu nds nL q1 q2 q3 q4
                have Y3 := dp_putAll (o := .dK (putK k4 (Sum.inl 0) (.ref x2))) nL _ _ (rows_noL nc) Y3
                have g3 : (upd (upd HM x2 (.tup [.int 2])) p3 (.dK (putK k4 (Sum.inl 0) (.ref x2)))) r3 = some (.lst y3) := by rw [upd_ne r3p]; exact g3
                clear nL sx m1 eL
                generalize upd (upd HM x2 (.tup [.int 2])) p3 (.dK (putK k4 (Sum.inl 0) (.ref x2))) = HN at F Y3 g3
                refine nxp (seq_asg ?_)
                refine ⟨_, rfl, _, rfl, p1, p2, k1, k2, t, u, rfl, p12, F.h1, F.h2, F.T, F.U, nt, nu, dt, du, by omega, by omega, t0, u0, hcb, fun p5 k5 HO sO nO eO TO => ?_⟩
                have F := F.same nt nu sO
                have g3 := sO _ _ g3
                have Y3 := dp_sameAll sO _ _ Y3
                refine gname (seq_ifN ?_)
                have l5' := TabK.len TO
                have l3' := DpAll.len Y3
                rw [List.length_map] at l3'
                refine ⟨_, rfl, _, _, rfl, eO, _, rfl, _, _, rfl, .inl (SqL.of g3), rfl, _, rfl, ?_⟩
                rw [l5', l3', decide_eq_true rfl]
                refine iteF ?_
                refine ⟨_, rfl, _, rfl, p1, r1, k1, t, y1, rfl, F.h1, F.T, nt, dt, by omega, F.g1, F.Y1, fun HP sP => ⟨_, rfl, iteF ?_⟩⟩
                have F := F.same nt nu sP
                refine ⟨_, rfl, _, rfl, p2, r2, k2, u, y2, rfl, F.h2, F.U, nu, du, by omega, F.g2, F.Y2, fun HQ sQ => ⟨_, rfl, iteF ?_⟩⟩
                have sPQ := sP.trans sQ
                have g3 := sPQ _ _ g3
                have Y3 := dp_sameAll sPQ _ _ Y3
                have eO := sPQ _ _ eO
                have TO := tab_same sPQ nc TO
                refine ⟨_, rfl, r3, rfl, ⟨_, SqL.of g3⟩, fun D hD => ?_⟩
                have sD := same_upd (o := .lst []) hD
                have Dr : r3 ≠ D := ne_of_none g3 hD
                have Dq : p5 ≠ D := ne_of_none eO hD
                refine lc_list (K := K) (a := r3) (xs := y3) (fun i H' => Same HQ H' ∧ H' D = some (.lst (List.replicate i (.bl true))))
                  ⟨sD, upd_same⟩ (fun i H' _ h => SqL.of (h.1 _ _ g3)) ?_ ?_
                · rintro i y HR hi ⟨sR, b1⟩
                  obtain ⟨d, hd, dy0⟩ := DpAll.getV Y3 hi
                  rw [List.getElem?_map] at hd
                  obtain ⟨qq, hq1, rfl⟩ : ∃ qq, (compT t u)[i]? = some qq ∧ rowD qq = d := by
                    cases hr : (compT t u)[i]? with
                    | none => rw [hr] at hd; cases hd
                    | some q => rw [hr] at hd; exact ⟨q, rfl, Option.some.inj hd⟩
                  have hqm := List.mem_of_getElem? hq1
                  have hlt := (List.getElem?_eq_some_iff.mp hq1).1
                  have dy := dp_same sR _ _ dy0
                  have TR := tab_same sR nc TO
                  have eR := sR _ _ eO
                  unfold rowD at dy
                  cases dy with
                  | @tup c zs _ hz az =>
                  obtain ⟨z0, hz0, dz0⟩ := DpAll.get (i := 0) az rfl
                  obtain ⟨z1, hz1, dz1⟩ := DpAll.get (i := 1) az rfl
                  cases dz0
                  rcases TabK.val qq.1 TR with ⟨_, w2⟩ | ⟨v1, w1, w2, w3, w4⟩
                  · rw [valT_at dc hqm] at w2; cases w2
                  · rw [valT_at dc hqm] at w3
                    cases w3
                    have gg : DGet HR p5 (.int qq.1) (some v1) := .inl ⟨k5, Sum.inl qq.1, .inl eR, rfl, w2.symm⟩
                    refine ⟨rfl, _, rfl, _, _, _, _, rfl, rfl, hz, atI_nat (j := 0) hz0, _, rfl, p5, _, rfl, gg, _, rfl, iteT ?_⟩
                    refine ⟨_, rfl, _, rfl, _, _, _, _, rfl, rfl, hz, atI_nat (j := 0) hz0, p5, v1, rfl, gg, _, rfl, _, _, _, _, rfl, rfl, hz, atI_nat (j := 1) hz1, _, _, w4, dz1, tup_shaped (nc qq hqm), tup_shaped (nc qq hqm), ?_⟩
                    rw [tup_eqv (nc qq hqm)]
                    refine ⟨_, b1, small1000 (by rw [List.length_replicate]; omega), fun b o e => by rw [upd_ne (ne_of_none e hD)]; exact sR _ _ e, ?_⟩
                    rw [upd_same, ← List.replicate_succ']
                · rintro HR ⟨sR, b1⟩
                  refine ⟨D, List.replicate y3.length true, rfl, SqL.of (by rw [b1, List.map_replicate]), ?_⟩
                  rw [show (List.replicate y3.length true).all id = true by simp]
                  exact q _

end
/-! ### the end -/
theorem all_mk {l : PySem.W.OpenLaw} {w : World} {K : PySem.W.Frag} {h : Heap} {mg : Str → Option Value} {fa f1 f2 f3 f4 f5 f6 f7 f8 f9 f10 f11 f12 f13 f14 f15 f16 : Addr} (X : K.In h) (G : h.Ns mainGlobals mg) (hfa : mg "law" = some (.ref fa))
    {od1 an1 od2 an2 od3 an3 od4 an4 od5 an5 od6 an6 od7 an7 od8 an8 od9 an9 od10 an10 od11 an11 od12 an12 od13 an13 od14 an14 od15 an15 od16 an16 : Option Addr} {sl1 sl2 sl3 sl4 sl5 sl6 sl7 sl8 sl9 sl10 sl11 sl12 sl13 sl14 sl15 sl16 : Array (Option Value)} {oc1 kV1 dc1 pm1 cd1 ct1 oc2 kV2 dc2 pm2 cd2 ct2 oc3 kV3 dc3 pm3 cd3 ct3 oc4 kV4 dc4 pm4 cd4 ct4 oc5 kV5 dc5 pm5 cd5 ct5 oc6 kV6 dc6 pm6 cd6 ct6 oc7 kV7 dc7 pm7 cd7 ct7 oc8 kV8 dc8 pm8 cd8 ct8 oc9 kV9 dc9 pm9 cd9 ct9 oc10 kV10 dc10 pm10 cd10 ct10 oc11 kV11 dc11 pm11 cd11 ct11 oc12 kV12 dc12 pm12 cd12 ct12 oc13 kV13 dc13 pm13 cd13 ct13 oc14 kV14 dc14 pm14 cd14 ct14 oc15 kV15 dc15 pm15 cd15 ct15 oc16 kV16 dc16 pm16 cd16 ct16 : Value}

    (a1 : PySem.W.nsIn K mainGlobals "is_variable" = some (some (.ref f1))) (l1 : K.lookup f1 = some ⟨oc1, od1, .func (PySem.W.fnOf "is_variable" "is_variable" (defArgs s_is_variable) (defBody s_is_variable) (defScope s_is_variable) .none kV1 dc1 pm1 an1 cd1 ct1), sl1⟩) (c1 : PySem.W.codeIn K cd1 "is_variable" = true) (k1 : PySem.W.keepIn K (.ref f1) = true)
    (a2 : PySem.W.nsIn K mainGlobals "apply" = some (some (.ref f2))) (l2 : K.lookup f2 = some ⟨oc2, od2, .func (PySem.W.fnOf "apply" "apply" (defArgs s_apply) (defBody s_apply) (defScope s_apply) .none kV2 dc2 pm2 an2 cd2 ct2), sl2⟩) (c2 : PySem.W.codeIn K cd2 "apply" = true) (k2 : PySem.W.keepIn K (.ref f2) = true)
    (a3 : PySem.W.nsIn K mainGlobals "compose" = some (some (.ref f3))) (l3 : K.lookup f3 = some ⟨oc3, od3, .func (PySem.W.fnOf "compose" "compose" (defArgs s_compose) (defBody s_compose) (defScope s_compose) .none kV3 dc3 pm3 an3 cd3 ct3), sl3⟩) (c3 : PySem.W.codeIn K cd3 "compose" = true) (k3 : PySem.W.keepIn K (.ref f3) = true)
    (a4 : PySem.W.nsIn K mainGlobals "_law_stream" = some (some (.ref f4))) (l4 : K.lookup f4 = some ⟨oc4, od4, .func (PySem.W.fnOf "_law_stream" "_law_stream" (defArgs s__law_stream) (defBody s__law_stream) (defScope s__law_stream) .none kV4 dc4 pm4 an4 cd4 ct4), sl4⟩) (c4 : PySem.W.codeIn K cd4 "_law_stream" = true) (k4 : PySem.W.keepIn K (.ref f4) = true)
    (a5 : PySem.W.nsIn K mainGlobals "_law_draw" = some (some (.ref f5))) (l5 : K.lookup f5 = some ⟨oc5, od5, .func (PySem.W.fnOf "_law_draw" "_law_draw" (defArgs s__law_draw) (defBody s__law_draw) (defScope s__law_draw) .none kV5 dc5 pm5 an5 cd5 ct5), sl5⟩) (c5 : PySem.W.codeIn K cd5 "_law_draw" = true) (k5 : PySem.W.keepIn K (.ref f5) = true)
    (a6 : PySem.W.nsIn K mainGlobals "_law_name" = some (some (.ref f6))) (l6 : K.lookup f6 = some ⟨oc6, od6, .func (PySem.W.fnOf "_law_name" "_law_name" (defArgs s__law_name) (defBody s__law_name) (defScope s__law_name) .none kV6 dc6 pm6 an6 cd6 ct6), sl6⟩) (c6 : PySem.W.codeIn K cd6 "_law_name" = true) (k6 : PySem.W.keepIn K (.ref f6) = true)
    (a7 : PySem.W.nsIn K mainGlobals "_law_leaf" = some (some (.ref f7))) (l7 : K.lookup f7 = some ⟨oc7, od7, .func (PySem.W.fnOf "_law_leaf" "_law_leaf" (defArgs s__law_leaf) (defBody s__law_leaf) (defScope s__law_leaf) .none kV7 dc7 pm7 an7 cd7 ct7), sl7⟩) (c7 : PySem.W.codeIn K cd7 "_law_leaf" = true) (k7 : PySem.W.keepIn K (.ref f7) = true)
    (a8 : PySem.W.nsIn K mainGlobals "_law_term" = some (some (.ref f8))) (l8 : K.lookup f8 = some ⟨oc8, od8, .func (PySem.W.fnOf "_law_term" "_law_term" (defArgs s__law_term) (defBody s__law_term) (defScope s__law_term) .none kV8 dc8 pm8 an8 cd8 ct8), sl8⟩) (c8 : PySem.W.codeIn K cd8 "_law_term" = true) (k8 : PySem.W.keepIn K (.ref f8) = true)
    (a9 : PySem.W.nsIn K mainGlobals "_law_apply" = some (some (.ref f9))) (l9 : K.lookup f9 = some ⟨oc9, od9, .func (PySem.W.fnOf "_law_apply" "_law_apply" (defArgs s__law_apply) (defBody s__law_apply) (defScope s__law_apply) .none kV9 dc9 pm9 an9 cd9 ct9), sl9⟩) (c9 : PySem.W.codeIn K cd9 "_law_apply" = true) (k9 : PySem.W.keepIn K (.ref f9) = true)
    (a10 : PySem.W.nsIn K mainGlobals "_law_whole" = some (some (.ref f10))) (l10 : K.lookup f10 = some ⟨oc10, od10, .func (PySem.W.fnOf "_law_whole" "_law_whole" (defArgs s__law_whole) (defBody s__law_whole) (defScope s__law_whole) .none kV10 dc10 pm10 an10 cd10 ct10), sl10⟩) (c10 : PySem.W.codeIn K cd10 "_law_whole" = true) (k10 : PySem.W.keepIn K (.ref f10) = true)
    (a11 : PySem.W.nsIn K mainGlobals "_law_arity" = some (some (.ref f11))) (l11 : K.lookup f11 = some ⟨oc11, od11, .func (PySem.W.fnOf "_law_arity" "_law_arity" (defArgs s__law_arity) (defBody s__law_arity) (defScope s__law_arity) .none kV11 dc11 pm11 an11 cd11 ct11), sl11⟩) (c11 : PySem.W.codeIn K cd11 "_law_arity" = true) (k11 : PySem.W.keepIn K (.ref f11) = true)
    (a12 : PySem.W.nsIn K mainGlobals "_law_is_term" = some (some (.ref f12))) (l12 : K.lookup f12 = some ⟨oc12, od12, .func (PySem.W.fnOf "_law_is_term" "_law_is_term" (defArgs s__law_is_term) (defBody s__law_is_term) (defScope s__law_is_term) .none kV12 dc12 pm12 an12 cd12 ct12), sl12⟩) (c12 : PySem.W.codeIn K cd12 "_law_is_term" = true) (k12 : PySem.W.keepIn K (.ref f12) = true)
    (a13 : PySem.W.nsIn K mainGlobals "_law_is_table" = some (some (.ref f13))) (l13 : K.lookup f13 = some ⟨oc13, od13, .func (PySem.W.fnOf "_law_is_table" "_law_is_table" (defArgs s__law_is_table) (defBody s__law_is_table) (defScope s__law_is_table) .none kV13 dc13 pm13 an13 cd13 ct13), sl13⟩) (c13 : PySem.W.codeIn K cd13 "_law_is_table" = true) (k13 : PySem.W.keepIn K (.ref f13) = true)
    (a14 : PySem.W.nsIn K mainGlobals "_law_table" = some (some (.ref f14))) (l14 : K.lookup f14 = some ⟨oc14, od14, .func (PySem.W.fnOf "_law_table" "_law_table" (defArgs s__law_table) (defBody s__law_table) (defScope s__law_table) .none kV14 dc14 pm14 an14 cd14 ct14), sl14⟩) (c14 : PySem.W.codeIn K cd14 "_law_table" = true) (k14 : PySem.W.keepIn K (.ref f14) = true)
    (a15 : PySem.W.nsIn K mainGlobals "_law_same" = some (some (.ref f15))) (l15 : K.lookup f15 = some ⟨oc15, od15, .func (PySem.W.fnOf "_law_same" "_law_same" (defArgs s__law_same) (defBody s__law_same) (defScope s__law_same) .none kV15 dc15 pm15 an15 cd15 ct15), sl15⟩) (c15 : PySem.W.codeIn K cd15 "_law_same" = true) (k15 : PySem.W.keepIn K (.ref f15) = true)
    (a16 : PySem.W.nsIn K mainGlobals "law" = some (some (.ref f16))) (l16 : K.lookup f16 = some ⟨oc16, od16, .func (PySem.W.fnOf "law" "law" (defArgs s_law) (defBody s_law) (defScope s_law) .none kV16 dc16 pm16 an16 cd16 ct16), sl16⟩) (c16 : PySem.W.codeIn K cd16 "law" = true) (k16 : PySem.W.keepIn K (.ref f16) = true)
    (z0 : PySem.W.nsIn K mainGlobals "abs" = some none)
    (z1 : PySem.W.nsIn K mainGlobals "all" = some none)
    (z2 : PySem.W.nsIn K mainGlobals "bool" = some none)
    (z3 : PySem.W.nsIn K mainGlobals "dict" = some none)
    (z4 : PySem.W.nsIn K mainGlobals "int" = some none)
    (z5 : PySem.W.nsIn K mainGlobals "isinstance" = some none)
    (z6 : PySem.W.nsIn K mainGlobals "len" = some none)
    (z7 : PySem.W.nsIn K mainGlobals "list" = some none)
    (z8 : PySem.W.nsIn K mainGlobals "min" = some none)
    (z9 : PySem.W.nsIn K mainGlobals "range" = some none)
    (z10 : PySem.W.nsIn K mainGlobals "str" = some none)
    (z11 : PySem.W.nsIn K mainGlobals "tuple" = some none)
    : ∃ fd : FuncData, (∀ (s : Shared) (v : Value), BindsTo s fd ⟨[v], []⟩ [("script", v)]) ∧ ∀ base : Heap, K.In base → base.Ns mainGlobals mg → FnOk l.prog w K mg base CX0 6 fa fd ["script"] (sp_law K) := by
  have e := hfa.symm.trans (PySem.W.mg_of X G a16)
  cases e
  have F1 := fun_mk (st := s_is_variable) l1 c1 k1
  have b1 := F1.binds (ps := ["node"]) fun _ _ _ _ _ _ us hl => match us, hl with | [_], _ => rfl
  have F2 := fun_mk (st := s_apply) l2 c2 k2
  have b2 := F2.binds (ps := ["substitution", "term"]) fun _ _ _ _ _ _ us hl => match us, hl with | [_, _], _ => rfl
  have F3 := fun_mk (st := s_compose) l3 c3 k3
  have b3 := F3.binds (ps := ["first", "second"]) fun _ _ _ _ _ _ us hl => match us, hl with | [_, _], _ => rfl
  have F4 := fun_mk (st := s__law_stream) l4 c4 k4
  have b4 := F4.binds (ps := ["script"]) fun _ _ _ _ _ _ us hl => match us, hl with | [_], _ => rfl
  have F5 := fun_mk (st := s__law_draw) l5 c5 k5
  have b5 := F5.binds (ps := ["stream", "many"]) fun _ _ _ _ _ _ us hl => match us, hl with | [_, _], _ => rfl
  have F6 := fun_mk (st := s__law_name) l6 c6 k6
  have b6 := F6.binds (ps := ["stream"]) fun _ _ _ _ _ _ us hl => match us, hl with | [_], _ => rfl
  have F7 := fun_mk (st := s__law_leaf) l7 c7 k7
  have b7 := F7.binds (ps := ["stream", "widest"]) fun _ _ _ _ _ _ us hl => match us, hl with | [_, _], _ => rfl
  have F8 := fun_mk (st := s__law_term) l8 c8 k8
  have b8 := F8.binds (ps := ["stream", "size", "widest"]) fun _ _ _ _ _ _ us hl => match us, hl with | [_, _, _], _ => rfl
  have F9 := fun_mk (st := s__law_apply) l9 c9 k9
  have b9 := F9.binds (ps := ["table", "term"]) fun _ _ _ _ _ _ us hl => match us, hl with | [_, _], _ => rfl
  have F10 := fun_mk (st := s__law_whole) l10 c10 k10
  have b10 := F10.binds (ps := ["value"]) fun _ _ _ _ _ _ us hl => match us, hl with | [_], _ => rfl
  have F11 := fun_mk (st := s__law_arity) l11 c11 k11
  have b11 := F11.binds (ps := ["value"]) fun _ _ _ _ _ _ us hl => match us, hl with | [_], _ => rfl
  have F12 := fun_mk (st := s__law_is_term) l12 c12 k12
  have b12 := F12.binds (ps := ["value"]) fun _ _ _ _ _ _ us hl => match us, hl with | [_], _ => rfl
  have F13 := fun_mk (st := s__law_is_table) l13 c13 k13
  have b13 := F13.binds (ps := ["value"]) fun _ _ _ _ _ _ us hl => match us, hl with | [_], _ => rfl
  have F14 := fun_mk (st := s__law_table) l14 c14 k14
  have b14 := F14.binds (ps := ["stream"]) fun _ _ _ _ _ _ us hl => match us, hl with | [_], _ => rfl
  have F15 := fun_mk (st := s__law_same) l15 c15 k15
  have b15 := F15.binds (ps := ["table", "rows"]) fun _ _ _ _ _ _ us hl => match us, hl with | [_, _], _ => rfl
  have F16 := fun_mk (st := s_law) l16 c16 k16
  have E : Bi K mg := ⟨PySem.W.mg_none_of X G z0, PySem.W.mg_none_of X G z1, PySem.W.mg_none_of X G z2, PySem.W.mg_none_of X G z3, PySem.W.mg_none_of X G z4, PySem.W.mg_none_of X G z5, PySem.W.mg_none_of X G z6, PySem.W.mg_none_of X G z7, PySem.W.mg_none_of X G z8, PySem.W.mg_none_of X G z9, PySem.W.mg_none_of X G z10, PySem.W.mg_none_of X G z11⟩
  refine ⟨PySem.W.fnOf "law" "law" (defArgs s_law) (defBody s_law) (defScope s_law) .none kV16 dc16 pm16 an16 cd16 ct16, fun s v => .of_eq rfl, fun base _ _ => ?_⟩
  have D1 : Has l.prog w K mg base 1 "is_variable" ["node"] (sp_is_variable K) := ⟨_, _, ok_is_variable F1 E , PySem.W.mg_of X G a1, k1, b1⟩
  have D4 : Has l.prog w K mg base 1 "_law_stream" ["script"] (sp__law_stream K) := ⟨_, _, ok__law_stream F4 E , PySem.W.mg_of X G a4, k4, b4⟩
  have D5 : Has l.prog w K mg base 1 "_law_draw" ["stream", "many"] (sp__law_draw K) := ⟨_, _, ok__law_draw F5 E , PySem.W.mg_of X G a5, k5, b5⟩
  have D9 : Has l.prog w K mg base 1 "_law_apply" ["table", "term"] (sp__law_apply K) := ⟨_, _, ok__law_apply F9 E , PySem.W.mg_of X G a9, k9, b9⟩
  have D10 : Has l.prog w K mg base 1 "_law_whole" ["value"] (sp__law_whole K) := ⟨_, _, ok__law_whole F10 E , PySem.W.mg_of X G a10, k10, b10⟩
  have D15 : Has l.prog w K mg base 1 "_law_same" ["table", "rows"] (sp__law_same K) := ⟨_, _, ok__law_same F15 E , PySem.W.mg_of X G a15, k15, b15⟩
  have D2 : Has l.prog w K mg base 2 "apply" ["substitution", "term"] (sp_apply K) := ⟨_, _, ok_apply F2 E D1, PySem.W.mg_of X G a2, k2, b2⟩
  have D6 : Has l.prog w K mg base 2 "_law_name" ["stream"] (sp__law_name K) := ⟨_, _, ok__law_name F6 E D5, PySem.W.mg_of X G a6, k6, b6⟩
  have D11 : Has l.prog w K mg base 2 "_law_arity" ["value"] (sp__law_arity K) := ⟨_, _, ok__law_arity F11 E D10, PySem.W.mg_of X G a11, k11, b11⟩
  have D3 : Has l.prog w K mg base 3 "compose" ["first", "second"] (sp_compose K) := ⟨_, _, ok_compose F3 E D2, PySem.W.mg_of X G a3, k3, b3⟩
  have D7 : Has l.prog w K mg base 3 "_law_leaf" ["stream", "widest"] (sp__law_leaf K) := ⟨_, _, ok__law_leaf F7 E D5 D6, PySem.W.mg_of X G a7, k7, b7⟩
  have D12 : Has l.prog w K mg base 3 "_law_is_term" ["value"] (sp__law_is_term K) := ⟨_, _, ok__law_is_term F12 E D11, PySem.W.mg_of X G a12, k12, b12⟩
  have D8 : Has l.prog w K mg base 4 "_law_term" ["stream", "size", "widest"] (sp__law_term K) := ⟨_, _, ok__law_term F8 E D5 D6 D7, PySem.W.mg_of X G a8, k8, b8⟩
  have D13 : Has l.prog w K mg base 4 "_law_is_table" ["value"] (sp__law_is_table K) := ⟨_, _, ok__law_is_table F13 E D12 D10, PySem.W.mg_of X G a13, k13, b13⟩
  have D14 : Has l.prog w K mg base 5 "_law_table" ["stream"] (sp__law_table K) := ⟨_, _, ok__law_table F14 E D5 D8, PySem.W.mg_of X G a14, k14, b14⟩
  exact ok_law F16 E D4 D8 D5 D14 D9 D2 D3 D15 D13
end My
open PySem PySem.W PyProof.Rows
set_option maxRecDepth 100000 in
set_option maxHeartbeats 0 in
theorem PySem.Challenge.cw_hornbook_k07_substitutions_holds : PySem.Challenge.rw_hornbook_k07_substitutions.Holds := by
  w_on; o_law; k_head; (case hw => w_witness2)
  k_fill
  refine L2.walk_of (l := PySem.Challenge.rw_hornbook_k07_substitutions) (n := 63) (k := 6) (x := "script") (CX := fun _ => L2.CX0) (sp := fun w => My.sp_law _) rfl (by decide) rfl ⟨rfl, by decide, by decide⟩ (fun w h Y => PySem.W.kIn_of Y) ?F (fun _ _ a ns hl _ hS => ⟨a, ns, rfl, hS, hl, fun _ => rfl⟩) (fun _ _ _ _ _ h => h)
  case F =>
    intro w mg fa h KX G hmg
    refine' My.all_mk KX G hmg ?a1 ?l1 ?c1 ?k1 ?a2 ?l2 ?c2 ?k2 ?a3 ?l3 ?c3 ?k3 ?a4 ?l4 ?c4 ?k4 ?a5 ?l5 ?c5 ?k5 ?a6 ?l6 ?c6 ?k6 ?a7 ?l7 ?c7 ?k7 ?a8 ?l8 ?c8 ?k8 ?a9 ?l9 ?c9 ?k9 ?a10 ?l10 ?c10 ?k10 ?a11 ?l11 ?c11 ?k11 ?a12 ?l12 ?c12 ?k12 ?a13 ?l13 ?c13 ?k13 ?a14 ?l14 ?c14 ?k14 ?a15 ?l15 ?c15 ?k15 ?a16 ?l16 ?c16 ?k16 ?z0 ?z1 ?z2 ?z3 ?z4 ?z5 ?z6 ?z7 ?z8 ?z9 ?z10 ?z11
    (case a1 => k_is)
    (case l1 => k_is)
    (case c1 => k_is)
    (case k1 => k_is)
    (case a2 => k_is)
    (case l2 => k_is)
    (case c2 => k_is)
    (case k2 => k_is)
    (case a3 => k_is)
    (case l3 => k_is)
    (case c3 => k_is)
    (case k3 => k_is)
    (case a4 => k_is)
    (case l4 => k_is)
    (case c4 => k_is)
    (case k4 => k_is)
    (case a5 => k_is)
    (case l5 => k_is)
    (case c5 => k_is)
    (case k5 => k_is)
    (case a6 => k_is)
    (case l6 => k_is)
    (case c6 => k_is)
    (case k6 => k_is)
    (case a7 => k_is)
    (case l7 => k_is)
    (case c7 => k_is)
    (case k7 => k_is)
    (case a8 => k_is)
    (case l8 => k_is)
    (case c8 => k_is)
    (case k8 => k_is)
    (case a9 => k_is)
    (case l9 => k_is)
    (case c9 => k_is)
    (case k9 => k_is)
    (case a10 => k_is)
    (case l10 => k_is)
    (case c10 => k_is)
    (case k10 => k_is)
    (case a11 => k_is)
    (case l11 => k_is)
    (case c11 => k_is)
    (case k11 => k_is)
    (case a12 => k_is)
    (case l12 => k_is)
    (case c12 => k_is)
    (case k12 => k_is)
    (case a13 => k_is)
    (case l13 => k_is)
    (case c13 => k_is)
    (case k13 => k_is)
    (case a14 => k_is)
    (case l14 => k_is)
    (case c14 => k_is)
    (case k14 => k_is)
    (case a15 => k_is)
    (case l15 => k_is)
    (case c15 => k_is)
    (case k15 => k_is)
    (case a16 => k_is)
    (case l16 => k_is)
    (case c16 => k_is)
    (case k16 => k_is)
    (case z0 => k_is)
    (case z1 => k_is)
    (case z2 => k_is)
    (case z3 => k_is)
    (case z4 => k_is)
    (case z5 => k_is)
    (case z6 => k_is)
    (case z7 => k_is)
    (case z8 => k_is)
    (case z9 => k_is)
    (case z10 => k_is)
    (case z11 => k_is)
