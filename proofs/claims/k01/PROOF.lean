import PyProof.Rows.All
import Wide.All
import OpenK.AllK
import Wide.FinOn
import HandS.ForMost
import HandS.IsInst
import HandS.Wide
import HandS.Codes
import HandS.Style
import HandS.TupLe
import HandS.TupAny
import HandS.EndBits
import HandS.Walk
import HandS.Zip
import KE.LtData
import HandS.ForExc
import HandS.ExcIs
import HandS.RaiseMore
import HandS.FStr
import HandS.Star
import HandS.SetKeys
import HandS.WordsDict
import HandS.DictComp
import HandS.More
import PySem.Challenge.RW_hornbook_k01_build_terms
set_option Elab.async false
set_option linter.all false
set_option maxRecDepth 100000
set_option maxHeartbeats 4000000
set_option exponentiation.threshold 10000
namespace My
open PySem PySem.Spec PyProof.Rows L2
/-- a def of the text that keeps a promise, as its callers want it -/
def Has (P : Program) (w : World) (K : PySem.W.Frag) (mg : Str → Option Value) (base : Heap) (k : Nat) (x : Str) (ps : List Str) (sp : Sp) : Prop :=
  ∃ (f : Addr) (fd : FuncData), FnOk P w K mg base CX0 k f fd ps sp ∧ mg x = some (.ref f) ∧ PySem.W.keepIn K (.ref f) = true ∧ Binds K fd ps []
theorem same_upd {H : Hp} {p : Addr} {o : HO} (h : H p = none) : Same H (upd H p o) := fun b x e => by
  rw [upd_ne (ne_of_none e h)]
  exact e
/-- all but the object at s is as it was -/
def But (s : Addr) (H H' : Hp) : Prop := ∀ b o, b ≠ s → H b = some o → H' b = some o
theorem But.refl (s : Addr) (H : Hp) : But s H H := fun _ _ _ e => e
theorem But.trans {s : Addr} {H H1 H2 : Hp} (a : But s H H1) (b : But s H1 H2) : But s H H2 := fun c o hc e => b c o hc (a c o hc e)
theorem But.of {s : Addr} {H H' : Hp} (a : Same H H') : But s H H' := fun b o _ e => a b o e
theorem But.put {s : Addr} {H : Hp} {o : HO} : But s H (upd H s o) := fun b u hb e => by rw [upd_ne hb]; exact e
/-! ### what a value is -/
mutual
inductive Im (K : PySem.W.Frag) (G : Addr → Prop) (H : Hp) : V → PyData → Prop
  | non : Im K G H .non .none
  | bl (b : Bool) : Im K G H (.bl b) (.bool b)
  | int (i : Int) : Im K G H (.int i) (.int i)
  | str (x : Str) : Im K G H (.str x) (.str x)
  | lst {a : Addr} {xs : List V} {ds : List PyData} : G a → H a = some (.lst xs) → ImAll K G H xs ds → Im K G H (.ref a) (.list ds)
  | tup {a : Addr} {xs : List V} {ds : List PyData} : G a → H a = some (.tup xs) → ImAll K G H xs ds → Im K G H (.ref a) (.tuple ds)
inductive ImAll (K : PySem.W.Frag) (G : Addr → Prop) (H : Hp) : List V → List PyData → Prop
  | nil : ImAll K G H [] []
  | cons {v : V} {vs : List V} {d : PyData} {ds : List PyData} : Im K G H v d → ImAll K G H vs ds → ImAll K G H (v :: vs) (d :: ds)
end
section
variable {K : PySem.W.Frag} {G G' : Addr → Prop} {H H' : Hp}
mutual
theorem Im.mono (hH : ∀ b o, G b → H b = some o → H' b = some o) (hG : ∀ b, G b → G' b) : ∀ (d : PyData) (v : V), Im K G H v d → Im K G' H' v d
  | .none, _, h => by cases h; exact .non
  | .bool b, _, h => by cases h; exact .bl b
  | .int i, _, h => by cases h; exact .int i
  | .str x, _, h => by cases h; exact .str x
  | .list ds, _, h => by
    cases h with
    | lst g e ha => exact .lst (hG _ g) (hH _ _ g e) (Im.monoAll hH hG ds _ ha)
  | .tuple ds, _, h => by
    cases h with
    | tup g e ha => exact .tup (hG _ g) (hH _ _ g e) (Im.monoAll hH hG ds _ ha)
  | .dict _, _, h => by cases h
theorem Im.monoAll (hH : ∀ b o, G b → H b = some o → H' b = some o) (hG : ∀ b, G b → G' b) : ∀ (ds : List PyData) (vs : List V), ImAll K G H vs ds → ImAll K G' H' vs ds
  | [], _, h => by cases h; exact .nil
  | d :: ds, _, h => by
    cases h with
    | cons h1 h2 => exact .cons (Im.mono hH hG d _ h1) (Im.monoAll hH hG ds _ h2)
end
mutual
theorem Im.dp : ∀ (d : PyData) (v : V), Im K G H v d → Dp K H v d
  | .none, _, h => by cases h; exact .non
  | .bool b, _, h => by cases h; exact .bl b
  | .int i, _, h => by cases h; exact .int i
  | .str x, _, h => by cases h; exact .str x
  | .list ds, _, h => by
    cases h with
    | lst g e ha => exact .lst (SqL.of e) (Im.dpAll ds _ ha)
  | .tuple ds, _, h => by
    cases h with
    | tup g e ha => exact .tup (SqT.of e) (Im.dpAll ds _ ha)
  | .dict _, _, h => by cases h
theorem Im.dpAll : ∀ (ds : List PyData) (vs : List V), ImAll K G H vs ds → DpAll K H vs ds
  | [], _, h => by cases h; exact .nil
  | d :: ds, _, h => by
    cases h with
    | cons h1 h2 => exact .cons (Im.dp d _ h1) (Im.dpAll ds _ h2)
end
theorem ImAll.len : ∀ {vs : List V} {ds : List PyData}, ImAll K G H vs ds → vs.length = ds.length
  | _, _, .nil => rfl
  | _, _, .cons _ t => congrArg (· + 1) (ImAll.len t)
theorem ImAll.get : ∀ {vs : List V} {ds : List PyData} {i : Nat} {d : PyData}, ImAll K G H vs ds → ds[i]? = some d → ∃ v, vs[i]? = some v ∧ Im K G H v d
  | _, _, _, _, .nil, e => by simp at e
  | _, _, 0, _, .cons r _, e => by simp at e; subst e; exact ⟨_, rfl, r⟩
  | _, _, i + 1, _, .cons _ t, e => by
    obtain ⟨u, h1, h2⟩ := ImAll.get (i := i) t (by simpa using e)
    exact ⟨u, by simpa using h1, h2⟩
theorem ImAll.getV : ∀ {vs : List V} {ds : List PyData} {i : Nat} {v : V}, ImAll K G H vs ds → vs[i]? = some v → ∃ d, ds[i]? = some d ∧ Im K G H v d
  | _, _, _, _, .nil, e => by simp at e
  | _, _, 0, _, .cons r _, e => by simp at e; subst e; exact ⟨_, rfl, r⟩
  | _, _, i + 1, _, .cons _ t, e => by
    obtain ⟨u, h1, h2⟩ := ImAll.getV (i := i) t (by simpa using e)
    exact ⟨u, by simpa using h1, h2⟩
theorem ImAll.snoc : ∀ {vs : List V} {ds : List PyData} {v : V} {d : PyData}, ImAll K G H vs ds → Im K G H v d → ImAll K G H (vs ++ [v]) (ds ++ [d])
  | _, _, _, _, .nil, r => .cons r .nil
  | _, _, _, _, .cons q t, r => .cons q (ImAll.snoc t r)
theorem ImAll.app : ∀ {vs : List V} {ds : List PyData} {us : List V} {es : List PyData}, ImAll K G H vs ds → ImAll K G H us es → ImAll K G H (vs ++ us) (ds ++ es)
  | _, _, _, _, .nil, r => r
  | _, _, _, _, .cons q t, r => .cons q (ImAll.app t r)
end
section
variable {K : PySem.W.Frag} {H : Hp}
theorem DpAll.len : ∀ {vs : List V} {ds : List PyData}, DpAll K H vs ds → vs.length = ds.length
  | _, _, .nil => rfl
  | _, _, .cons _ t => congrArg (· + 1) (DpAll.len t)
theorem DpAll.get : ∀ {vs : List V} {ds : List PyData} {i : Nat} {d : PyData}, DpAll K H vs ds → ds[i]? = some d → ∃ v, vs[i]? = some v ∧ Dp K H v d
  | _, _, _, _, .nil, e => by simp at e
  | _, _, 0, _, .cons r _, e => by simp at e; subst e; exact ⟨_, rfl, r⟩
  | _, _, i + 1, _, .cons _ t, e => by
    obtain ⟨u, h1, h2⟩ := DpAll.get (i := i) t (by simpa using e)
    exact ⟨u, by simpa using h1, h2⟩
/-- the name of a value's class -/
def tyN : PyData → String
  | .none => "NoneType" | .bool _ => "bool" | .int _ => "int" | .str _ => "str" | .list _ => "list" | .tuple _ => "tuple" | .dict _ => "dict"
theorem tyx_of : ∀ {x : V} {d : PyData}, Dp K H x d → TyX K H x (.type (tyN d))
  | _, _, .non => .base .non
  | _, _, .bl b => .base (.bl b)
  | _, _, .int i => .base (.int i)
  | _, _, .str x => .base (.str x)
  | _, _, .lst h _ => by
    rcases h with (h | ⟨o, h⟩) | ⟨o, its, n, hk, hc, _⟩
    · exact .base (.lst h)
    · exact .base (.frz h)
    · exact .kList hk hc
  | _, _, .tup h _ => by
    rcases h with (h | ⟨o, h⟩) | ⟨o, its, n, hk, hc, _⟩
    · exact .base (.tup h)
    · exact .fTuple h
    · exact .kTuple hk hc
def isI : PyData → Bool
  | .int _ => true | .bool _ => true | _ => false
def isB : PyData → Bool
  | .bool _ => true | _ => false
def isS : PyData → Bool
  | .str _ => true | _ => false
def isT : PyData → Bool
  | .tuple _ => true | _ => false
def isL : PyData → Bool
  | .list _ => true | _ => false
theorem kitI (d : PyData) : kitB (tyN d) "int" = some (isI d) := by cases d <;> (show kitB _ "int" = _; simp only [tyN, isI]; decide +kernel)
theorem kitBo (d : PyData) : kitB (tyN d) "bool" = some (isB d) := by cases d <;> (show kitB _ "bool" = _; simp only [tyN, isB]; decide +kernel)
theorem kitS (d : PyData) : kitB (tyN d) "str" = some (isS d) := by cases d <;> (show kitB _ "str" = _; simp only [tyN, isS]; decide +kernel)
theorem kitT (d : PyData) : kitB (tyN d) "tuple" = some (isT d) := by cases d <;> (show kitB _ "tuple" = _; simp only [tyN, isT]; decide +kernel)
theorem kitL (d : PyData) : kitB (tyN d) "list" = some (isL d) := by cases d <;> (show kitB _ "list" = _; simp only [tyN, isL]; decide +kernel)
theorem isi_int {x : V} {d : PyData} {Q : VK} (h : Dp K H x d) (q : Q (.bl (isI d)) H) : rIsi K [x, .ty "int"] H Q := ⟨x, .ty "int", _, _, _, rfl, .ty _, tyx_of h, kit_ty (kitI d), q⟩
theorem isi_bool {x : V} {d : PyData} {Q : VK} (h : Dp K H x d) (q : Q (.bl (isB d)) H) : rIsi K [x, .ty "bool"] H Q := ⟨x, .ty "bool", _, _, _, rfl, .ty _, tyx_of h, kit_ty (kitBo d), q⟩
theorem isi_str {x : V} {d : PyData} {Q : VK} (h : Dp K H x d) (q : Q (.bl (isS d)) H) : rIsi K [x, .ty "str"] H Q := ⟨x, .ty "str", _, _, _, rfl, .ty _, tyx_of h, kit_ty (kitS d), q⟩
theorem isi_tup {x : V} {d : PyData} {Q : VK} (h : Dp K H x d) (q : Q (.bl (isT d)) H) : rIsi K [x, .ty "tuple"] H Q := ⟨x, .ty "tuple", _, _, _, rfl, .ty _, tyx_of h, kit_ty (kitT d), q⟩
theorem isi_list {x : V} {d : PyData} {Q : VK} (h : Dp K H x d) (q : Q (.bl (isL d)) H) : rIsi K [x, .ty "list"] H Q := ⟨x, .ty "list", _, _, _, rfl, .ty _, tyx_of h, kit_ty (kitL d), q⟩
end
/-! ### the stream of draws -/
structure Stm (H : Hp) (s l : Addr) : Prop where
  ex : ∃ (a b m : Int) (ns : List Int), H s = some (.lst [.ref l, .int a, .int b, .int m]) ∧ H l = some (.lst (ns.map V.int)) ∧ ns.length ≤ 63 ∧ 0 ≤ a ∧ 0 ≤ b ∧ 0 ≤ m ∧ m < 2147483647
theorem Stm.keep {H H' : Hp} {s l : Addr} (h : Stm H s l) (e : Same H H') : Stm H' s l := by
  obtain ⟨a, b, m, ns, h1, h2, r⟩ := h.ex
  exact ⟨a, b, m, ns, e _ _ h1, e _ _ h2, r⟩
/-- another object is changed -/
theorem Stm.put {H : Hp} {s l r : Addr} {o : HO} (h : Stm H s l) (h1 : s ≠ r) (h2 : l ≠ r) : Stm (upd H r o) s l := by
  obtain ⟨a, b, m, ns, e1, e2, q⟩ := h.ex
  exact ⟨a, b, m, ns, by rw [upd_ne h1]; exact e1, by rw [upd_ne h2]; exact e2, q⟩
theorem Stm.at_s {H : Hp} {s l : Addr} (h : Stm H s l) : ∃ o, H s = some o := by
  obtain ⟨a, b, m, ns, e1, e2, q⟩ := h.ex
  exact ⟨_, e1⟩
theorem Stm.at_l {H : Hp} {s l : Addr} (h : Stm H s l) : ∃ o, H l = some o := by
  obtain ⟨a, b, m, ns, e1, e2, q⟩ := h.ex
  exact ⟨_, e2⟩
/-- a constant of the module -/
def GV (mg : Str → Option Value) (x : Str) (v : V) : Prop := ∃ u, mg x = some u ∧ RelV v u
theorem pe_gC {X : Cx} {x : Str} {v : V} {pos : Pos} (hg : Gl X x) (h : GV X.mg x v) (hd : (x == ("__debug__" : Str)) = false := by decide) : PE X (.Name x pos) (tC v) := by
  obtain ⟨u, e, r⟩ := h
  exact pe_glob hg e r hd

/-! ### 'a' * 40 -/
section
variable {X : Cx}
theorem op_mulS : OpR X (binaryOp .Mult) (fun x y H Q => ∃ z i, x = .str z ∧ y = .int i ∧ MulOk z i ∧ Q (.str (Txt.mul z i)) H) := by
  intro pins s σ H x y v u Q I rx ry h
  obtain ⟨z, i, rfl, rfl, hk, q⟩ := h
  obtain ⟨t, rfl⟩ := rx
  obtain ⟨t', rfl⟩ := ry
  exact SB.mul hk fun t2 k => ⟨.str _, H, I.tok k, ⟨_, rfl⟩, q⟩
end
/-! ### data written out: each part of it is new -/
section
variable {K : PySem.W.Frag}
/-- an expression that makes data and changes nothing else -/
def Lit (K : PySem.W.Frag) (σ : L2.St) (t : TE) (d : PyData) : Prop := ∀ (H : Hp) (Q : VK), (∀ v H', Same H H' → Im K (fun b => H b = Option.none) H' v d → Q v H') → t σ H Q
def LitA (K : PySem.W.Frag) (σ : L2.St) (t : TA) (ds : List PyData) : Prop := ∀ (H : Hp) (Q : List V → Hp → Prop), (∀ vs H', Same H H' → ImAll K (fun b => H b = Option.none) H' vs ds → Q vs H') → t σ H Q
variable {σ : L2.St}
theorem lit_int {i : Int} : Lit K σ (tC (.int i)) (.int i) := fun H Q h => h _ H (Same.refl H) (.int i)
theorem lit_str {x : Str} : Lit K σ (tC (.str x)) (.str x) := fun H Q h => h _ H (Same.refl H) (.str x)
theorem lit_bl {b : Bool} : Lit K σ (tC (.bl b)) (.bool b) := fun H Q h => h _ H (Same.refl H) (.bl b)
theorem lit_non : Lit K σ (tC .non) .none := fun H Q h => h _ H (Same.refl H) .non
theorem litA_nil : LitA K σ tNil [] := fun H Q h => h _ H (Same.refl H) .nil
theorem litA_cons {t : TE} {ta : TA} {d : PyData} {ds : List PyData} (h1 : Lit K σ t d) (h2 : LitA K σ ta ds) : LitA K σ (tCons t ta) (d :: ds) := fun H Q h =>
  h1 H _ fun v H1 s1 i1 => h2 H1 _ fun vs H2 s2 i2 => h _ H2 (s1.trans s2) (.cons (Im.mono (fun b o _ e => s2 b o e) (fun _ e => e) _ _ i1) (Im.monoAll (fun _ _ _ e => e) (fun b e => s1.free e) _ _ i2))
theorem lit_tup {ta : TA} {ds : List PyData} (h1 : LitA K σ ta ds) (hz : ds.length ≤ sizeLine) : Lit K σ (tTup ta) (.tuple ds) := fun H Q h =>
  h1 H _ fun vs H1 s1 i1 => ⟨by rw [i1.len]; exact hz, fun p np => h _ _ (s1.trans (same_upd np)) (.tup (s1.free np) upd_same (Im.monoAll (fun b o _ e => same_upd np b o e) (fun _ e => e) _ _ i1))⟩
theorem lit_lst {ta : TA} {ds : List PyData} (h1 : LitA K σ ta ds) (hz : ds.length ≤ sizeLine) : Lit K σ (tLst ta) (.list ds) := fun H Q h =>
  h1 H _ fun vs H1 s1 i1 => ⟨by rw [i1.len]; exact hz, fun p np => h _ _ (s1.trans (same_upd np)) (.lst (s1.free np) upd_same (Im.monoAll (fun b o _ e => same_upd np b o e) (fun _ e => e) _ _ i1))⟩
/-- what is an int -/
theorem lit_neg {t : TE} {i : Int} (h1 : Lit K σ t (.int i)) : Lit K σ (tUn (rU fun i => .int (-i)) t) (.int (-i)) := fun H Q h =>
  h1 H _ fun v H1 s1 i1 => by
    cases i1
    exact ⟨_, rfl, h _ H1 s1 (.int _)⟩
theorem lit_sub {t u : TE} {i j : Int} (h1 : Lit K σ t (.int i)) (h2 : Lit K σ u (.int j)) : Lit K σ (tOp (rI0 fun i j => .int (i - j)) t u) (.int (i - j)) := fun H Q h =>
  h1 H _ fun v H1 s1 i1 => h2 H1 _ fun v2 H2 s2 i2 => by
    cases i1
    cases i2
    exact ⟨_, _, rfl, rfl, h _ H2 (s1.trans s2) (.int _)⟩
theorem lit_pow {t u : TE} {i j : Int} (h1 : Lit K σ t (.int i)) (h2 : Lit K σ u (.int j)) (hc : CPow i j) : Lit K σ (tOp (rI CPow fun i j => .int (i ^ j.toNat)) t u) (.int (i ^ j.toNat)) := fun H Q h =>
  h1 H _ fun v H1 s1 i1 => h2 H1 _ fun v2 H2 s2 i2 => by
    cases i1
    cases i2
    exact ⟨_, _, rfl, rfl, hc, h _ H2 (s1.trans s2) (.int _)⟩
theorem lit_mulS {t u : TE} {z : Str} {j : Int} (h1 : Lit K σ t (.str z)) (h2 : Lit K σ u (.int j)) (hc : MulOk z j) : Lit K σ (tOp (fun x y H Q => ∃ z i, x = .str z ∧ y = .int i ∧ MulOk z i ∧ Q (.str (Txt.mul z i)) H) t u) (.str (Txt.mul z j)) := fun H Q h =>
  h1 H _ fun v H1 s1 i1 => h2 H1 _ fun v2 H2 s2 i2 => by
    cases i1
    cases i2
    exact ⟨_, _, rfl, rfl, hc, h _ H2 (s1.trans s2) (.str _)⟩
end
section
variable {X : Cx} {pos : Pos}
/-- a built-in class as a value -/
theorem pe_ty {x : Str} (n : String) (hg : Gl X x) (hm : X.mg x = Option.none) (hv : bootBuiltins x = some (.type n)) (hn : x ≠ "__name__" := by decide) (hd : (x == ("__debug__" : Str)) = false := by decide) : PE X (.Name x pos) (tC (.ty n)) :=
  pe_bltn hg hm hv rfl hn hd
end
section
variable {K : PySem.W.Frag} {H H' : Hp}
theorem same_sqT {a : Addr} {xs : List V} (e : Same H H') (h : SqT K H a xs) : SqT K H' a xs := by
  rcases h with (h | ⟨o, h⟩) | h
  · exact .inl (.inl (e _ _ h))
  · exact .inl (.inr ⟨o, e _ _ h⟩)
  · exact .inr h
mutual
theorem dp_same (e : Same H H') : ∀ (d : PyData) (v : V), Dp K H v d → Dp K H' v d
  | .none, _, h => by cases h; exact .non
  | .bool b, _, h => by cases h; exact .bl b
  | .int i, _, h => by cases h; exact .int i
  | .str x, _, h => by cases h; exact .str x
  | .list ds, _, h => by
    cases h with
    | lst g ha => exact .lst (e.seq g) (dp_sameAll e ds _ ha)
  | .tuple ds, _, h => by
    cases h with
    | tup g ha => exact .tup (same_sqT e g) (dp_sameAll e ds _ ha)
  | .dict _, _, h => by cases h
theorem dp_sameAll (e : Same H H') : ∀ (ds : List PyData) (vs : List V), DpAll K H vs ds → DpAll K H' vs ds
  | [], _, h => by cases h; exact .nil
  | d :: ds, _, h => by
    cases h with
    | cons h1 h2 => exact .cons (dp_same e d _ h1) (dp_sameAll e ds _ h2)
end
end
theorem small_of {n : Nat} (h : n ≤ 1000) : n ≤ sizeLine := Nat.le_of_lt (small1000 h)
theorem seq_asg {te : TE} {g : TG} {u : TS} {D : Ends} {σ : L2.St} {H : Hp} (h : te σ H fun x H1 => g x σ H1 (u D)) : tSeq (tAsg te g) u D σ H := h
theorem gname {i : Nat} {v : V} {σ : L2.St} {H : Hp} {Q : L2.St → Hp → Prop} (h : Q (σ.set i (some v)) H) : gName i v σ H Q := h
theorem nxp {N : L2.St → Hp → Prop} {R : VK} {B C : L2.St → Hp → Prop} {σ : L2.St} {H : Hp} (h : N σ H) : ({ nx := N, rt := R, bk := B, ct := C } : Ends).nx σ H := h
theorem seq_if {c : TT} {t t2 : TS} {u : TS} {D : Ends} {σ : L2.St} {H : Hp} (h : c σ H fun b H1 => if b = true then t { D with nx := u D } σ H1 else t2 { D with nx := u D } σ H1) : tSeq (tIfS c t t2) u D σ H := h
theorem seq_ifN {c : TT} {t : TS} {u : TS} {D : Ends} {σ : L2.St} {H : Hp} (h : c σ H fun b H1 => if b = true then t { D with nx := u D } σ H1 else u D σ H1) : tSeq (tIfS c t tNext) u D σ H := h
theorem seq_any {t : TS} {u : TS} {D : Ends} {σ : L2.St} {H : Hp} (h : t { D with nx := u D } σ H) : tSeq t u D σ H := h
theorem asg1 {te : TE} {g : TG} {D : Ends} {σ : L2.St} {H : Hp} (h : te σ H fun x H1 => g x σ H1 D.nx) : tAsg te g D σ H := h
section
variable {K : PySem.W.Frag} {G G' : Addr → Prop} {H H' : Hp}
mutual
theorem Im.mono2 (hH : ∀ b o, G b → H b = some o → H' b = some o) (hG : ∀ b o, H b = some o → G b → G' b) : ∀ (d : PyData) (v : V), Im K G H v d → Im K G' H' v d
  | .none, _, h => by cases h; exact .non
  | .bool b, _, h => by cases h; exact .bl b
  | .int i, _, h => by cases h; exact .int i
  | .str x, _, h => by cases h; exact .str x
  | .list ds, _, h => by
    cases h with
    | lst g e ha => exact .lst (hG _ _ e g) (hH _ _ g e) (Im.mono2All hH hG ds _ ha)
  | .tuple ds, _, h => by
    cases h with
    | tup g e ha => exact .tup (hG _ _ e g) (hH _ _ g e) (Im.mono2All hH hG ds _ ha)
  | .dict _, _, h => by cases h
theorem Im.mono2All (hH : ∀ b o, G b → H b = some o → H' b = some o) (hG : ∀ b o, H b = some o → G b → G' b) : ∀ (ds : List PyData) (vs : List V), ImAll K G H vs ds → ImAll K G' H' vs ds
  | [], _, h => by cases h; exact .nil
  | d :: ds, _, h => by
    cases h with
    | cons h1 h2 => exact .cons (Im.mono2 hH hG d _ h1) (Im.mono2All hH hG ds _ h2)
end
end
theorem join_set {c : Prop} [Decidable c] {v : V} {i : Nat} {u : TS} {D : Ends} {σ : L2.St} {H : Hp} (P : L2.St → Prop) (h : ∀ σ2, P σ2 → u D σ2 H) (h1 : c → P (σ.set i (some v))) (h2 : ¬ c → P σ) :
    if c then tAsg (tC v) (gName i) { D with nx := u D } σ H else u D σ H := by
  by_cases hc : c
  · rw [if_pos hc]
    exact h _ (h1 hc)
  · rw [if_neg hc]
    exact h _ (h2 hc)
/-- a constant tuple of the module, by its data -/
def GC (K : PySem.W.Frag) (mg : Str → Option Value) (x : Str) (d : PyData) : Prop := ∃ (u : Value) (v : V), mg x = some u ∧ RelV v u ∧ Dp K (fun _ => Option.none) v d
theorem none_same (H : Hp) : Same (fun _ => Option.none) H := fun _ _ e => nomatch e
theorem kt_of {K : PySem.W.Frag} {a : Addr} {its : Array Value} {n : Nat} {dd : Option Addr} {sl : Array (Option Value)} {xs : List V} {ds : List PyData} (h : K.lookup a = some ⟨.type "tuple", dd, .seq its n, sl⟩) (hz : its.size ≤ 1000) (hv : Vals xs its.toList) (ha : DpAll K (fun _ => Option.none) xs ds) :
    Dp K (fun _ => Option.none) (.ref a) (.tuple ds) := .tup (.inr ⟨_, its, n, h, rfl, rfl, Nat.le_trans hz (by decide), hv⟩) ha
/-! ### list.extend(tuple) -/
section
open Builtin
theorem extT (l b : Addr) (xs ys : Array Value) (n k : Nat) (dd : Option Addr) (sl : Array (Option Value)) (hlong : ¬(!xs.isEmpty && Builtin.List.listTooLong (xs.size + ys.size)) = true) (h1 : xs.size ≤ sizeLine) (h2 : xs.size + ys.size ≤ sizeLine + 1) :
    Meets (Builtin.«list.extend» ⟨[.ref l, .ref b], []⟩) (fun _ R s => s.heap.get? l = some { cls := .type "list", dict := none, data := .seq xs n, slots := #[] } ∧ s.heap.get? b = some { cls := .type "tuple", dict := dd, data := .seq ys k, slots := sl } ∧ R (.ok (.ret Value.none)) { s with heap := s.heap.update l (Obj.mapSeq fun x => x ++ ys), toks := s.toks }) := by
  refine .of_wp fun prog w A R s h => ?_
  obtain ⟨hp, g, d, tk, os⟩ := s
  obtain ⟨ea, eb, q⟩ := h
  have i1 := AutoSeq1.idx_int
  have i2 := AutoSeq1.sub_tuple_tuple
  have i3 := AutoSeq1.sub_list_list
  have i4 := AutoSeq1.sub_tuple_list
  have i5 := AutoSeq1.sub_list_tuple
  have hz : (xs ++ ys).size ≤ sizeLine + 1 := by rw [Array.size_append]; exact h2
  wp_walk using (wpAny_updateSeq ea rfl (hz := h1) (_hz' := hz)), AutoSeq1.wpAny_loadPart' ea, AutoSeq1.wpAny_loadPart' eb
  exact ⟨_, rfl, q⟩
end
section
variable {X : Cx}
def rExtT (K : PySem.W.Frag) : V → List V → Hp → VK → Prop := fun x vs H Q => ∃ l b xs zs, x = .ref l ∧ vs = [.ref b] ∧ H l = some (.lst xs) ∧ SqT K H b zs ∧ xs.length + zs.length ≤ sizeLine ∧ Q .non (upd H l (.lst (xs ++ zs)))
theorem mt_extT : MtR X "list.extend" (rExtT X.K) := by
  intro pins s σ H x vs v us Q I rx rv h
  obtain ⟨l, b, xs, zs, rfl, rfl, hH, hB, hz, q⟩ := h
  cases rx
  obtain ⟨u, rfl, ru⟩ := rv.one
  cases ru
  obtain ⟨z, its, n, r, hl, e⟩ := I.lstM hH
  obtain ⟨its2, r2, ⟨⟨oc, od, dt, sl⟩, e2, ec, k2, ed⟩, _⟩ := I.tuple hB
  simp only at ec ed
  subst ec ed
  have z1 := r.length
  have z2 := r2.length
  have hsz : its.toArray.size + its2.toArray.size ≤ sizeLine := by rw [List.size_toArray, List.size_toArray]; omega
  have nl : ¬ (!its.toArray.isEmpty && Builtin.List.listTooLong (its.toArray.size + its2.toArray.size)) = true := by
    rw [notLongL hsz, Bool.and_false]
    exact Bool.false_ne_true
  refine call_meets F.slot_list_extend ⟨_, e, rfl⟩ F.entry_list_extend (F.args_list_extend_2 _ _) (extT l b its.toArray its2.toArray n k2 od sl nl (by rw [List.size_toArray]; omega) (by omega)) ⟨e, e2, ?_⟩
  refine ⟨.non, _, I.lset (its' := its ++ its2) hH e (by simp) (r.append r2) ?_, rfl, q⟩
  rw [List.length_append]
  omega
/-! ### x in (a, b, ..), data of any depth -/
def rInT (K : PySem.W.Frag) : R2 := fun x y H Q => ∃ d ds, Dp K H x d ∧ Dp K H y (.tuple ds) ∧ SeqAt.shaped d = true ∧ SeqAt.shaped (.tuple ds) = true ∧ Q (.bl (ds.any fun z => PyData.eqv z d)) H
def rNotInT (K : PySem.W.Frag) : R2 := fun x y H Q => ∃ d ds, Dp K H x d ∧ Dp K H y (.tuple ds) ∧ SeqAt.shaped d = true ∧ SeqAt.shaped (.tuple ds) = true ∧ Q (.bl (!ds.any fun z => PyData.eqv z d)) H
theorem op_inT (hu : X.A.units + 65 < cLine) : OpR X (compareOp .In) (rInT X.K) := by
  intro pins s σ H x y v u Q I rx ry h
  obtain ⟨d, ds, hd, he, sd, se, q⟩ := h
  obtain ⟨as, r1⟩ := Dp.reads I d x v hd rx
  obtain ⟨bs, r2⟩ := Dp.reads I (.tuple ds) y u he ry
  exact SeqAt.in_tuple_reads r2 r1 (SeqAt.canLay_of_shaped se) (SeqAt.canLay_of_shaped sd) (room_in_shaped sd hu) ⟨.bl _, H, I, rfl, q⟩
theorem op_notInT (hu : X.A.units + 65 < cLine) : OpR X (compareOp .NotIn) (rNotInT X.K) := by
  intro pins s σ H x y v u Q I rx ry h
  obtain ⟨d, ds, hd, he, sd, se, q⟩ := h
  obtain ⟨as, r1⟩ := Dp.reads I d x v hd rx
  obtain ⟨bs, r2⟩ := Dp.reads I (.tuple ds) y u he ry
  exact SeqAt.notIn_tuple_reads r2 r1 (SeqAt.canLay_of_shaped se) (SeqAt.canLay_of_shaped sd) (room_in_shaped sd hu) ⟨.bl _, H, I, rfl, q⟩
theorem units65 {k : Nat} {A : Around} (r : Room k A) : A.units + 65 < cLine := by
  have := r.un
  omega
end
section
variable {K : PySem.W.Frag} {H : Hp}
theorem DpAll.dropt : ∀ {xs : List V} {ds : List PyData} (n : Nat), DpAll K H xs ds → DpAll K H (xs.drop n) (ds.drop n)
  | _, _, 0, r => r
  | _, _, _ + 1, .nil => .nil
  | _, _, n + 1, .cons _ t => DpAll.dropt n t
theorem DpAll.taket : ∀ {xs : List V} {ds : List PyData} (n : Nat), DpAll K H xs ds → DpAll K H (xs.take n) (ds.take n)
  | _, _, 0, _ => .nil
  | _, _, _ + 1, .nil => .nil
  | _, _, n + 1, .cons r t => .cons r (DpAll.taket n t)
theorem DpAll.app : ∀ {xs ys : List V} {ds es : List PyData}, DpAll K H xs ds → DpAll K H ys es → DpAll K H (xs ++ ys) (ds ++ es)
  | _, _, _, _, .nil, r => r
  | _, _, _, _, .cons q t, r => .cons q (DpAll.app t r)
theorem DpAll.getV : ∀ {vs : List V} {ds : List PyData} {i : Nat} {v : V}, DpAll K H vs ds → vs[i]? = some v → ∃ d, ds[i]? = some d ∧ Dp K H v d
  | _, _, _, _, .nil, e => by simp at e
  | _, _, 0, _, .cons r _, e => by simp at e; subst e; exact ⟨_, rfl, r⟩
  | _, _, i + 1, _, .cons _ t, e => by
    obtain ⟨u, h1, h2⟩ := DpAll.getV (i := i) t (by simpa using e)
    exact ⟨u, by simpa using h1, h2⟩
end
/-- a part of a tuple, also the whole -/
theorem cut_nat (xs : List V) (i j : Nat) (h1 : i ≤ xs.length) (h2 : j ≤ xs.length) : cutV xs (some (i : Int)) (some (j : Int)) = (xs.drop i).take (j - i) := by
  unfold cutV
  rw [HT.sIx_nat, HT.sIx_nat, Nat.min_eq_left h1, Nat.min_eq_left h2]
theorem slA_nat {K : PySem.W.Frag} {H : Hp} {a : Addr} {xs : List V} {i j : Nat} {Q : VK} (hs : SqT K H a xs) (h1 : i ≤ xs.length) (h2 : j ≤ xs.length) (h : ∀ b H', Same H H' → SqT K H' b ((xs.drop i).take (j - i)) → (∀ c, H c = Option.none → c ≠ b → H' c = Option.none) → Q (.ref b) H') :
    rSlA K (.ref a) (some (i : Int)) (some (j : Int)) H Q := by
  refine ⟨a, xs, rfl, hs, fun z => ?_, fun z p np => ?_⟩
  · rw [HT.sIx_nat, HT.sIx_nat, Nat.min_eq_left h1, Nat.min_eq_left h2] at z
    refine h a H (Same.refl H) ?_ fun _ e _ => e
    rw [z.1, z.2, List.drop_zero, Nat.sub_zero, List.take_length]
    exact hs
  · rw [cut_nat xs i j h1 h2]
    exact h p _ (same_upd np) (SqT.of upd_same) fun c e hc => by rw [upd_ne hc]; exact e
theorem cat_dp {K : PySem.W.Frag} {H : Hp} {x y : V} {ds es : List PyData} {Q : VK} (hx : Dp K H x (.tuple ds)) (hy : Dp K H y (.tuple es)) (hne : ds ≠ []) (hz : ds.length + es.length ≤ 1000) (h : ∀ v H', Same H H' → Dp K H' v (.tuple (ds ++ es)) → Q v H') : rCatT K x y H Q := by
  cases hx with
  | @tup a xs _ sx ax =>
  cases hy with
  | @tup b ys _ sy ay =>
  have lx := DpAll.len ax
  have ly := DpAll.len ay
  refine ⟨a, b, xs, ys, rfl, rfl, sx, sy, fun z => ?_, small_of (by omega), fun z => ?_, fun z p np => ?_⟩
  · rw [z] at lx
    exact hne (List.eq_nil_of_length_eq_zero lx.symm)
  · subst z
    cases ay
    rw [List.append_nil] at h
    exact h _ H (Same.refl H) (.tup sx ax)
  · exact h _ _ (same_upd np) (.tup (SqT.of upd_same) (dp_sameAll (same_upd np) _ _ (DpAll.app ax ay)))
theorem cut_from1 (v : V) (xs : List V) : cutV (v :: xs) (some 1) Option.none = xs := by
  unfold cutV
  rw [show (some (1 : Int)) = some ((1 : Nat) : Int) from rfl, HT.sIx_nat, HT.sIx_none, List.length_cons, Nat.min_eq_left (by omega), List.drop_succ_cons, List.drop_zero, Nat.add_sub_cancel]
  exact List.take_length
section
variable {σ : L2.St} {H : Hp}
theorem args1 {t : TE} {ta : TA} {Q : List V → Hp → Prop} (h : t σ H fun x H1 => ta σ H1 fun xs H2 => Q (x :: xs) H2) : tCons t ta σ H Q := h
theorem tup_of {ta : TA} {Q : VK} (h : ta σ H fun xs H1 => xs.length ≤ sizeLine ∧ ∀ p, H1 p = Option.none → Q (.ref p) (upd H1 p (.tup xs))) : tTup ta σ H Q := h
theorem const_of {v : V} {Q : VK} (h : Q v H) : tC v σ H Q := h
theorem op_of {r : R2} {ta tb : TE} {Q : VK} (h : ta σ H fun x H1 => tb σ H1 fun y H2 => r x y H2 Q) : tOp r ta tb σ H Q := h
theorem nil_of {Q : List V → Hp → Prop} (h : Q [] H) : tNil σ H Q := h
end
section
variable {σ : L2.St} {H : Hp}
theorem call_of {sp : Sp} {dvs : List V} {E : XK} {t : TA} {Q : VK} (h : t σ H fun vs H1 => sp (vs ++ dvs) H1 Q E) : tCall sp dvs E t σ H Q := h
theorem args_and {r : R2} {sp : Sp} {dvs : List V} {E : XK} {t : TA} {tb tc : TE} {D : Ends} (h : t σ H fun vs H1 => sp (vs ++ dvs) H1 (fun x H1 => tb σ H1 fun y H2 => r x y H2 fun x H1 => ∃ c, x = .bl c ∧ if c = true then tc σ H1 D.rt else D.rt (.bl false) H1) E) : tRet (tAndV (tOp r (tCall sp dvs E t) tb) tc) D σ H := h
end
theorem relStr (x : Str) (t : Tok) : RelV (.str x) (.str x t) := ⟨_, rfl⟩
theorem relInt (i : Int) (t : Tok) : RelV (.int i) (.int i t) := ⟨_, rfl⟩
theorem relRef (a : Addr) : RelV (.ref a) (.ref a) := rfl
/-! ### a < b of data whose places are alike -/
section
variable {X : Cx}
def rLtD (K : PySem.W.Frag) : R2 := fun x y H Q => ∃ d e, Dp K H x d ∧ Dp K H y e ∧ PySem.W.alike d e = true ∧ d ≠ .none ∧ d.depth ≤ 8 ∧ Q (.bl (PySem.W.dataLt d e)) H
theorem op_ltD (hu : X.A.units + 64 < cLine) : OpR X (compareOp .Lt) (rLtD X.K) := by
  intro pins s σ H x y v u Q I rx ry h
  obtain ⟨d, e, hd, he, ha, hn, hz, q⟩ := h
  obtain ⟨as, r1⟩ := Dp.reads I d x v hd rx
  obtain ⟨bs, r2⟩ := Dp.reads I e y u he ry
  have R := PySem.W.rcLt_alike d e X.A s v u as bs r1 r2 ha hn (Nat.lt_of_le_of_lt (Nat.add_le_add_left (Nat.le_trans (Nat.min_le_left _ _) (Nat.le_trans hz (by decide : 8 ≤ 64))) _) hu)
  have z : wpAny (model X.prog X.w) X.A (compareOp .Lt v u) (EP X pins σ Q) X.xe s := R X.prog X.w X.xe (EP X pins σ Q) ⟨.bl _, H, I, rfl, q⟩
  exact z
end
/-! ### zip of two tuples -/
theorem walk_zipT {K : PySem.W.Frag} {a b : Addr} {xs ys : List V} {n : Nat} (hn : n = min xs.length ys.length) : Walk (RZ.ItzT K a b) n (fun H => SqT K H a xs ∧ SqT K H b ys) (YPair (fun i => xs[i]?) (fun i => ys[i]?)) := by
  subst hn
  refine ⟨fun i H hi q => ?_, fun H q => ⟨xs, ys, q.1, q.2, by omega⟩, fun i H v H' hi q y => ?_⟩
  · have h1 : i < xs.length := by omega
    have h2 : i < ys.length := by omega
    exact ⟨xs, ys, _, _, q.1, q.2, List.getElem?_eq_getElem h1, List.getElem?_eq_getElem h2⟩
  · obtain ⟨T, x, y, e1, e2, e3, e4, e5⟩ := y
    exact ⟨T, x, y, e1, e2, e3, e4 xs q.1, e5 ys q.2⟩
/-! ### () + t -/
section
open Builtin
theorem addE (l b : Addr) (xs ys : Array Value) (n k : Nat) (dd dd2 : Option Addr) (sl sl2 : Array (Option Value)) (he : xs.isEmpty = true) :
    Meets (Builtin.«tuple.__add__» ⟨[.ref l, .ref b], []⟩) (fun _ R s => s.heap.get? l = some { cls := .type "tuple", dict := dd, data := .seq xs n, slots := sl } ∧ s.heap.get? b = some { cls := .type "tuple", dict := dd2, data := .seq ys k, slots := sl2 } ∧ R (.ok (.ret (Value.ref b))) s) := by
  refine .of_wp fun prog w A R s h => ?_
  obtain ⟨hp, g, d, tk, os⟩ := s
  obtain ⟨ea, eb, q⟩ := h
  have i1 := AutoSeq1.idx_int
  have i2 := AutoSeq1.sub_tuple_tuple
  have i3 := AutoSeq1.sub_list_list
  have i4 := AutoSeq1.sub_tuple_list
  have i5 := AutoSeq1.sub_list_tuple
  wp_walk using AutoSeq1.wpAny_loadPart' ea, AutoSeq1.wpAny_loadPart' eb
  exact ⟨_, rfl, q⟩
end
section
variable {X : Cx}
def rCatA (K : PySem.W.Frag) : R2 := fun x y H Q => ∃ a b xs ys, x = .ref a ∧ y = .ref b ∧ SqT K H a xs ∧ SqT K H b ys ∧ xs.length + ys.length ≤ sizeLine ∧ (xs = [] → Q (.ref b) H) ∧ (ys = [] → Q (.ref a) H) ∧ ∀ p, H p = Option.none → Q (.ref p) (upd H p (.tup (xs ++ ys)))
theorem op_catA : OpR X (binaryOp .Add) (rCatA X.K) := by
  intro pins s σ H x y v u Q I rx ry h
  obtain ⟨a, b, xs, ys, rfl, rfl, ha, hb, hz, q1, q2, q3⟩ := h
  by_cases hx : xs = []
  · subst hx
    cases rx
    cases ry
    obtain ⟨its, r1, p1, _⟩ := I.tuple ha
    obtain ⟨its2, r2, p2, _⟩ := I.tuple hb
    cases r1
    obtain ⟨⟨oc, od, dt, sl⟩, e1, c1, n, d1⟩ := p1
    obtain ⟨⟨oc2, od2, dt2, sl2⟩, e2, c2, n2, d2⟩ := p2
    simp only at c1 d1 c2 d2
    subst c1 d1 c2 d2
    exact concat_meets ⟨_, e1, rfl⟩ ⟨_, e2, rfl⟩ noFill_tuple_add seq_tuple_add PySem.F.slot_tuple_add PySem.F.entry_tuple_add (PySem.F.args_tuple_add_2 _ _)
      (addE a b #[] its2.toArray n n2 od od2 sl sl2 rfl) ⟨e1, e2, ⟨.ref b, H, I, rfl, q1 rfl⟩⟩
  · exact op_catT pins s σ H (.ref a) (.ref b) v u Q I rx ry ⟨a, b, xs, ys, rfl, rfl, ha, hb, hx, hz, q2, fun _ p np => q3 p np⟩
end
section
variable {K : PySem.W.Frag} {G : Addr → Prop} {H : Hp}
theorem ImAll.dropt : ∀ {xs : List V} {ds : List PyData} (n : Nat), ImAll K G H xs ds → ImAll K G H (xs.drop n) (ds.drop n)
  | _, _, 0, r => r
  | _, _, _ + 1, .nil => .nil
  | _, _, n + 1, .cons _ t => ImAll.dropt n t
theorem ImAll.taket : ∀ {xs : List V} {ds : List PyData} (n : Nat), ImAll K G H xs ds → ImAll K G H (xs.take n) (ds.take n)
  | _, _, 0, _ => .nil
  | _, _, _ + 1, .nil => .nil
  | _, _, n + 1, .cons r t => .cons r (ImAll.taket n t)
theorem im_new {xs : List V} {ds : List PyData} {p : Addr} (np : H p = Option.none) (ia : ImAll K G H xs ds) : Im K (fun b => G b ∨ H b = Option.none) (upd H p (.tup xs)) (.ref p) (.tuple ds) :=
  .tup (.inr np) upd_same (Im.monoAll (fun b o _ e => same_upd np b o e) (fun _ g => .inl g) _ _ ia)
theorem im_cut {x : V} {ds es : List PyData} {lo hi : Option Int} {Q : VK} (iv : Im K G H x (.tuple ds)) (hc : ∀ xs : List V, ImAll K G H xs ds → ImAll K G H (cutV xs lo hi) es) (h : ∀ v H', Same H H' → (∀ b, G b ∨ H b = Option.none → G b ∨ H b = Option.none) → Im K (fun b => G b ∨ H b = Option.none) H' v (.tuple es) → Q v H') : rSlA K x lo hi H Q := by
  cases iv with
  | @tup a xs _ g e ia =>
  refine ⟨a, xs, rfl, SqT.of e, fun z => ?_, fun z p np => ?_⟩
  · have hw : cutV xs lo hi = xs := by
      unfold cutV
      rw [z.1, z.2, List.drop_zero, Nat.sub_zero, List.take_length]
    have := hc xs ia
    rw [hw] at this
    exact h _ H (Same.refl H) (fun _ q => q) (.tup (.inl g) e (Im.monoAll (fun _ _ _ e => e) (fun _ g => .inl g) _ _ this))
  · exact h _ _ (same_upd np) (fun _ q => q) (im_new np (hc xs ia))
theorem im_take {x : V} {ds : List PyData} {k : Nat} {Q : VK} (iv : Im K G H x (.tuple ds)) (hk : k ≤ ds.length) (h : ∀ v H', Same H H' → Im K (fun b => G b ∨ H b = Option.none) H' v (.tuple (ds.take k)) → Q v H') : rSlA K x Option.none (some (k : Int)) H Q :=
  im_cut iv (fun xs ia => by
    unfold cutV
    rw [HT.sIx_none, HT.sIx_nat, Nat.min_eq_left (by rw [ia.len]; exact hk), List.drop_zero, Nat.sub_zero]
    exact ImAll.taket _ ia) fun v H' s _ i => h v H' s i
theorem im_drop {x : V} {ds : List PyData} {k : Nat} {Q : VK} (iv : Im K G H x (.tuple ds)) (hk : k ≤ ds.length) (h : ∀ v H', Same H H' → Im K (fun b => G b ∨ H b = Option.none) H' v (.tuple (ds.drop k)) → Q v H') : rSlA K x (some (k : Int)) Option.none H Q :=
  im_cut iv (fun xs ia => by
    unfold cutV
    rw [HT.sIx_none, HT.sIx_nat, Nat.min_eq_left (by rw [ia.len]; exact hk), List.take_of_length_le (by rw [List.length_drop]; exact Nat.le_refl _)]
    exact ImAll.dropt _ ia) fun v H' s _ i => h v H' s i
theorem im_cat {x y : V} {ds es : List PyData} {Q : VK} (iv : Im K G H x (.tuple ds)) (iw : Im K G H y (.tuple es)) (hz : ds.length + es.length ≤ 1000) (h : ∀ v H', Same H H' → Im K (fun b => G b ∨ H b = Option.none) H' v (.tuple (ds ++ es)) → Q v H') : rCatA K x y H Q := by
  have w1 := Im.mono (G' := fun b => G b ∨ H b = Option.none) (fun _ _ _ e => e) (fun _ g => .inl g) _ _ iv
  have w2 := Im.mono (G' := fun b => G b ∨ H b = Option.none) (fun _ _ _ e => e) (fun _ g => .inl g) _ _ iw
  cases iv with
  | @tup a xs _ g e ia =>
  cases iw with
  | @tup b ys _ g2 e2 ib =>
  have l1 := ia.len
  have l2 := ib.len
  refine ⟨a, b, xs, ys, rfl, rfl, SqT.of e, SqT.of e2, small_of (by omega), fun z => ?_, fun z => ?_, fun p np => ?_⟩
  · subst z
    cases ia
    exact h _ H (Same.refl H) w2
  · subst z
    cases ib
    rw [List.append_nil] at h
    exact h _ H (Same.refl H) w1
  · exact h _ _ (same_upd np) (im_new np (ImAll.app ia ib))
end
end My
namespace My
open PySem PySem.Spec PyProof.Rows L2 SkE
/-! ### defs that may raise, and the program's own error classes -/
def HasX (P : Program) (w : World) (K : PySem.W.Frag) (mg : Str → Option Value) (base : Heap) (k : Nat) (x : Str) (ps : List Str) (sp : Sp) : Prop :=
  ∃ (f : Addr) (fd : FuncData), FnOk P w K mg base (L2.CX P w) k f fd ps sp ∧ mg x = some (.ref f) ∧ PySem.W.keepIn K (.ref f) = true ∧ Binds K fd ps []
/-- where the class of this name stands -/
def clsA (K : PySem.W.Frag) (x : Str) : Addr := match PySem.W.nsIn K mainGlobals x with
  | some (some (.ref C)) => C | _ => 0
theorem clsA_of {K : PySem.W.Frag} {x : Str} {C : Addr} (h : PySem.W.nsIn K mainGlobals x = some (some (.ref C))) : clsA K x = C := by
  unfold clsA
  rw [h]
structure Xc (K : PySem.W.Frag) (mg : Str → Option Value) (x : Str) (C : Addr) : Prop where
  gC : mg x = some (.ref C)
  xC : PySem.W.excIn K C [.type "ValueError", .type "Exception", .type "BaseException", .type "object"] "ValueError.__new__" = true
  kC : PySem.W.keepIn K (.ref C) = true
  bC : PySem.W.subIn K (.ref C) (.type "BaseException") = some true
  tC : PySem.W.typeIn K (.ref C) = some (.type "type")
  iC : PySem.W.isClsIn K C = true
theorem exm_pair {K : PySem.W.Frag} {T S : Addr} {b : Bool} (h1 : PySem.W.subIn K (.ref S) (.type "BaseException") = some true) (h2 : PySem.W.isClsIn K S = true) (h3 : PySem.W.typeIn K (.ref S) = some (.type "type")) (h4 : PySem.W.subIn K (.ref T) (.ref S) = some b) :
    PySem.W.exmOne K (.ref T) (.ref S) = some b := by
  have e1 : (PySem.W.subIn K (.ref S) (.type "BaseException") == some true) = true := by rw [h1] <;> rfl
  have e2 : ((PySem.W.clsIn K S).isSome && PySem.W.typeIn K (.ref S) == some (.type "type")) = true := by
    have h2' : (PySem.W.clsIn K S).isSome = true := h2
    rw [h2', h3] <;> rfl
  show (if (PySem.W.subIn K (.ref S) (.type "BaseException") == some true) = true then (if ((PySem.W.clsIn K S).isSome && PySem.W.typeIn K (.ref S) == some (.type "type")) = true then PySem.W.subIn K (.ref T) (.ref S) else none) else none) = some b
  rw [if_pos e1, if_pos e2]
  exact h4
theorem pss_under {X : Cx} {b : List Stmt} {t : TS} {P : Prop} (h : P → PSs X b t) : PSs X b (fun D σ H => P ∧ t D σ H) := ⟨fun pins s σ H D I ⟨p, q⟩ => (h p).run pins s σ H D I q⟩
end My

namespace My
open PySem PySem.Spec PyProof.Rows L2 SkE StX
/-! ### the text -/
def topS (i : Nat) : Stmt := PySem.Challenge.pw_hornbook_k01_build_terms.main.body.getD i (.Pass ⟨0, 0, 0, 0⟩)
abbrev s_is_integer : Stmt := topS 8
abbrev N_is_integer : List Str := ["value"]
theorem sc_is_integer : FnScope N_is_integer ["value"] (defScope s_is_integer) := ⟨rfl, rfl, rfl, by decide +kernel, rfl, by decide +kernel, by decide +kernel⟩
abbrev s_is_bounded : Stmt := topS 9
abbrev N_is_bounded : List Str := ["value"]
theorem sc_is_bounded : FnScope N_is_bounded ["value"] (defScope s_is_bounded) := ⟨rfl, rfl, rfl, by decide +kernel, rfl, by decide +kernel, by decide +kernel⟩
abbrev s_is_name : Stmt := topS 10
abbrev N_is_name : List Str := ["value", "letter"]
theorem sc_is_name : FnScope N_is_name ["value"] (defScope s_is_name) := ⟨rfl, rfl, rfl, by decide +kernel, rfl, by decide +kernel, by decide +kernel⟩
abbrev s_is_arity : Stmt := topS 11
abbrev N_is_arity : List Str := ["value"]
theorem sc_is_arity : FnScope N_is_arity ["value"] (defScope s_is_arity) := ⟨rfl, rfl, rfl, by decide +kernel, rfl, by decide +kernel, by decide +kernel⟩
abbrev s_is_symbol : Stmt := topS 12
abbrev N_is_symbol : List Str := ["node"]
theorem sc_is_symbol : FnScope N_is_symbol ["node"] (defScope s_is_symbol) := ⟨rfl, rfl, rfl, by decide +kernel, rfl, by decide +kernel, by decide +kernel⟩
abbrev s_arity_of : Stmt := topS 13
abbrev N_arity_of : List Str := ["node"]
theorem sc_arity_of : FnScope N_arity_of ["node"] (defScope s_arity_of) := ⟨rfl, rfl, rfl, by decide +kernel, rfl, by decide +kernel, by decide +kernel⟩
abbrev s_is_node : Stmt := topS 14
abbrev N_is_node : List Str := ["value"]
theorem sc_is_node : FnScope N_is_node ["value"] (defScope s_is_node) := ⟨rfl, rfl, rfl, by decide +kernel, rfl, by decide +kernel, by decide +kernel⟩
abbrev s_end_of : Stmt := topS 15
abbrev N_end_of : List Str := ["nodes", "start", "missing", "at"]
theorem sc_end_of : FnScope N_end_of ["nodes", "start"] (defScope s_end_of) := ⟨rfl, rfl, rfl, by decide +kernel, rfl, by decide +kernel, by decide +kernel⟩
abbrev s_variable : Stmt := topS 16
abbrev N_variable : List Str := ["number"]
theorem sc_variable : FnScope N_variable ["number"] (defScope s_variable) := ⟨rfl, rfl, rfl, by decide +kernel, rfl, by decide +kernel, by decide +kernel⟩
abbrev s_integer : Stmt := topS 17
abbrev N_integer : List Str := ["value"]
theorem sc_integer : FnScope N_integer ["value"] (defScope s_integer) := ⟨rfl, rfl, rfl, by decide +kernel, rfl, by decide +kernel, by decide +kernel⟩
abbrev s_atom : Stmt := topS 18
abbrev N_atom : List Str := ["name"]
theorem sc_atom : FnScope N_atom ["name"] (defScope s_atom) := ⟨rfl, rfl, rfl, by decide +kernel, rfl, by decide +kernel, by decide +kernel⟩
abbrev s_compound : Stmt := topS 19
abbrev N_compound : List Str := ["name", "parts", "nodes", "part"]
theorem sc_compound : FnScope N_compound ["name", "parts"] (defScope s_compound) := ⟨rfl, rfl, rfl, by decide +kernel, rfl, by decide +kernel, by decide +kernel⟩
abbrev s_is_term : Stmt := topS 20
abbrev N_is_term : List Str := ["value", "missing", "node"]
theorem sc_is_term : FnScope N_is_term ["value"] (defScope s_is_term) := ⟨rfl, rfl, rfl, by decide +kernel, rfl, by decide +kernel, by decide +kernel⟩
abbrev s_parts : Stmt := topS 21
abbrev N_parts : List Str := ["term", "found", "at", "end"]
theorem sc_parts : FnScope N_parts ["term"] (defScope s_parts) := ⟨rfl, rfl, rfl, by decide +kernel, rfl, by decide +kernel, by decide +kernel⟩
abbrev s__law_stream : Stmt := topS 23
abbrev N__law_stream : List Str := ["script", "mixed", "cell"]
theorem sc__law_stream : FnScope N__law_stream ["script"] (defScope s__law_stream) := ⟨rfl, rfl, rfl, by decide +kernel, rfl, by decide +kernel, by decide +kernel⟩
abbrev s__law_draw : Stmt := topS 24
abbrev N__law_draw : List Str := ["stream", "many", "value"]
theorem sc__law_draw : FnScope N__law_draw ["stream", "many"] (defScope s__law_draw) := ⟨rfl, rfl, rfl, by decide +kernel, rfl, by decide +kernel, by decide +kernel⟩
abbrev s__law_name : Stmt := topS 25
abbrev N__law_name : List Str := ["stream", "names", "signs", "k"]
theorem sc__law_name : FnScope N__law_name ["stream"] (defScope s__law_name) := ⟨rfl, rfl, rfl, by decide +kernel, rfl, by decide +kernel, by decide +kernel⟩
abbrev s__law_leaf : Stmt := topS 26
abbrev N__law_leaf : List Str := ["stream", "widest", "pick"]
theorem sc__law_leaf : FnScope N__law_leaf ["stream", "widest"] (defScope s__law_leaf) := ⟨rfl, rfl, rfl, by decide +kernel, rfl, by decide +kernel, by decide +kernel⟩
abbrev s__law_term : Stmt := topS 27
abbrev N__law_term : List Str := ["stream", "size", "widest", "nodes", "missing", "room", "arity"]
theorem sc__law_term : FnScope N__law_term ["stream", "size", "widest"] (defScope s__law_term) := ⟨rfl, rfl, rfl, by decide +kernel, rfl, by decide +kernel, by decide +kernel⟩
abbrev s__law_good_name : Stmt := topS 28
abbrev N__law_good_name : List Str := ["name"]
theorem sc__law_good_name : FnScope N__law_good_name ["name"] (defScope s__law_good_name) := ⟨rfl, rfl, rfl, by decide +kernel, rfl, by decide +kernel, by decide +kernel⟩
abbrev s__law_compound : Stmt := topS 29
abbrev N__law_compound : List Str := ["name", "rows", "many", "a", "b", "c"]
theorem sc__law_compound : FnScope N__law_compound ["name", "rows"] (defScope s__law_compound) := ⟨rfl, rfl, rfl, by decide +kernel, rfl, by decide +kernel, by decide +kernel⟩
abbrev s__law_built : Stmt := topS 30
abbrev N__law_built : List Str := ["which", "name", "number", "rows", "e"]
theorem sc__law_built : FnScope N__law_built ["which", "name", "number", "rows"] (defScope s__law_built) := ⟨rfl, rfl, rfl, by decide +kernel, rfl, by decide +kernel, by decide +kernel⟩
abbrev s_law : Stmt := topS 31
abbrev N_law : List Str := ["script", "stream", "which", "name", "number", "many", "rows", "k", "good", "bad", "due", "row", "actual", "found"]
theorem sc_law : FnScope N_law ["script"] (defScope s_law) := ⟨rfl, rfl, rfl, by decide +kernel, rfl, by decide +kernel, by decide +kernel⟩
/-- names that the top leaves to the built-ins, and its constants -/
structure Bi (K : PySem.W.Frag) (mg : Str → Option Value) : Prop where
  x_BadTerm : Xc K mg "BadTerm" (clsA K "BadTerm")
  x_HornbookError : Xc K mg "HornbookError" (clsA K "HornbookError")
  e_BadTerm_BadTerm : PySem.W.exmOne K (.ref (clsA K "BadTerm")) (.ref (clsA K "BadTerm")) = some true
  k_BadTerm : ExcC K (clsA K "BadTerm")
  i_BadTerm_HornbookError : PySem.W.kitOne K (.ref (clsA K "BadTerm")) (.ref (clsA K "HornbookError")) = some true
  i_BadTerm_ValueError : PySem.W.kitOne K (.ref (clsA K "BadTerm")) (.type "ValueError") = some true
  b_ValueError : mg "ValueError" = Option.none
  b_abs : mg "abs" = Option.none
  b_all : mg "all" = Option.none
  b_bool : mg "bool" = Option.none
  b_int : mg "int" = Option.none
  b_isinstance : mg "isinstance" = Option.none
  b_len : mg "len" = Option.none
  b_list : mg "list" = Option.none
  b_min : mg "min" = Option.none
  b_ord : mg "ord" = Option.none
  b_range : mg "range" = Option.none
  b_str : mg "str" = Option.none
  b_tuple : mg "tuple" = Option.none
  c_MOST_NAME : GV mg "MOST_NAME" (.int 40)
  c_MOST_ARITY : GV mg "MOST_ARITY" (.int 8)
  c_INTEGER_BOUND : GV mg "INTEGER_BOUND" (.int 10000000000000000000000000000000000000000)
  c_PERCENT : GV mg "PERCENT" (.int 37)

/-! ### names, nodes, terms -/
def okSign (c : Nat) : Bool := decide (32 ≤ c) && decide (c ≤ 126) && !decide (c = 37)
def okName (x : Str) : Bool := decide (1 ≤ x.length) && decide (x.length ≤ 40) && x.cps.toList.all okSign
def names20 : List Str := ["a", "b", "f", "g", "hello", "[]", "+", "-", ",", "it's", "X", "a b", "{}", ".", "=", "'", "aB_1", "!", "0", "lvjkuwnd"]
def signs : Str := (Str.ofString " !\"#$&'()*+,-./0123456789:;<=>?@ABCDEFGHIJKLMNOPQRSTUVWXYZ[\\]^_`") ++ (Str.ofString "abcdefghijklmnopqrstuvwxyz{|}~")
theorem names20_ok : names20.all okName = true := by decide +kernel
theorem signs_ok : signs.cps.toList.all okSign = true := by decide +kernel
theorem signs_len : signs.length = 94 := by decide +kernel
theorem join_ones (e : Str) (he : e.cps = #[]) : ∀ cs : List Nat, (Str.join e (cs.map fun c => ⟨#[c]⟩)).cps.toList = cs
  | [] => rfl
  | [c] => rfl
  | c :: d :: r => by
    have ih := join_ones e he (d :: r)
    show ((⟨#[c]⟩ : Str) ++ e ++ Str.join e ((d :: r).map fun c => (⟨#[c]⟩ : Str))).cps.toList = c :: d :: r
    show (#[c] ++ e.cps ++ (Str.join e ((d :: r).map fun c => (⟨#[c]⟩ : Str))).cps).toList = c :: d :: r
    rw [he, Array.toList_append, ih]
    rfl
inductive Nd (wd : Int) : PyData → Prop
  | v (n : Int) : 0 ≤ n → n < wd → Nd wd (.tuple [.str "v", .int n])
  | i (n : Int) : -(10 ^ 40) < n → n < 10 ^ 40 → Nd wd (.int n)
  | f (x : Str) (n : Int) : okName x = true → 0 ≤ n → n ≤ 8 → Nd wd (.tuple [.str "f", .str x, .int n])
def arN : PyData → Nat
  | .tuple [_, _, c] => (match c with | .int n => n.toNat | _ => 0) | _ => 0
/-- from m missing terms on, the nodes are just these terms -/
def Cls : Nat → List PyData → Prop
  | m, [] => m = 0
  | m, d :: r => 0 < m ∧ Cls (m - 1 + arN d) r
structure Term (wd : Int) (ds : List PyData) : Prop where
  cl : Cls 1 ds
  nd : ∀ d ∈ ds, Nd wd d
/-! ### the promises -/
def sp__law_stream (K : PySem.W.Frag) : Sp := fun vs H Q _ => ∃ (a : Addr) (ns : List Int), vs = [.ref a] ∧ SqL K H a (ns.map V.int) ∧ ns.length ≤ 63 ∧ ∀ s l H', H s = Option.none → H l = Option.none → Same H H' → Stm H' s l → Q (.ref s) H'
def sp__law_draw (K : PySem.W.Frag) : Sp := fun vs H Q _ => ∃ (s l : Addr) (n : Int), vs = [.ref s, .int n] ∧ Stm H s l ∧ 0 < n ∧ n.natAbs < 2 ^ 9000 ∧ ∀ r H', 0 ≤ r → r < n → But s H H' → Stm H' s l → Q (.int r) H'
def sp__law_name (K : PySem.W.Frag) : Sp := fun vs H Q _ => ∃ s l, vs = [.ref s] ∧ Stm H s l ∧ ∀ x H', okName x = true → But s H H' → Stm H' s l → Q (.str x) H'
def sp__law_leaf (K : PySem.W.Frag) : Sp := fun vs H Q _ => ∃ (s l : Addr) (wd : Int), vs = [.ref s, .int wd] ∧ Stm H s l ∧ 0 < wd ∧ wd ≤ 1000 ∧ ∀ v d H', Nd wd d → arN d = 0 → But s H H' → Stm H' s l → Im K (fun b => H b = Option.none) H' v d → Q v H'
def sp__law_term (K : PySem.W.Frag) : Sp := fun vs H Q _ => ∃ (s l : Addr) (n wd : Int), vs = [.ref s, .int n, .int wd] ∧ Stm H s l ∧ 0 < n ∧ n ≤ 1000 ∧ 0 < wd ∧ wd ≤ 1000 ∧
  ∀ v ds H', Term wd ds → (ds.length : Int) ≤ n → But s H H' → Stm H' s l → Im K (fun b => H b = Option.none) H' v (.tuple ds) → Q v H'
/-! ### nodes -/
def isSymN : PyData → Bool
  | .tuple [_, _, _] => true | _ => false
def NdA (d : PyData) : Prop := ∃ wd, Nd wd d
/-- how many nodes m terms take -/
def tk : Nat → List PyData → Nat
  | _, [] => 0
  | m, d :: r => if m = 0 then 0 else 1 + tk (m - 1 + arN d) r
theorem tk_zero (l : List PyData) : tk 0 l = 0 := by
  cases l with
  | nil => rfl
  | cons d r => exact if_pos rfl
theorem tk_cons {m : Nat} (h : 0 < m) (d : PyData) (r : List PyData) : tk m (d :: r) = 1 + tk (m - 1 + arN d) r := if_neg (by omega)
theorem arN_nsym {d : PyData} (h : isSymN d = false) : arN d = 0 := by
  cases d with
  | tuple ds =>
    rcases ds with _ | ⟨a, _ | ⟨b, _ | ⟨c, _ | ⟨e, r⟩⟩⟩⟩
    · rfl
    · rfl
    · rfl
    · cases h
    · rfl
  | _ => rfl
theorem tk_le : ∀ (l : List PyData) (m : Nat), tk m l ≤ l.length
  | [], _ => Nat.le_refl 0
  | d :: r, m => by
    by_cases h : m = 0
    · subst h; rw [tk_zero]; exact Nat.zero_le _
    · rw [tk_cons (by omega)]
      have := tk_le r (m - 1 + arN d)
      rw [List.length_cons]
      omega
theorem tk_add : ∀ (l : List PyData) (j m : Nat), tk (j + m) l = tk j l + tk m (l.drop (tk j l))
  | [], j, m => by simp [tk]
  | d :: r, j, m => by
    by_cases h : j = 0
    · subst h
      rw [tk_zero, Nat.zero_add, Nat.zero_add, List.drop_zero]
    · rw [tk_cons (by omega), tk_cons (m := j) (by omega), show j + m - 1 + arN d = (j - 1 + arN d) + m by omega, tk_add r (j - 1 + arN d) m]
      rw [show 1 + tk (j - 1 + arN d) r = tk (j - 1 + arN d) r + 1 by omega, List.drop_succ_cons]
      omega
/-- the rest of what is closed is closed -/
theorem cls_drop : ∀ (l : List PyData) (k j : Nat), Cls k l → j ≤ k → Cls (k - j) (l.drop (tk j l))
  | [], k, j, h, hj => by
    have hk : k = 0 := h
    rw [List.drop_nil]
    show k - j = 0
    omega
  | d :: r, k, j, h, hj => by
    by_cases z : j = 0
    · subst z
      rw [tk_zero]
      exact h
    · rw [tk_cons (by omega), show 1 + tk (j - 1 + arN d) r = tk (j - 1 + arN d) r + 1 by omega, List.drop_succ_cons]
      have := cls_drop r (k - 1 + arN d) (j - 1 + arN d) h.2 (by omega)
      rwa [show k - 1 + arN d - (j - 1 + arN d) = k - j by omega] at this
theorem cls_take : ∀ (l : List PyData) (k j : Nat), Cls k l → j ≤ k → Cls j (l.take (tk j l))
  | [], k, j, h, hj => by
    have hk : k = 0 := h
    rw [List.take_nil]
    show j = 0
    omega
  | d :: r, k, j, h, hj => by
    by_cases z : j = 0
    · subst z
      rw [tk_zero]
      rfl
    · rw [tk_cons (by omega), show 1 + tk (j - 1 + arN d) r = tk (j - 1 + arN d) r + 1 by omega, List.take_succ_cons]
      exact ⟨by omega, cls_take r (k - 1 + arN d) (j - 1 + arN d) h.2 (by omega)⟩
theorem tk_take : ∀ (l : List PyData) (i j : Nat), i ≤ j → tk i (l.take (tk j l)) = tk i l
  | [], i, j, _ => by rw [List.take_nil]
  | d :: r, i, j, h => by
    by_cases z : i = 0
    · subst z
      rw [tk_zero, tk_zero]
    · rw [tk_cons (m := j) (by omega), show 1 + tk (j - 1 + arN d) r = tk (j - 1 + arN d) r + 1 by omega, List.take_succ_cons, tk_cons (by omega), tk_cons (by omega), tk_take r _ _ (by omega)]
theorem take_full : ∀ (l : List PyData) (k : Nat), Cls k l → l.take (tk k l) = l
  | [], _, _ => List.take_nil
  | d :: r, k, h => by
    rw [tk_cons h.1, show 1 + tk (k - 1 + arN d) r = tk (k - 1 + arN d) r + 1 by omega, List.take_succ_cons, take_full r _ h.2]
theorem cls_map : ∀ (ds es : List PyData) (m : Nat), es.map arN = ds.map arN → Cls m ds → Cls m es
  | [], [], m, _, h => h
  | [], e :: es, m, h, _ => by cases h
  | d :: ds, [], m, h, _ => by cases h
  | d :: ds, e :: es, m, h, hc => by
    rw [List.map_cons, List.map_cons] at h
    obtain ⟨h1, h2⟩ := List.cons.inj h
    exact ⟨hc.1, by rw [h1]; exact cls_map ds es _ h2 hc.2⟩
/-! ### nodes can be compared -/
theorem okName_cps {x : Str} (h : okName x = true) : PyData.strOk x = true := by
  unfold okName at h
  rw [Bool.and_eq_true] at h
  unfold PyData.strOk
  rw [← Array.all_toList]
  refine List.all_eq_true.mpr fun c hc => ?_
  have := List.all_eq_true.mp h.2 c hc
  unfold okSign at this
  simp only [Bool.and_eq_true, decide_eq_true_eq] at this
  exact decide_eq_true (by omega)
theorem nd_lay {d : PyData} (h : NdA d) : d.canLay0 = true ∧ d.depth ≤ 1 ∧ d.eqv d = true := by
  obtain ⟨wd, h⟩ := h
  cases h with
  | v n _ _ => exact ⟨by simp only [PyData.canLay0, PyData.canLayAll0]; decide +kernel, by simp [PyData.depth, PyData.depthAll], by simp only [PyData.eqv, PyData.eqvAll, beq_self_eq_true, Bool.and_self]⟩
  | i n _ _ => exact ⟨by simp only [PyData.canLay0], by simp [PyData.depth], by simp only [PyData.eqv, beq_self_eq_true]⟩
  | f x n hx _ _ => exact ⟨by simp only [PyData.canLay0, PyData.canLayAll0]; rw [okName_cps hx]; decide +kernel, by simp [PyData.depth, PyData.depthAll], by simp only [PyData.eqv, PyData.eqvAll, beq_self_eq_true, Bool.and_self]⟩
theorem nds_lay : ∀ {ds : List PyData}, (∀ d ∈ ds, NdA d) → PyData.canLayAll0 ds = true ∧ PyData.depthAll ds ≤ 1 ∧ PyData.eqvAll ds ds = true
  | [], _ => ⟨by simp only [PyData.canLayAll0], by simp [PyData.depthAll], by simp only [PyData.eqvAll]⟩
  | d :: r, h => by
    obtain ⟨a1, a2, a3⟩ := nd_lay (h d List.mem_cons_self)
    obtain ⟨b1, b2, b3⟩ := nds_lay (ds := r) fun e he => h e (List.mem_cons_of_mem _ he)
    refine ⟨by simp only [PyData.canLayAll0, a1, b1, Bool.and_self], ?_, by simp only [PyData.eqvAll, a3, b3, Bool.and_self]⟩
    simp only [PyData.depthAll]
    omega
theorem nd_shaped {d : PyData} (h : NdA d) : SeqAt.shaped d = true := by
  obtain ⟨a1, a2, _⟩ := nd_lay h
  show (d.canLay0 && decide (d.depth ≤ 64)) = true
  rw [a1, decide_eq_true (by omega)]
  rfl
theorem tup_shaped {ds : List PyData} (h : ∀ d ∈ ds, NdA d) : SeqAt.shaped (.tuple ds) = true := by
  obtain ⟨a1, a2, _⟩ := nds_lay h
  have hd : (PyData.tuple ds).depth ≤ 64 := by
    simp only [PyData.depth]
    omega
  have hc : (PyData.tuple ds).canLay0 = true := by
    simp only [PyData.canLay0]
    exact a1
  show ((PyData.tuple ds).canLay0 && decide ((PyData.tuple ds).depth ≤ 64)) = true
  rw [hc, decide_eq_true hd]
  rfl
theorem tup_eqv {ds : List PyData} (h : ∀ d ∈ ds, NdA d) : PyData.eqv (.tuple ds) (.tuple ds) = true := by
  simp only [PyData.eqv]
  exact (nds_lay h).2.2
/-- name = {k: v for ..} on one line, the name a local -/
theorem ps_setDc {X : Cx} {i : Nat} {y : Str} {py : Pos} {kx vx tg iter : Expr} {ifs : List Expr} {scope : Scope} {own : List (Str × Nat)} {pos spos : Pos} {wi : TI} {g : TG} {tt : TT} {tk tv : TE} (c1 : X.calm = true) (c2 : X.N.Nodup) (c3 : X.N[i]? = some y) (c4 : X.env.scope.names.lookup y = some .local)
    (c5 : swapsWith (.DictComp kx vx [⟨tg, iter, ifs, 0⟩] scope pos) (some (.Name y py)) spos.line X.env = pure true) (c6 : PI X tg iter wi) (c7 : BlkOk X.N X.env.scope scope own)
    (c8 : ∀ (z : Shared) (H : Hp) (C : Addr) (cl : List (Str × Addr)) (fp : List Addr), PG (X.blk z H scope (compEnvC scope cl C X.env) fp) tg g) (c9 : ∀ (z : Shared) (H : Hp) (C : Addr) (cl : List (Str × Addr)) (fp : List Addr), PTs (X.blk z H scope (compEnvC scope cl C X.env) fp) ifs tt)
    (d1 : ∀ (z : Shared) (H : Hp) (C : Addr) (cl : List (Str × Addr)) (fp : List Addr), PE (X.blk z H scope (compEnvC scope cl C X.env) fp) kx tk)
    (d2 : ∀ (z : Shared) (H : Hp) (C : Addr) (cl : List (Str × Addr)) (fp : List Addr), PE (X.blk z H scope (compEnvC scope cl C X.env) fp) vx tv) (d3 : ∀ x, foldedSetIterable iter X.env x = pure x := by intro _; rfl) :
    PS X (.Assign [.Name y py] (.DictComp kx vx [⟨tg, iter, ifs, 0⟩] scope pos) spos) (tAsg (tDc wi g tt tk tv (own.map (·.2))) (gName i)) := by
  refine ⟨fun pins st0 σ H D inv hyp => ?_⟩
  have hyp' : tDc wi g tt tk tv (own.map (·.2)) σ H (fun v Hq => gName i v σ Hq D.nx) := hyp
  rw [exec_Assign_Name_used _ _ _ _ c5]
  refine wpAny_bind <| wpAny_standAt <| wpAny_bind ?_
  show wpAny _ X.A (do let _ ← comprehension (.DictComp kx vx [⟨tg, iter, ifs, 0⟩] scope pos) scope X.env (firstIterPos [⟨tg, iter, ifs, 0⟩] pos) newDict false (eval iter X.env) (some (assign (.Name y py) X.env))) _ _ st0
  have core := dc_core (Qf := fun _ fin => SP X pins D .next fin) (pos := pos) (pos' := firstIterPos [⟨tg, iter, ifs, 0⟩] pos) (use := some (assign (.Name y py) X.env)) c1 c2 inv c6 c7 c8 c9 d1 d2 d3 hyp' fun L C fin mm Hf inv' qf nsC fp => by
    show wpAny _ _ (assign (.Name y py) X.env (.ref L)) _ _ _
    obtain ⟨e0, e1, e2, e3, e4, e5⟩ := fp
    refine wpAny_assign_Name (store_ok2 (v := V.ref L) inv' c2 c3 (.inl c4) rfl (fun fin2 inv2 ⟨w, same, hw⟩ => ?_) (.inr c4))
    have cw : C ≠ w := by
      intro z
      cases hw with
      | inl hw => exact e1 (z.trans hw)
      | inr hw => exact e4 y w hw z.symm
    exact ⟨mm, nsC.sameBut same cw, fun h3 sb3 => ⟨_, Hf, inv2.turned (t' := fin2.toks) (fun b o hb e => (sb3.2 b hb).trans e) e0 e1 e3 e4 e5, qf⟩⟩
  exact wpAny_bind (thn core fun _ fin hq => wpAny_pure (wpAny_pure hq))
theorem seq_via {t u : TS} {D : Ends} {σ : L2.St} {H : Hp} (P : L2.St → Hp → Prop) (hu : ∀ σ H, P σ H → u D σ H) (ht : (∀ σ H, P σ H → u D σ H) → t { D with nx := u D } σ H) : tSeq t u D σ H := ht hu
def isVarN : PyData → Bool
  | .tuple [_, _] => true | _ => false
def numN : PyData → Int
  | .tuple [_, .int n] => n | _ => 0
theorem var_arN {d : PyData} (h : isVarN d = true) : arN d = 0 := by
  cases d with
  | tuple ds =>
    rcases ds with _ | ⟨a, _ | ⟨b, _ | ⟨c, r⟩⟩⟩
    · rfl
    · rfl
    · rfl
    · cases h
  | _ => rfl
theorem nd_eq {d e : PyData} (h : NdA d) (h2 : NdA e) (q : PyData.eqv d e = true) : d = e := by
  obtain ⟨wd, h⟩ := h
  obtain ⟨we, h2⟩ := h2
  cases h with
  | v n _ _ =>
    cases h2 with
    | v m _ _ =>
      simp only [PyData.eqv, PyData.eqvAll, Bool.and_eq_true, beq_iff_eq] at q
      rw [q.2.1]
    | i m _ _ => simp [PyData.eqv] at q
    | f x m _ _ _ => simp [PyData.eqv, PyData.eqvAll] at q
  | i n _ _ =>
    cases h2 with
    | v m _ _ => simp [PyData.eqv] at q
    | i m _ _ =>
      simp only [PyData.eqv, beq_iff_eq] at q
      rw [q]
    | f x m _ _ _ => simp [PyData.eqv] at q
  | f x n _ _ _ =>
    cases h2 with
    | v m _ _ => simp [PyData.eqv, PyData.eqvAll] at q
    | i m _ _ => simp [PyData.eqv] at q
    | f y m _ _ _ =>
      simp only [PyData.eqv, PyData.eqvAll, Bool.and_eq_true, beq_iff_eq] at q
      rw [q.2.1, q.2.2.1]
theorem nds_eq : ∀ {ds es : List PyData}, (∀ d ∈ ds, NdA d) → (∀ e ∈ es, NdA e) → PyData.eqvAll ds es = true → ds = es
  | [], [], _, _, _ => rfl
  | [], _ :: _, _, _, h => by simp [PyData.eqvAll] at h
  | _ :: _, [], _, _, h => by simp [PyData.eqvAll] at h
  | d :: ds, e :: es, h1, h2, h => by
    simp only [PyData.eqvAll, Bool.and_eq_true] at h
    rw [nd_eq (h1 d List.mem_cons_self) (h2 e List.mem_cons_self) h.1, nds_eq (fun x hx => h1 x (List.mem_cons_of_mem _ hx)) (fun x hx => h2 x (List.mem_cons_of_mem _ hx)) h.2]
theorem tup_eq {ds es : List PyData} (h1 : ∀ d ∈ ds, NdA d) (h2 : ∀ e ∈ es, NdA e) (h : PyData.eqv (.tuple ds) (.tuple es) = true) : ds = es := by
  simp only [PyData.eqv] at h
  exact nds_eq h1 h2 h
theorem cls_app : ∀ (l r : List PyData) (j k : Nat), Cls j l → Cls k r → Cls (j + k) (l ++ r)
  | [], r, j, k, h, h2 => by
    have e : j = 0 := h
    rw [e, Nat.zero_add]
    exact h2
  | d :: l, r, j, k, h, h2 => by
    refine ⟨by have := h.1; omega, ?_⟩
    have := cls_app l r (j - 1 + arN d) k h.2 h2
    have e := h.1
    rwa [show j - 1 + arN d + k = j + k - 1 + arN d by omega] at this
/-- at each place of what is closed so many terms are missing -/
theorem cls_split : ∀ (ds : List PyData) (m i : Nat), Cls m ds → i ≤ ds.length → ∃ k, Cls k (ds.drop i) ∧ ∀ t, Cls k t → Cls m (ds.take i ++ t)
  | ds, m, 0, h, _ => ⟨m, h, fun t ht => ht⟩
  | [], m, i + 1, h, hi => absurd hi (by simp)
  | d :: ds, m, i + 1, h, hi => by
    obtain ⟨k, h1, h2⟩ := cls_split ds (m - 1 + arN d) i h.2 (by simpa using hi)
    exact ⟨k, h1, fun t ht => ⟨h.1, h2 t ht⟩⟩
abbrev Tab := List (Int × List PyData)
def valT (t : Tab) (n : Int) : Option (List PyData) := (t.find? fun p => decide (p.1 = n)).map (·.2)
/-- a dict with this table -/
def TabK (K : PySem.W.Frag) (H : Hp) : List (Key × V) → Tab → Prop
  | [], [] => True
  | p :: kvs, q :: t => p.1 = Sum.inl q.1 ∧ Dp K H p.2 (.tuple q.2) ∧ TabK K H kvs t
  | _, _ => False
def TabN (t : Tab) : Prop := ∀ p ∈ t, (∀ d ∈ p.2, NdA d)
theorem TabK.len {K : PySem.W.Frag} {H : Hp} : ∀ {kvs : List (Key × V)} {t : Tab}, TabK K H kvs t → kvs.length = t.length
  | [], [], _ => rfl
  | [], _ :: _, h => h.elim
  | _ :: _, [], h => h.elim
  | p :: kvs, q :: t, h => congrArg (· + 1) (TabK.len h.2.2)
theorem TabK.mono {K : PySem.W.Frag} {H H' : Hp} (f : ∀ v ds, (∀ d ∈ ds, NdA d) → Dp K H v (.tuple ds) → Dp K H' v (.tuple ds)) : ∀ {kvs : List (Key × V)} {t : Tab}, TabN t → TabK K H kvs t → TabK K H' kvs t
  | [], [], _, _ => True.intro
  | [], _ :: _, _, h => h.elim
  | _ :: _, [], _, h => h.elim
  | p :: kvs, q :: t, n, h => ⟨h.1, f _ _ (n q List.mem_cons_self) h.2.1, TabK.mono f (fun x hx => n x (List.mem_cons_of_mem _ hx)) h.2.2⟩
theorem TabK.val {K : PySem.W.Frag} {H : Hp} (n : Int) : ∀ {kvs : List (Key × V)} {t : Tab}, TabK K H kvs t → (valV kvs (Sum.inl n) = none ∧ valT t n = none) ∨ ∃ v ds, valV kvs (Sum.inl n) = some v ∧ valT t n = some ds ∧ Dp K H v (.tuple ds)
  | [], [], _ => .inl ⟨rfl, rfl⟩
  | [], _ :: _, h => h.elim
  | _ :: _, [], h => h.elim
  | p :: kvs, q :: t, h => by
    by_cases e : q.1 = n
    · refine .inr ⟨p.2, q.2, valV_pos (by rw [h.1, e]), ?_, h.2.1⟩
      unfold valT
      rw [List.find?_cons, decide_eq_true e]
      rfl
    · have e1 : ¬ p.1 = Sum.inl n := fun z => e (Sum.inl.inj (h.1.symm.trans z))
      have e2 : valT (q :: t) n = valT t n := by
        unfold valT
        rw [List.find?_cons, decide_eq_false e]
      rw [valV_neg e1, e2]
      exact TabK.val n h.2.2
theorem TabK.snoc {K : PySem.W.Frag} {H : Hp} {n : Int} {v : V} {ds : List PyData} (hd : Dp K H v (.tuple ds)) : ∀ {kvs : List (Key × V)} {t : Tab}, TabK K H kvs t → TabK K H (kvs ++ [(Sum.inl n, v)]) (t ++ [(n, ds)])
  | [], [], _ => ⟨rfl, hd, True.intro⟩
  | [], _ :: _, h => h.elim
  | _ :: _, [], h => h.elim
  | p :: kvs, q :: t, h => ⟨h.1, h.2.1, TabK.snoc hd h.2.2⟩
theorem valT_snoc (t : Tab) (n m : Int) (ds : List PyData) (h : valT t n = none) : valT (t ++ [(n, ds)]) m = if m = n then some ds else valT t m := by
  unfold valT at *
  rw [List.find?_append]
  cases e : t.find? fun p => decide (p.1 = m) with
  | some p =>
    have hm : ¬ m = n := fun z => by rw [z] at e; rw [e] at h; cases h
    rw [if_neg hm]
    rfl
  | none =>
    by_cases hm : m = n
    · rw [if_pos hm, Option.none_or]
      rw [List.find?_cons, decide_eq_true hm.symm]
      rfl
    · rw [if_neg hm, Option.none_or]
      rw [List.find?_cons, decide_eq_false (fun z => hm z.symm)]
      rfl
theorem valT_none {t : Tab} {n : Int} (h : valT t n = none) : ∀ q ∈ t, q.1 ≠ n := by
  intro q hq e
  unfold valT at h
  rw [Option.map_eq_none_iff, List.find?_eq_none] at h
  exact h q hq (decide_eq_true e)
mutual
def noL : PyData → Bool
  | .none => true
  | .bool _ => true
  | .int _ => true
  | .str _ => true
  | .tuple ds => noLA ds
  | .list _ => false
  | .dict _ => false
def noLA : List PyData → Bool
  | [] => true
  | d :: ds => noL d && noLA ds
end
def notTup (H : Hp) (p : Addr) : Prop := (∃ ys, H p = some (.lst ys)) ∨ (∃ kvs, H p = some (.dK kvs)) ∨ ∃ o kvs, H p = some (.frz o (.dK kvs))
theorem sqT_put {K : PySem.W.Frag} {H : Hp} {p b : Addr} {o : HO} {xs : List V} (hp : notTup H p) (h : SqT K H b xs) : SqT K (upd H p o) b xs := by
  rcases h with (h | ⟨q, h⟩) | h
  · exact .inl (.inl (by rw [upd_ne (fun z => by rw [z] at h; rcases hp with ⟨_, hp⟩ | ⟨_, hp⟩ | ⟨_, _, hp⟩ <;> (rw [hp] at h; cases h))]; exact h))
  · exact .inl (.inr ⟨q, by rw [upd_ne (fun z => by rw [z] at h; rcases hp with ⟨_, hp⟩ | ⟨_, hp⟩ | ⟨_, _, hp⟩ <;> (rw [hp] at h; cases h))]; exact h⟩)
  · exact .inr h
section
variable {K : PySem.W.Frag} {H : Hp} {p : Addr} {o : HO}
mutual
theorem dp_put (hp : notTup H p) : ∀ (d : PyData) (v : V), noL d = true → Dp K H v d → Dp K (upd H p o) v d
  | .none, _, _, h => by cases h; exact .non
  | .bool b, _, _, h => by cases h; exact .bl b
  | .int i, _, _, h => by cases h; exact .int i
  | .str x, _, _, h => by cases h; exact .str x
  | .list ds, _, n, h => by simp [noL] at n
  | .tuple ds, _, n, h => by
    cases h with
    | tup g ha => exact .tup (sqT_put hp g) (dp_putAll hp ds _ (by simpa [noL] using n) ha)
  | .dict _, _, n, h => by cases h
theorem dp_putAll (hp : notTup H p) : ∀ (ds : List PyData) (vs : List V), noLA ds = true → DpAll K H vs ds → DpAll K (upd H p o) vs ds
  | [], _, _, h => by cases h; exact .nil
  | d :: ds, _, n, h => by
    rw [noLA, Bool.and_eq_true] at n
    cases h with
    | cons h1 h2 => exact .cons (dp_put hp d _ n.1 h1) (dp_putAll hp ds _ n.2 h2)
end
end
theorem nd_noL {d : PyData} (h : NdA d) : noL d = true := by
  obtain ⟨wd, h⟩ := h
  cases h <;> simp [noL, noLA]
theorem nds_noL : ∀ {ds : List PyData}, (∀ d ∈ ds, NdA d) → noLA ds = true
  | [], _ => by simp [noLA]
  | d :: r, h => by rw [noLA, nd_noL (h d List.mem_cons_self), nds_noL fun e he => h e (List.mem_cons_of_mem _ he)]; rfl
theorem tup_noL {ds : List PyData} (h : ∀ d ∈ ds, NdA d) : noL (.tuple ds) = true := by rw [noL]; exact nds_noL h
theorem tab_put {K : PySem.W.Frag} {H : Hp} {p : Addr} {o : HO} {kvs : List (Key × V)} {t : Tab} (hp : notTup H p) (n : TabN t) (h : TabK K H kvs t) : TabK K (upd H p o) kvs t := TabK.mono (fun v ds hn hd => dp_put hp _ _ (tup_noL hn) hd) n h
theorem tab_same {K : PySem.W.Frag} {H H' : Hp} {kvs : List (Key × V)} {t : Tab} (s : Same H H') (n : TabN t) (h : TabK K H kvs t) : TabK K H' kvs t := TabK.mono (fun v ds _ hd => dp_same s _ _ hd) n h
section
variable {K : PySem.W.Frag} {H H' : Hp}
mutual
theorem dp_map (f : ∀ b xs, SqT K H b xs → SqT K H' b xs) : ∀ (d : PyData) (v : V), noL d = true → Dp K H v d → Dp K H' v d
  | .none, _, _, h => by cases h; exact .non
  | .bool b, _, _, h => by cases h; exact .bl b
  | .int i, _, _, h => by cases h; exact .int i
  | .str x, _, _, h => by cases h; exact .str x
  | .list ds, _, n, h => by simp [noL] at n
  | .tuple ds, _, n, h => by
    cases h with
    | tup g ha => exact .tup (f _ _ g) (dp_mapAll f ds _ (by simpa [noL] using n) ha)
  | .dict _, _, n, h => by cases h
theorem dp_mapAll (f : ∀ b xs, SqT K H b xs → SqT K H' b xs) : ∀ (ds : List PyData) (vs : List V), noLA ds = true → DpAll K H vs ds → DpAll K H' vs ds
  | [], _, _, h => by cases h; exact .nil
  | d :: ds, _, n, h => by
    rw [noLA, Bool.and_eq_true] at n
    cases h with
    | cons h1 h2 => exact .cons (dp_map f d _ n.1 h1) (dp_mapAll f ds _ n.2 h2)
end
theorem sqT_but {p b : Addr} {xs : List V} (hp : notTup H p) (hb : But p H H') (h : SqT K H b xs) : SqT K H' b xs := by
  rcases h with (h | ⟨q, h⟩) | h
  · exact .inl (.inl (hb _ _ (fun z => by rw [z] at h; rcases hp with ⟨_, hp⟩ | ⟨_, hp⟩ | ⟨_, _, hp⟩ <;> (rw [hp] at h; cases h)) h))
  · exact .inl (.inr ⟨q, hb _ _ (fun z => by rw [z] at h; rcases hp with ⟨_, hp⟩ | ⟨_, hp⟩ | ⟨_, _, hp⟩ <;> (rw [hp] at h; cases h)) h⟩)
  · exact .inr h
/-- draws change the stream alone -/
theorem dp_but {s l : Addr} {v : V} {ds : List PyData} (S : Stm H s l) (b : But s H H') (n : ∀ d ∈ ds, NdA d) (h : Dp K H v (.tuple ds)) : Dp K H' v (.tuple ds) := by
  obtain ⟨x, y, m, ns, e, _⟩ := S.ex
  exact dp_map (fun c xs g => sqT_but (.inl ⟨_, e⟩) b g) _ _ (tup_noL n) h
end
theorem TabK.rep {K : PySem.W.Frag} {H : Hp} {n : Int} {v : V} {ds : List PyData} (hd : Dp K H v (.tuple ds)) : ∀ {kvs : List (Key × V)} {t : Tab}, TabK K H kvs t → TabK K H (kvs.map fun kv => if kv.1 = Sum.inl n then (kv.1, v) else kv) (t.map fun q => if q.1 = n then (q.1, ds) else q)
  | [], [], _ => True.intro
  | [], _ :: _, h => h.elim
  | _ :: _, [], h => h.elim
  | p :: kvs, q :: t, h => by
    have i : p.1 = Sum.inl n ↔ q.1 = n := by rw [h.1]; exact ⟨fun z => Sum.inl.inj z, fun z => congrArg _ z⟩
    refine ⟨?_, ?_, TabK.rep hd h.2.2⟩
    · by_cases e : q.1 = n
      · simp only [if_pos e, if_pos (i.mpr e)]; exact h.1
      · simp only [if_neg e, if_neg (fun z => e (i.mp z))]; exact h.1
    · by_cases e : q.1 = n
      · simp only [if_pos e, if_pos (i.mpr e)]; exact hd
      · simp only [if_neg e, if_neg (fun z => e (i.mp z))]; exact h.2.1
theorem TabK.put {K : PySem.W.Frag} {H : Hp} {n : Int} {v : V} {ds : List PyData} (hd : Dp K H v (.tuple ds)) {kvs : List (Key × V)} {t : Tab} (h : TabK K H kvs t) : ∃ t', TabK K H (putK kvs (Sum.inl n) v) t' ∧ (∀ q ∈ t', q ∈ t ∨ q.2 = ds) ∧ t'.length ≤ t.length + 1 := by
  unfold putK
  split
  · refine ⟨_, TabK.rep hd h, fun q hq => ?_, by rw [List.length_map]; exact Nat.le_succ _⟩
    obtain ⟨q', h1, h2⟩ := List.mem_map.mp hq
    split at h2
    · right; rw [← h2]
    · left; rw [← h2]; exact h1
  · refine ⟨_, TabK.snoc hd h, fun q hq => ?_, by rw [List.length_append]; exact Nat.le_refl _⟩
    rcases List.mem_append.mp hq with z | z
    · exact .inl z
    · right; rw [List.mem_singleton.mp z]
theorem TabK.at_ {K : PySem.W.Frag} {H : Hp} : ∀ {kvs : List (Key × V)} {t : Tab} {i : Nat} {k : Key} {v : V}, TabK K H kvs t → kvs[i]? = some (k, v) → ∃ q, q ∈ t ∧ k = Sum.inl q.1
  | [], [], i, k, v, _, h => by simp at h
  | [], _ :: _, _, _, _, h, _ => h.elim
  | _ :: _, [], _, _, _, h, _ => h.elim
  | p :: kvs, q :: t, 0, k, v, h, e => by
    rw [List.getElem?_cons_zero] at e
    cases e
    exact ⟨q, List.mem_cons_self, h.1⟩
  | p :: kvs, q :: t, i + 1, k, v, h, e => by
    rw [List.getElem?_cons_succ] at e
    obtain ⟨q', h1, h2⟩ := TabK.at_ h.2.2 e
    exact ⟨q', List.mem_cons_of_mem _ h1, h2⟩
theorem valT_of {t : Tab} {q : Int × List PyData} (h : q ∈ t) : ∃ ds, valT t q.1 = some ds := by
  cases e : valT t q.1 with
  | some ds => exact ⟨ds, rfl⟩
  | none => exact absurd rfl (valT_none e q h)
theorem putK_old {kvs : List (Key × V)} {k : Key} {v w : V} (h : valV kvs k = some w) : putK kvs k v = kvs.map fun kv => if kv.1 = k then (kv.1, v) else kv := by
  unfold putK
  rw [if_pos (by rw [valV_any, h]; rfl)]
theorem valT_mem {t : Tab} {n : Int} {ds : List PyData} (h : valT t n = some ds) : ∃ q ∈ t, q.2 = ds := by
  unfold valT at h
  cases e : t.find? fun p => decide (p.1 = n) with
  | none => rw [e] at h; cases h
  | some p =>
    rw [e] at h
    exact ⟨p, List.mem_of_find?_eq_some e, Option.some.inj h⟩
/-- a dict comprehension over what is walked -/
theorem dc_it {J : It} {n : Nat} {G : Hp → Prop} {Y : Nat → Hp → V → Hp → Prop} (wk : Walk J n G Y) {g : TG} {tt : TT} {tk tv : TE} {vs : List Nat} {σ : L2.St} {H1 : Hp} {D : Addr} {Qd : Hp → Prop} (Pv : Nat → Hp → Prop) (p0 : Pv 0 (upd H1 D (.dK []))) (pG : ∀ i H, i ≤ n → Pv i H → G H)
    (turn : ∀ i x H H', i < n → Pv i H → Y i H x H' → g x (wipe σ vs) H' fun σ2 H2 => wipe σ2 vs = wipe σ vs ∧ tt σ2 H2 fun b H3 =>
      if b = true then tk σ2 H3 fun y H4 => tv σ2 H4 fun z H5 => ∃ kvs k, y = kV k ∧ H5 D = some (.dK kvs) ∧ kvs.length < sizeLine ∧ Pv (i + 1) (upd H5 D (.dK (putK kvs k z))) else Pv (i + 1) H3) (pd : ∀ H, Pv n H → Qd H) :
    ∃ W : Nat → Nat → Hp → Prop, (∃ m, W 0 m (upd H1 D (.dK []))) ∧ ∀ i m H, W i m H →
      (J.stop i H ∧ Qd H) ∨ (J.go i H ∧ ∃ Nx : Hp → Prop, (∀ H', Nx H' → ∃ m', m' < m ∧ W (i + 1) m' H') ∧ ∀ x H', J.yld i H x H' → g x (wipe σ vs) H' fun σ2 H2 => wipe σ2 vs = wipe σ vs ∧ tt σ2 H2 fun b H3 =>
        if b = true then tk σ2 H3 fun y H4 => tv σ2 H4 fun z H5 => ∃ kvs k, y = kV k ∧ H5 D = some (.dK kvs) ∧ kvs.length < sizeLine ∧ Nx (upd H5 D (.dK (putK kvs k z))) else Nx H3) := by
  refine ⟨fun i m H => m = n - i ∧ i ≤ n ∧ Pv i H, ⟨n, by simp, Nat.zero_le _, p0⟩, ?_⟩
  rintro i m H ⟨rfl, hi, hp⟩
  have hg := pG i H hi hp
  rcases Nat.lt_or_ge i n with hlt | hge
  · exact .inr ⟨wk.goes i H hlt hg, Pv (i + 1), fun σ' p' => ⟨n - (i + 1), by omega, rfl, hlt, p'⟩, fun x H' y => turn i x H H' hlt hp (wk.yields i H x H' hlt hg y)⟩
  · obtain rfl : i = n := by omega
    exact .inl ⟨wk.stops H hg, pd H hp⟩
theorem TabK.get {K : PySem.W.Frag} {H : Hp} : ∀ {kvs : List (Key × V)} {t : Tab} {i : Nat} {kv : Key × V}, TabK K H kvs t → kvs[i]? = some kv → ∃ q, t[i]? = some q ∧ kv.1 = Sum.inl q.1 ∧ Dp K H kv.2 (.tuple q.2)
  | [], [], i, kv, _, h => by simp at h
  | [], _ :: _, _, _, h, _ => h.elim
  | _ :: _, [], _, _, h, _ => h.elim
  | p :: kvs, q :: t, 0, kv, h, e => by
    rw [List.getElem?_cons_zero] at e
    cases e
    exact ⟨q, rfl, h.1, h.2.1⟩
  | p :: kvs, q :: t, i + 1, kv, h, e => by
    rw [List.getElem?_cons_succ] at e
    obtain ⟨q', h1, h2⟩ := TabK.get h.2.2 e
    exact ⟨q', by rw [List.getElem?_cons_succ]; exact h1, h2⟩
theorem valT_notin {t : Tab} {n : Int} (h : n ∉ t.map (·.1)) : valT t n = none := by
  unfold valT
  rw [Option.map_eq_none_iff, List.find?_eq_none]
  exact fun q hq e => h (List.mem_map.mpr ⟨q, hq, of_decide_eq_true e⟩)
theorem TabK.none {K : PySem.W.Frag} {H : Hp} {kvs : List (Key × V)} {t : Tab} {n : Int} (T : TabK K H kvs t) (h : n ∉ t.map (·.1)) : valV kvs (Sum.inl n) = Option.none := by
  rcases TabK.val n T with ⟨w, _⟩ | ⟨v, ds, _, w, _⟩
  · exact w
  · rw [valT_notin h] at w; cases w
theorem TabK.some {K : PySem.W.Frag} {H : Hp} {kvs : List (Key × V)} {t : Tab} {n : Int} (T : TabK K H kvs t) (h : n ∈ t.map (·.1)) : (valV kvs (Sum.inl n)).isSome = true := by
  obtain ⟨q, hq, rfl⟩ := List.mem_map.mp h
  rcases TabK.val q.1 T with ⟨_, w⟩ | ⟨v, ds, w, _, _⟩
  · exact absurd rfl (valT_none w q hq)
  · rw [w]; rfl
/-- a key that is new goes to the end -/
theorem TabK.add {K : PySem.W.Frag} {H : Hp} {kvs : List (Key × V)} {t : Tab} {n : Int} {v : V} {ds : List PyData} (T : TabK K H kvs t) (h : n ∉ t.map (·.1)) (hd : Dp K H v (.tuple ds)) : TabK K H (putK kvs (Sum.inl n) v) (t ++ [(n, ds)]) := by
  rw [putK_new _ (T.none h)]
  exact TabK.snoc hd T
/-- the i-th key is none of those before -/
theorem nodup_new {t : Tab} {i : Nat} {q : Int × List PyData} (h : (t.map (·.1)).Nodup) (hq : t[i]? = some q) : q.1 ∉ (t.take i).map (·.1) := by
  intro hm
  obtain ⟨x, hx, e⟩ := List.mem_map.mp hm
  obtain ⟨j, hj⟩ := List.getElem?_of_mem hx
  have hji : j < i := by
    have := (List.getElem?_eq_some_iff.mp hj).1
    rw [List.length_take] at this
    omega
  rw [List.getElem?_take_of_lt hji] at hj
  have a1 : (t.map (·.1))[j]? = some q.1 := by rw [List.getElem?_map, hj, ← e]; rfl
  have a2 : (t.map (·.1))[i]? = some q.1 := by rw [List.getElem?_map, hq]; rfl
  have b1 := (List.getElem?_eq_some_iff.mp a1).1
  have := (List.getElem?_inj b1 h).mp (a1.trans a2.symm)
  omega
/-! ### substitutions -/
def varN (n : Int) : List PyData := [.tuple [.str "v", .int n]]
def appN (t : Tab) (d : PyData) : List PyData := if isVarN d = true then (match valT t (numN d) with | some w => w | none => [d]) else [d]
def appM (t : Tab) (ds : List PyData) : List PyData := ds.flatMap (appN t)
/-- a value that is the key itself falls out -/
def keepN (n : Int) (w : List PyData) : Option (List PyData) := if PyData.eqv (.tuple w) (.tuple (varN n)) = true then none else some w
def compV (t u : Tab) (n : Int) : Option (List PyData) :=
  match valT t n with
  | some w => keepN n (appM u w)
  | none => (match valT u n with | some w => keepN n w | none => none)
theorem var_form {d : PyData} (h : NdA d) (v : isVarN d = true) : ∃ n, d = .tuple [.str "v", .int n] := by
  obtain ⟨wd, nd⟩ := h
  cases nd with
  | v n _ _ => exact ⟨n, rfl⟩
  | i n _ _ => cases v
  | f x n _ _ _ => cases v
theorem var_nd {n : Int} (h : 0 ≤ n) : ∀ d ∈ varN n, NdA d := fun d hd => ⟨n + 1, by rw [List.mem_singleton.mp hd]; exact .v n h (by omega)⟩
theorem valT_nd {t : Tab} {n : Int} {w : List PyData} (ht : TabN t) (h : valT t n = some w) : ∀ d ∈ w, NdA d := by
  obtain ⟨q, hq, e⟩ := valT_mem h
  rw [← e]
  exact ht q hq
theorem appN_nd {t : Tab} (ht : TabN t) {d : PyData} (hd : NdA d) : ∀ e ∈ appN t d, NdA e := by
  unfold appN
  by_cases v : isVarN d = true
  · rw [if_pos v]
    cases e : valT t (numN d) with
    | some w => exact valT_nd ht e
    | none => exact fun e he => by rw [List.mem_singleton.mp he]; exact hd
  · rw [if_neg v]
    exact fun e he => by rw [List.mem_singleton.mp he]; exact hd
theorem appM_nd {t : Tab} (ht : TabN t) {ds : List PyData} (hd : ∀ d ∈ ds, NdA d) : ∀ e ∈ appM t ds, NdA e := fun e he => by
  obtain ⟨d, h1, h2⟩ := List.mem_flatMap.mp he
  exact appN_nd ht (hd d h1) e h2
theorem var_num {d : PyData} (h : NdA d) (v : isVarN d = true) : ∃ n, 0 ≤ n ∧ d = .tuple [.str "v", .int n] := by
  obtain ⟨wd, nd⟩ := h
  cases nd with
  | v n h1 _ => exact ⟨n, h1, rfl⟩
  | i n _ _ => cases v
  | f x n _ _ _ => cases v
theorem comp_app {t u c : Tab} (nt : TabN t) (nu : TabN u) (hc : ∀ n, valT c n = compV t u n) {ds : List PyData} (nd : ∀ d ∈ ds, NdA d) : appM c ds = appM u (appM t ds) := by
  unfold appM
  rw [List.flatMap_assoc]
  have h : ∀ d ∈ ds, appN c d = (appN t d).flatMap (appN u) := by
    intro d hd
    by_cases v : isVarN d = true
    · obtain ⟨n, n0, rfl⟩ := var_num (nd d hd) v
      have e1 : ∀ s : Tab, appN s (.tuple [.str "v", .int n]) = (match valT s n with | some w => w | none => varN n) := fun s => by
        unfold appN
        rw [if_pos v]
        rfl
      rw [e1, e1, hc n]
      unfold compV
      cases ht : valT t n with
      | some w =>
        simp only
        unfold keepN
        by_cases hk : PyData.eqv (.tuple (appM u w)) (.tuple (varN n)) = true
        · rw [if_pos hk]
          exact (tup_eq (appM_nd nu (valT_nd nt ht)) (var_nd n0) hk).symm
        · rw [if_neg hk]
          rfl
      | none =>
        simp only
        have e2 : (varN n).flatMap (appN u) = (match valT u n with | some w => w | none => varN n) := by
          unfold varN
          rw [List.flatMap_cons, List.flatMap_nil, List.append_nil]
          exact e1 u
        rw [e2]
        cases hu : valT u n with
        | some w =>
          simp only
          unfold keepN
          by_cases hk : PyData.eqv (.tuple w) (.tuple (varN n)) = true
          · rw [if_pos hk]
            exact (tup_eq (valT_nd nu hu) (var_nd n0) hk).symm
          · rw [if_neg hk]
        | none => rfl
    · have e3 : ∀ s : Tab, appN s d = [d] := fun s => if_neg v
      rw [e3, e3, List.flatMap_cons, List.flatMap_nil, List.append_nil, e3]
  clear hc
  induction ds with
  | nil => rfl
  | cons d r ih =>
    rw [List.flatMap_cons, List.flatMap_cons, h d List.mem_cons_self, ih (fun x hx => nd x (List.mem_cons_of_mem _ hx)) fun x hx => h x (List.mem_cons_of_mem _ hx)]
theorem appM_take {t : Tab} {ds : List PyData} {i : Nat} {d : PyData} (h : ds[i]? = some d) : appM t (ds.take (i + 1)) = appM t (ds.take i) ++ appN t d := by
  unfold appM
  rw [List.take_add_one, h, List.flatMap_append]
  show _ ++ (appN t d ++ []) = _
  rw [List.append_nil]
theorem appN_non {t : Tab} {d : PyData} (v : ¬ isVarN d = true) : appN t d = [d] := if_neg v
theorem appN_out {t : Tab} {n : Int} (h : valT t n = none) : appN t (.tuple [.str "v", .int n]) = [.tuple [.str "v", .int n]] := by
  unfold appN
  rw [if_pos (show isVarN (.tuple [.str "v", .int n]) = true from rfl), show numN (.tuple [.str "v", .int n]) = n from rfl, h]
theorem appN_in {t : Tab} {n : Int} {w : List PyData} (h : valT t n = some w) : appN t (.tuple [.str "v", .int n]) = w := by
  unfold appN
  rw [if_pos (show isVarN (.tuple [.str "v", .int n]) = true from rfl), show numN (.tuple [.str "v", .int n]) = n from rfl, h]
/-- the composed table: the first one's values with the second applied, then what the second adds, without a key that is its own value -/
def comp1 (t u : Tab) : Tab := t.map fun x => (x.1, appM u x.2)
def newK (t : Tab) (x : Int × List PyData) : Bool := !(decide (x.1 ∈ t.map (·.1)))
def notOwn (x : Int × List PyData) : Bool := !PyData.eqv (.tuple x.2) (.tuple (varN x.1))
def compT (t u : Tab) : Tab := (comp1 t u ++ u.filter (newK t)).filter notOwn
theorem comp1_keys (t u : Tab) : (comp1 t u).map (·.1) = t.map (·.1) := by unfold comp1; rw [List.map_map]; rfl
theorem comp1_nd {t u : Tab} (ht : TabN t) (hu : TabN u) : TabN (comp1 t u) := fun x hx => by
  obtain ⟨q, h1, rfl⟩ := List.mem_map.mp hx
  exact appM_nd hu (ht q h1)
/-! ### defs with a star parameter -/
def starSp (n : Nat) (sp : Sp) : Sp := fun vs H Q E => ∃ ws rest, vs = ws ++ rest ∧ ws.length = n ∧ rest.length ≤ sizeLine ∧ ∀ p, H p = Option.none → sp (ws ++ [V.ref p]) (upd H p (.tup rest)) Q E
def HasR (P : Program) (w : World) (K : PySem.W.Frag) (mg : Str → Option Value) (base : Heap) (k : Nat) (x : Str) (n : Nat) (sp : Sp) : Prop :=
  ∃ (f : Addr), FnR P w K mg base (L2.CX P w) k f (starSp n sp) ∧ mg x = some (.ref f) ∧ PySem.W.keepIn K (.ref f) = true
theorem pe_callRS {X : Cx} {CX : CXT} {k : Nat} {f : Addr} {sp : Sp} {E : L2.St → XK} {x : Str} {p pos : Pos} {e : Expr} {es : List Expr} {t : TA} (F : FnR X.prog X.w X.K X.mg X.base CX k f sp) (hr : Room k X.A) (hg : Gl X x) (hm : X.mg x = some (.ref f)) (hk : PySem.W.keepIn X.K (.ref f) = true) (hx : ∀ σ, PassesAt CX X σ (E σ))
    (ha : PA X (e :: es) t) (hdb : (x == ("__debug__" : Str)) = false := by decide) (he : starEach (e :: es) X.env = (false, eval e X.env) :: starEach es X.env := by rfl) (hpl : (backTo pos (starEach es X.env)).any (·.1) = false := by rfl) :
    PE X (.Call (.Name x p) (e :: es) [] pos) (tCallS sp E t) := by
  refine ⟨fun pins s σ H Q I h => ?_⟩
  refine wpAny_Call_Name_kw (ld_glob I hg hm ?_ hdb)
  refine PySem.W.callWith_K (h₀ := X.base) I.ok.mod.kin hk (thn (ha.run pos pins s σ H _ I h) fun us s1 ⟨vs, H1, I1, r, q⟩ => ⟨I1.kIn, ?_⟩) he hpl
  refine wpAny_call (codeAny_mono (F X.A X.stack s1 H1 us vs Q (E σ) hr I1.env0 r q) fun r s' hq => ?_)
  cases r with
  | error e => exact hx σ pins H1 s1 e s' I1 hq
  | ok fl =>
    cases fl with
    | ret u => exact I1.after hq
    | next => exact False.elim hq
    | brk => exact False.elim hq
    | cont => exact False.elim hq
/-! ### the mathematics: what each def gives -/
def big : Int := 10000000000000000000000000000000000000000
def isInteger : PyData → Bool
  | .int _ => true | _ => false
def isBounded : PyData → Bool
  | .int i => decide ((if i < 0 then -i else i) < big) | _ => false
def okS2 (c : Nat) : Bool := (!decide ([c] < [32])) && (!decide ([126] < [c])) && (!decide ((c : Int) = 37))
def isName : PyData → Bool
  | .str x => decide ((1 : Int) ≤ x.length) && decide ((x.length : Int) ≤ 40) && x.cps.toList.all okS2 | _ => false
def isArity : PyData → Bool
  | .int i => decide (0 ≤ i) && decide (i ≤ 8) | _ => false
def geZ : PyData → Bool
  | .int i => decide (0 ≤ i) | _ => false
def isNode : PyData → Bool
  | .int i => isBounded (.int i)
  | .tuple [a, b] => a.eqv (.str "v") && isInteger b && geZ b
  | .tuple [a, b, c] => a.eqv (.str "f") && isName b && isArity c
  | _ => false
def isSym : PyData → Bool
  | .tuple [_, _, _] => true | _ => false
def arityOf : PyData → Int
  | .tuple [_, _, c] => (match c with | .int n => n | _ => 0) | _ => 0
/-- every part can be compared -/
def okD : PyData → Bool
  | .tuple ds => ds.all SeqAt.shaped && ds.all (fun d => match d with | .str x => decide (x.length ≤ 100) | _ => true) | _ => true
def termGo : Int → List PyData → Bool
  | m, [] => decide (m = 0)
  | m, d :: ds => if m = 0 ∨ isNode d = false then false else termGo (m + (arityOf d - 1)) ds
def isTerm : PyData → Bool
  | .tuple ds => termGo 1 ds | _ => false
def lawName : PyData → Bool
  | .str x => decide ((1 : Int) ≤ x.length) && decide ((x.length : Int) ≤ 40) && !decide (10 ∈ x.cps.toList) | _ => false
def lawArity : PyData → Int
  | .int i => if decide (-((10 : Int) ^ (40 : Int).toNat) < i) = true ∧ decide (i < (10 : Int) ^ (40 : Int).toNat) = true then 0 else -1
  | .tuple [a, b] => if (a.eqv (.str "v") = true ∧ isInteger b = true) ∧ geZ b = true then 0 else -1
  | .tuple [a, b, c] => if (a.eqv (.str "f") = true ∧ lawName b = true) ∧ isArity c = true then (match c with | .int n => n | _ => 0) else -1
  | _ => -1
/-! ### small facts -/
theorem tup_cases {d : PyData} (hn : isNode d = true) (ht : isT d = true) : (∃ a b, d = .tuple [a, b] ∧ a.eqv (.str "v") = true) ∨ ∃ a b c, d = .tuple [a, b, c] ∧ a.eqv (.str "f") = true ∧ isArity c = true := by
  cases d with
  | tuple ds =>
    rcases ds with _ | ⟨a, _ | ⟨b, _ | ⟨c, _ | ⟨e, r⟩⟩⟩⟩
    · exact absurd hn Bool.false_ne_true
    · exact absurd hn Bool.false_ne_true
    · have h : (a.eqv (.str "v") && isInteger b && geZ b) = true := hn
      simp only [Bool.and_eq_true] at h
      exact .inl ⟨a, b, rfl, h.1.1⟩
    · have h : (a.eqv (.str "f") && isName b && isArity c) = true := hn
      simp only [Bool.and_eq_true] at h
      exact .inr ⟨a, b, c, rfl, h.1.1, h.2⟩
    · exact absurd hn Bool.false_ne_true
  | _ => cases ht
theorem eqv_str {a : PyData} {z : Str} (h : a.eqv (.str z) = true) : a = .str z := by
  cases a with
  | str s =>
    have h3 : (s == z) = true := by simpa only [PyData.eqv] using h
    rw [beq_iff_eq.mp h3]
  | _ => simp only [PyData.eqv, Bool.false_eq_true] at h
theorem first_of {d : PyData} (hn : isNode d = true) (ht : isT d = true) : ∃ a r, ∃ s : Str, d = .tuple (a :: r) ∧ a = .str s ∧ isSym d = decide (V.str s = V.str "f") := by
  rcases tup_cases hn ht with ⟨a, b, rfl, h⟩ | ⟨a, b, c, rfl, h, _⟩
  · exact ⟨a, _, _, rfl, eqv_str h, (by decide +kernel : false = decide (V.str ("v" : Str) = V.str "f"))⟩
  · exact ⟨a, _, _, rfl, eqv_str h, (by decide +kernel : true = decide (V.str ("f" : Str) = V.str "f"))⟩
theorem third_of {d : PyData} (hn : isNode d = true) (hs : isSym d = true) : ∃ a b n, d = .tuple [a, b, .int n] := by
  have ht : isT d = true := by cases d <;> first | rfl | cases hs
  rcases tup_cases hn ht with ⟨a, b, rfl, h⟩ | ⟨a, b, c, rfl, h, h2⟩
  · cases hs
  · obtain ⟨n, rfl⟩ : ∃ n, c = .int n := by
      cases c <;> first | exact ⟨_, rfl⟩ | cases h2
    exact ⟨_, _, _, rfl⟩
theorem arity0 {d : PyData} (hs : ¬ isSym d = true) : arityOf d = 0 := by
  match d with
  | .tuple [_, _, _] => exact absurd rfl hs
  | .none => rfl
  | .bool _ => rfl
  | .int _ => rfl
  | .str _ => rfl
  | .list _ => rfl
  | .dict _ => rfl
  | .tuple [] => rfl
  | .tuple [_] => rfl
  | .tuple [_, _] => rfl
  | .tuple (_ :: _ :: _ :: _ :: _) => rfl
theorem okD_at {ds : List PyData} {i : Nat} {d : PyData} (h : okD (.tuple ds) = true) (e : ds[i]? = some d) : SeqAt.shaped d = true := by
  have h2 : (ds.all SeqAt.shaped && ds.all (fun d => match d with | .str x => decide (x.length ≤ 100) | _ => true)) = true := h
  rw [Bool.and_eq_true] at h2
  exact List.all_eq_true.mp h2.1 d (List.mem_of_getElem? e)
theorem okD_str {ds : List PyData} {i : Nat} {d : PyData} (h : okD (.tuple ds) = true) (e : ds[i]? = some d) : ∀ z, d = .str z → z.length ≤ 100 := by
  have h2 : (ds.all SeqAt.shaped && ds.all (fun d => match d with | .str x => decide (x.length ≤ 100) | _ => true)) = true := h
  rw [Bool.and_eq_true] at h2
  have h3 := List.all_eq_true.mp h2.2 d (List.mem_of_getElem? e)
  intro z ez
  subst ez
  exact of_decide_eq_true h3
def sp_is_integer (K : PySem.W.Frag) : Sp := fun vs H Q _ => ∃ (x : V) (d : PyData), vs = [x] ∧ Dp K H x d ∧ Q (.bl (isInteger d)) H
def sp_is_bounded (K : PySem.W.Frag) : Sp := fun vs H Q _ => ∃ (x : V) (d : PyData), vs = [x] ∧ Dp K H x d ∧ Q (.bl (isBounded d)) H
def sp_is_name (K : PySem.W.Frag) : Sp := fun vs H Q _ => ∃ (x : V) (d : PyData), vs = [x] ∧ Dp K H x d ∧ (∀ z, d = .str z → z.length ≤ 2000) ∧ ∀ H', Same H H' → Q (.bl (isName d)) H'
def sp_is_arity (K : PySem.W.Frag) : Sp := fun vs H Q _ => ∃ (x : V) (d : PyData), vs = [x] ∧ Dp K H x d ∧ Q (.bl (isArity d)) H
def sp_is_symbol (K : PySem.W.Frag) : Sp := fun vs H Q _ => ∃ (x : V) (d : PyData), vs = [x] ∧ Dp K H x d ∧ isNode d = true ∧ Q (.bl (isSym d)) H
def sp_arity_of (K : PySem.W.Frag) : Sp := fun vs H Q _ => ∃ (x : V) (d : PyData), vs = [x] ∧ Dp K H x d ∧ isNode d = true ∧ Q (.int (arityOf d)) H
def sp_is_node (K : PySem.W.Frag) : Sp := fun vs H Q _ => ∃ (x : V) (d : PyData), vs = [x] ∧ Dp K H x d ∧ okD d = true ∧ ∀ H', Same H H' → Q (.bl (isNode d)) H'
def sp_is_term (K : PySem.W.Frag) : Sp := fun vs H Q _ => ∃ (x : V) (d : PyData), vs = [x] ∧ Dp K H x d ∧ (∀ ds, d = .tuple ds → ∀ e ∈ ds, okD e = true) ∧ ∀ H', Same H H' → Q (.bl (isTerm d)) H'
theorem small9k {n : Nat} (h : n ≤ 9000) : n < sizeLine := Nat.lt_of_le_of_lt h (by decide)
theorem okS2_of {c : Nat} (h : okSign c = true) : okS2 c = true := by
  unfold okSign at h
  simp only [Bool.and_eq_true, decide_eq_true_eq, Bool.not_eq_true', decide_eq_false_iff_not] at h
  obtain ⟨⟨h1, h2⟩, h3⟩ := h
  unfold okS2
  have e1 : ¬ ([c] < [32]) := fun z => by
    rw [List.cons_lt_cons_iff] at z
    rcases z with z | ⟨_, z⟩
    · omega
    · exact absurd z (by simp)
  have e2 : ¬ ([126] < [c]) := fun z => by
    rw [List.cons_lt_cons_iff] at z
    rcases z with z | ⟨_, z⟩
    · omega
    · exact absurd z (by simp)
  have e3 : ¬ ((c : Int) = 37) := by omega
  rw [decide_eq_false e1, decide_eq_false e2, decide_eq_false e3]
  rfl
theorem isName_ok {x : Str} (h : okName x = true) : isName (.str x) = true := by
  unfold okName at h
  simp only [Bool.and_eq_true, decide_eq_true_eq] at h
  obtain ⟨⟨h1, h2⟩, h3⟩ := h
  show (decide ((1 : Int) ≤ x.length) && decide ((x.length : Int) ≤ 40) && x.cps.toList.all okS2) = true
  rw [decide_eq_true (by omega), decide_eq_true (by omega), List.all_eq_true.mpr fun c hc => okS2_of (List.all_eq_true.mp h3 c hc)]
  rfl
theorem nd_isNode {d : PyData} (h : NdA d) : isNode d = true := by
  obtain ⟨wd, h⟩ := h
  cases h with
  | v n h1 h2 =>
    show ((PyData.str "v").eqv (.str "v") && true && decide (0 ≤ n)) = true
    rw [decide_eq_true h1, show (PyData.str "v").eqv (.str "v") = true by decide +kernel]
    rfl
  | i n h1 h2 =>
    show decide ((if n < 0 then -n else n) < big) = true
    unfold big
    refine decide_eq_true ?_
    split <;> omega
  | f x n h1 h2 h3 =>
    show ((PyData.str "f").eqv (.str "f") && isName (.str x) && (decide (0 ≤ n) && decide (n ≤ 8))) = true
    rw [isName_ok h1, decide_eq_true h2, decide_eq_true h3, show (PyData.str "f").eqv (.str "f") = true by decide +kernel]
    rfl
theorem nd_ar {d : PyData} (h : NdA d) : arityOf d = (arN d : Int) := by
  obtain ⟨wd, h⟩ := h
  cases h with
  | v n h1 h2 => rfl
  | i n h1 h2 => rfl
  | f x n h1 h2 h3 =>
    show n = ((n.toNat : Nat) : Int)
    omega
theorem go_cls : ∀ {ds : List PyData} {m : Nat}, (∀ d ∈ ds, NdA d) → Cls m ds → termGo (m : Int) ds = true
  | [], m, _, h => by
    have h : m = 0 := h
    subst h
    exact decide_eq_true rfl
  | d :: ds, m, hn, h => by
    have hd := hn d List.mem_cons_self
    unfold termGo
    rw [if_neg (by
      rintro (z | z)
      · have := h.1; omega
      · rw [nd_isNode hd] at z; cases z)]
    rw [nd_ar hd, show (m : Int) + ((arN d : Int) - 1) = ((m - 1 + arN d : Nat) : Int) by have := h.1; omega]
    exact go_cls (fun e he => hn e (List.mem_cons_of_mem _ he)) h.2
theorem tk_row : ∀ {row rest : List PyData} {m : Nat}, Cls m row → tk m (row ++ rest) = row.length
  | [], rest, m, h => by
    have h : m = 0 := h
    subst h
    rw [List.nil_append, tk_zero]
    rfl
  | d :: row, rest, m, h => by
    rw [List.cons_append, tk_cons h.1, tk_row h.2, List.length_cons]
    omega
theorem nopart_of {σ : L2.St} {H : Hp} {Q : Option Int → Hp → Prop} (h : Q Option.none H) : tNoPart σ H Q := h
theorem rows_cls : ∀ {rows : List (List PyData)} {rest : List (List PyData)} {row : List PyData}, (∀ r ∈ row :: rest, Cls 1 r ∧ ∀ d ∈ r, NdA d) → Cls (rest.length + 1) ((row :: rest).flatten)
  | rows, [], row, h => by
    rw [List.flatten_cons, List.flatten_nil, List.append_nil]
    exact (h row List.mem_cons_self).1
  | rows, r :: rest, row, h => by
    rw [List.flatten_cons]
    have ih := rows_cls (rows := rows) (rest := rest) (row := r) fun x hx => h x (List.mem_cons_of_mem _ hx)
    have := cls_app row _ 1 (rest.length + 1) (h row List.mem_cons_self).1 ih
    rw [show (r :: rest).length + 1 = 1 + (rest.length + 1) by rw [List.length_cons]; omega]
    exact this
/-! ### building -/
def elems : PyData → List PyData
  | .tuple es => es | _ => []
def btC (K : PySem.W.Frag) : Value := .ref (clsA K "BadTerm")
def okT (d : PyData) : Prop := ∀ es, d = .tuple es → ∀ e ∈ es, okD e = true
def compG (x : Str) (ds : List PyData) : Bool := isName (.str x) && (decide ((1 : Int) ≤ (ds.length : Int)) && decide ((ds.length : Int) ≤ 8)) && ds.all isTerm
def compD (x : Str) (ds : List PyData) : PyData := .tuple (.tuple [.str "f", .str x, .int (ds.length : Int)] :: ds.flatMap elems)
def goodN (x : Str) : Bool := decide ((1 : Int) ≤ x.length) && decide ((x.length : Int) ≤ 40) && !decide (10 ∈ x.cps.toList)
def Rws (K : PySem.W.Frag) (H : Hp) (vs : List V) (ds : List PyData) : Prop := DpAll K H vs ds ∧ (∀ d ∈ ds, okT d) ∧ ds.length ≤ 9 ∧ ∀ i, ((ds.take i).flatMap elems).length ≤ 500
def builtD (w : Int) (x : Str) (n : Int) (ds : List PyData) : PyData :=
  if w = 0 then (if 0 ≤ n then .tuple [.tuple [.str "v", .int n]] else .none)
  else if w = 1 then (if isBounded (.int n) = true then .tuple [.int n] else .none)
  else if w = 2 then (if isName (.str x) = true then .tuple [.tuple [.str "f", .str x, .int 0]] else .none)
  else if compG x ds = true then compD x ds else .none
def sp_end_of (K : PySem.W.Frag) : Sp := fun vs H Q _ => ∃ (x : V) (ds : List PyData) (i k : Nat), vs = [x, .int i] ∧ Dp K H x (.tuple ds) ∧ (∀ d ∈ ds, NdA d) ∧ Cls (k + 1) (ds.drop i) ∧ Q (.int ((i + tk 1 (ds.drop i) : Nat) : Int)) H
def sp_variable (K : PySem.W.Frag) : Sp := fun vs H Q E => ∃ n : Int, vs = [.int n] ∧ (0 ≤ n → ∀ v H', Same H H' → Dp K H' v (.tuple [.tuple [.str "v", .int n]]) → Q v H') ∧ (¬ 0 ≤ n → ∀ H', Same H H' → E (btC K) Option.none H')
def sp_integer (K : PySem.W.Frag) : Sp := fun vs H Q E => ∃ n : Int, vs = [.int n] ∧ (isBounded (.int n) = true → ∀ v H', Same H H' → Dp K H' v (.tuple [.int n]) → Q v H') ∧ (¬ isBounded (.int n) = true → ∀ H', Same H H' → E (btC K) Option.none H')
def sp_atom (K : PySem.W.Frag) : Sp := fun vs H Q E => ∃ x : Str, vs = [.str x] ∧ x.length ≤ 2000 ∧ (isName (.str x) = true → ∀ v H', Same H H' → Dp K H' v (.tuple [.tuple [.str "f", .str x, .int 0]]) → Q v H') ∧ (¬ isName (.str x) = true → ∀ H', Same H H' → E (btC K) Option.none H')
def QComp (K : PySem.W.Frag) (H : Hp) (x : Str) (ds : List PyData) (Q : VK) (E : XK) : Prop := (compG x ds = true → ∀ v H', Same H H' → Dp K H' v (compD x ds) → Q v H') ∧ (¬ compG x ds = true → ∀ H', Same H H' → E (btC K) Option.none H')
def sp_compound (K : PySem.W.Frag) : Sp := fun vs H Q E => ∃ (x : Str) (p : Addr) (rs : List V) (ds : List PyData), vs = [.str x, .ref p] ∧ x.length ≤ 2000 ∧ SqT K H p rs ∧ Rws K H rs ds ∧ QComp K H x ds Q E
def sp__law_good_name (K : PySem.W.Frag) : Sp := fun vs H Q _ => ∃ x : Str, vs = [.str x] ∧ x.length ≤ 2000 ∧ Q (.bl (goodN x)) H
def sp__law_compound (K : PySem.W.Frag) : Sp := fun vs H Q E => ∃ (x : Str) (r : Addr) (rs : List V) (ds : List PyData), vs = [.str x, .ref r] ∧ x.length ≤ 2000 ∧ H r = some (.lst rs) ∧ Rws K H rs ds ∧ QComp K H x ds Q E
def sp__law_built (K : PySem.W.Frag) : Sp := fun vs H Q _ => ∃ (w : Int) (x : Str) (n : Int) (r : Addr) (rs : List V) (ds : List PyData), vs = [.int w, .str x, .int n, .ref r] ∧ x.length ≤ 2000 ∧ H r = some (.lst rs) ∧ Rws K H rs ds ∧ ∀ v H', Same H H' → Dp K H' v (builtD w x n ds) → Q v H'
def sp_parts (K : PySem.W.Frag) : Sp := fun vs H Q _ => ∃ (x : V) (d0 : PyData) (rows : List (List PyData)), vs = [x] ∧ Dp K H x (.tuple (d0 :: rows.flatten)) ∧ NdA d0 ∧ (∀ row ∈ rows, Cls 1 row ∧ ∀ d ∈ row, NdA d) ∧ rows.length ≤ 9 ∧ rows.flatten.length ≤ 900 ∧ ∀ r ys H', Same H H' → H r = Option.none → H' r = some (.lst ys) → DpAll K H' ys (rows.map PyData.tuple) → Q (.ref r) H'
def sp_law (K : PySem.W.Frag) : Sp := fun vs H Q _ => ∃ (a : Addr) (ns : List Int), vs = [.ref a] ∧ SqL K H a (ns.map V.int) ∧ ns.length ≤ 63 ∧ ∀ H', Q (.bl true) H'
/-! ### the law -/
def Chars (x : Str) : Prop := ∀ c ∈ x.cps.toList, okSign c = true ∨ c = 10
theorem foldl_app {α : Type} (a : Array α) : ∀ (k : Nat) (acc : Array α), ((List.replicate k a).foldl (· ++ ·) acc).toList.length = acc.toList.length + k * a.toList.length ∧ ∀ c ∈ ((List.replicate k a).foldl (· ++ ·) acc).toList, c ∈ acc.toList ∨ c ∈ a.toList
  | 0, acc => ⟨by simp, fun c hc => .inl hc⟩
  | k + 1, acc => by
    rw [List.replicate_succ, List.foldl_cons]
    obtain ⟨h1, h2⟩ := foldl_app a k (acc ++ a)
    refine ⟨?_, fun c hc => ?_⟩
    · rw [h1, Array.toList_append, List.length_append, Nat.succ_mul]
      omega
    · rcases h2 c hc with z | z
      · rw [Array.toList_append] at z
        exact List.mem_append.mp z
      · exact .inr z
theorem str_len (x : Str) : x.length = x.cps.toList.length := rfl
theorem mul_facts {x : Str} {n : Int} (hx : x.length ≤ 40) (h : Chars x) (n0 : 0 ≤ n) (n1 : n < 45) : (Txt.mul x n).length ≤ 1760 ∧ Chars (Txt.mul x n) := by
  unfold Txt.mul
  by_cases e : n < 1
  · rw [if_pos e]
    exact ⟨Nat.zero_le _, fun c hc => nomatch hc⟩
  · rw [if_neg e]
    by_cases e2 : (n == 1 || x.length == 0) = true
    · rw [if_pos e2]
      exact ⟨by omega, h⟩
    · rw [if_neg e2]
      obtain ⟨h1, h2⟩ := foldl_app x.cps n.toNat #[]
      refine ⟨?_, fun c hc => ?_⟩
      · refine Nat.le_trans (Nat.le_of_eq h1) ?_
        have : n.toNat * x.cps.toList.length ≤ 44 * 40 := Nat.mul_le_mul (by omega) hx
        show 0 + n.toNat * x.cps.toList.length ≤ 1760
        omega
      · rcases h2 c hc with z | z
        · cases z
        · exact h c z
theorem mul_ok {x : Str} {n : Int} (hx : x.length ≤ 40) (n0 : 0 ≤ n) (n1 : n < 45) : MulOk x n := by
  refine ⟨?_, fun h1 _ => ?_, fun h1 _ => ?_⟩
  · rw [decide_eq_false (by omega), decide_eq_false (by omega)]
    rfl
  · have : (40 : Int) ≤ (2 ^ 63 - 1) / n := Int.le_ediv_of_mul_le (by omega) (by omega)
    omega
  · have : x.length * n.toNat ≤ 40 * 44 := Nat.mul_le_mul hx (by omega)
    have h2 := small9k (n := x.length * n.toNat) (by omega)
    show decide (x.length * n.toNat > sizeLine) = false
    exact decide_eq_false (by omega)
theorem chars_nl {x : Str} (h : Chars x) : Chars (x ++ Str.ofString "\n") := fun c hc => by
  have hc : c ∈ (x.cps ++ (Str.ofString "\n").cps).toList := hc
  rw [Array.toList_append] at hc
  rcases List.mem_append.mp hc with z | z
  · exact h c z
  · rw [show (Str.ofString "\n").cps.toList = [10] by decide +kernel] at z
    exact .inr (List.mem_singleton.mp z)
theorem len_nl (x : Str) : (x ++ Str.ofString "\n").length = x.length + 1 := by
  show (x.cps ++ (Str.ofString "\n").cps).size = _
  rw [Array.size_append]
  rfl
theorem okS2_nl : okS2 10 = false := by decide +kernel
theorem isName_good {x : Str} (h : Chars x) : isName (.str x) = goodN x := by
  show (decide ((1 : Int) ≤ x.length) && decide ((x.length : Int) ≤ 40) && x.cps.toList.all okS2) = (decide ((1 : Int) ≤ x.length) && decide ((x.length : Int) ≤ 40) && !decide (10 ∈ x.cps.toList))
  congr 1
  by_cases e : 10 ∈ x.cps.toList
  · rw [decide_eq_true e]
    cases ha : x.cps.toList.all okS2 with
    | false => rfl
    | true =>
      have := List.all_eq_true.mp ha 10 e
      rw [okS2_nl] at this
      cases this
  · rw [decide_eq_false e]
    refine List.all_eq_true.mpr fun c hc => ?_
    rcases h c hc with z | z
    · exact okS2_of z
    · rw [z] at hc
      exact absurd hc e
theorem chars_ok {x : Str} (h : okName x = true) : Chars x ∧ x.length ≤ 40 := by
  unfold okName at h
  simp only [Bool.and_eq_true, decide_eq_true_eq] at h
  exact ⟨fun c hc => .inl (List.all_eq_true.mp h.2 c hc), h.1.2⟩
def bads : List PyData := [.tuple [.tuple [.str "f", .str "a", .int 2], .int 1], .tuple [.int 1, .int 2], .tuple [.tuple [.int 3]], .tuple [.tuple [.str "v", .int (-1)]], .tuple [.int (10 ^ (40 : Int).toNat)], .int 7, .none, .tuple [], .list [.int 0]]
def badOk (d : PyData) : Bool := (!isTerm d) && (elems d).all okD && decide ((elems d).length ≤ 2)
theorem bads_ok : bads.all badOk = true := by decide +kernel
theorem bad_facts {d : PyData} (h : d ∈ bads) : isTerm d = false ∧ okT d ∧ (elems d).length ≤ 2 := by
  have h := List.all_eq_true.mp bads_ok d h
  unfold badOk at h
  simp only [Bool.and_eq_true, Bool.not_eq_true', decide_eq_true_eq] at h
  exact ⟨h.1.1, fun es e x hx => by rw [e] at h; exact List.all_eq_true.mp h.1.2 x hx, h.2⟩
theorem nd_okD {d : PyData} (h : NdA d) : okD d = true := by
  obtain ⟨wd, h⟩ := h
  cases h with
  | v n h1 h2 =>
    simp only [okD, List.all_cons, List.all_nil, Bool.and_true]
    rw [show SeqAt.shaped (PyData.str (Str.ofString "v")) = true by decide +kernel, show decide ((Str.ofString "v").length ≤ 100) = true by decide +kernel]
    rfl
  | i n h1 h2 => rfl
  | f x n h1 h2 h3 =>
    simp only [okD, List.all_cons, List.all_nil, Bool.and_true]
    have hs : SeqAt.shaped (PyData.str x) = true := by
      show ((PyData.str x).canLay0 && decide ((PyData.str x).depth ≤ 64)) = true
      rw [show (PyData.str x).canLay0 = true from okName_cps h1]
      rfl
    rw [hs, show SeqAt.shaped (PyData.str (Str.ofString "f")) = true by decide +kernel, show decide ((Str.ofString "f").length ≤ 100) = true by decide +kernel, decide_eq_true (show x.length ≤ 100 by have := (chars_ok h1).2; omega)]
    rfl
structure RowsG (m : Int) (g : Bool) (ds : List PyData) : Prop where
  len : (ds.length : Int) = m
  ok : ∀ d ∈ ds, okT d
  el : ∀ d ∈ ds, (elems d).length ≤ 9
  m9 : m ≤ 9
  yes : g = true → (1 ≤ m ∧ m ≤ 8) ∧ ∃ rows : List (List PyData), ds = rows.map PyData.tuple ∧ ∀ row ∈ rows, Cls 1 row ∧ ∀ d ∈ row, NdA d
  no : g = false → ∀ x, compG x ds = false
def du (w : Int) (x : Str) (n : Int) (g : Bool) (ds : List PyData) : PyData :=
  if w = 0 then (if 0 ≤ n then .tuple [.tuple [.str "v", .int n]] else .none)
  else if w = 1 then (if isBounded (.int n) = true then .tuple [.int n] else .none)
  else if w = 2 then (if goodN x = true then .tuple [.tuple [.str "f", .str x, .int 0]] else .none)
  else if (goodN x && g) = true then compD x ds else .none
theorem rows_term {rows : List (List PyData)} (h : ∀ row ∈ rows, Cls 1 row ∧ ∀ d ∈ row, NdA d) : (rows.map PyData.tuple).all isTerm = true := by
  refine List.all_eq_true.mpr fun d hd => ?_
  obtain ⟨row, h1, rfl⟩ := List.mem_map.mp hd
  exact go_cls (m := 1) (h row h1).2 (h row h1).1
theorem rows_elems (rows : List (List PyData)) : (rows.map PyData.tuple).flatMap elems = rows.flatten := by
  induction rows with
  | nil => rfl
  | cons r rows ih => rw [List.map_cons, List.flatMap_cons, ih]; rfl
theorem du_built {w : Int} {x : Str} {n m : Int} {g : Bool} {ds : List PyData} (hx : Chars x) (R : RowsG m g ds) : builtD w x n ds = du w x n g ds := by
  unfold builtD du
  rw [isName_good hx]
  have e : compG x ds = (goodN x && g) := by
    cases g with
    | true =>
      obtain ⟨⟨h1, h2⟩, rows, rfl, hr⟩ := R.yes rfl
      have hlen := R.len
      show (isName (.str x) && (decide ((1 : Int) ≤ ((rows.map PyData.tuple).length : Int)) && decide (((rows.map PyData.tuple).length : Int) ≤ 8)) && (rows.map PyData.tuple).all isTerm) = _
      rw [rows_term hr, decide_eq_true (by omega), decide_eq_true (by omega), isName_good hx]
      simp
    | false => rw [R.no rfl, Bool.and_false]
  rw [e]
/-- what is due: nothing, or a term with its parts -/
inductive Due (w m : Int) (ds : List PyData) : PyData → Prop
  | no : Due w m ds .none
  | yes (d0 : PyData) (rows : List (List PyData)) : NdA d0 → arN d0 = rows.length → (∀ row ∈ rows, Cls 1 row ∧ ∀ d ∈ row, NdA d) → rows.length ≤ 9 → rows.flatten.length ≤ 100 → (w < 3 → rows = []) → (¬ w < 3 → ds = rows.map PyData.tuple ∧ (rows.length : Int) = m) → Due w m ds (.tuple (d0 :: rows.flatten))
theorem good_len {x : Str} (h : goodN x = true) : 1 ≤ x.length ∧ x.length ≤ 40 := by
  unfold goodN at h
  simp only [Bool.and_eq_true, decide_eq_true_eq] at h
  omega
theorem good_ok {x : Str} (hx : Chars x) (h : goodN x = true) : okName x = true := by
  have hl := good_len h
  unfold goodN at h
  simp only [Bool.and_eq_true, Bool.not_eq_true', decide_eq_false_iff_not] at h
  unfold okName
  rw [decide_eq_true hl.1, decide_eq_true hl.2, List.all_eq_true.mpr fun c hc => (hx c hc).elim id fun z => by rw [z] at hc; exact absurd hc h.2]
  rfl
theorem rows_len : ∀ {rows : List (List PyData)}, (∀ d ∈ rows.map PyData.tuple, (elems d).length ≤ 9) → rows.flatten.length ≤ 9 * rows.length
  | [], _ => Nat.le_refl 0
  | r :: rows, h => by
    have h1 := h (.tuple r) List.mem_cons_self
    have h2 := rows_len (rows := rows) fun d hd => h d (List.mem_cons_of_mem _ hd)
    rw [List.flatten_cons, List.length_append, List.length_cons]
    have h1 : r.length ≤ 9 := h1
    omega
theorem due_of {w : Int} {x : Str} {n m : Int} {g : Bool} {ds : List PyData} (hx : Chars x) (R : RowsG m g ds) (w1 : w < 4) (w0 : 0 ≤ w) : Due w m ds (du w x n g ds) := by
  unfold du
  by_cases e0 : w = 0
  · rw [if_pos e0]
    by_cases h : 0 ≤ n
    · rw [if_pos h]
      exact .yes (.tuple [.str "v", .int n]) [] ⟨n + 1, .v n h (by omega)⟩ rfl (fun _ h => nomatch h) (by decide) (by decide) (fun _ => rfl) fun z => by omega
    · rw [if_neg h]; exact .no
  rw [if_neg e0]
  by_cases e1 : w = 1
  · rw [if_pos e1]
    by_cases h : isBounded (.int n) = true
    · rw [if_pos h]
      have h := of_decide_eq_true (show decide ((if n < 0 then -n else n) < big) = true from h)
      unfold big at h
      exact .yes (.int n) [] ⟨0, .i n (by split at h <;> omega) (by split at h <;> omega)⟩ rfl (fun _ h => nomatch h) (by decide) (by decide) (fun _ => rfl) fun z => by omega
    · rw [if_neg h]; exact .no
  rw [if_neg e1]
  by_cases e2 : w = 2
  · rw [if_pos e2]
    by_cases h : goodN x = true
    · rw [if_pos h]
      exact .yes (.tuple [.str "f", .str x, .int 0]) [] ⟨0, .f x 0 (good_ok hx h) (by decide) (by decide)⟩ rfl (fun _ h => nomatch h) (by decide) (by decide) (fun _ => rfl) fun z => by omega
    · rw [if_neg h]; exact .no
  rw [if_neg e2]
  by_cases h : (goodN x && g) = true
  · rw [if_pos h]
    rw [Bool.and_eq_true] at h
    obtain ⟨⟨h1, h2⟩, rows, rfl, hr⟩ := R.yes h.2
    have hlen := R.len
    rw [List.length_map] at hlen
    have hl := rows_len R.el
    unfold compD
    rw [rows_elems, List.length_map]
    exact .yes (.tuple [.str "f", .str x, .int (rows.length : Int)]) rows ⟨0, .f x _ (good_ok hx h.1) (by omega) (by omega)⟩ rfl hr (by omega) (by omega) (fun z => by omega) fun _ => ⟨rfl, hlen⟩
  · rw [if_neg h]; exact .no
theorem due_cls {d0 : PyData} {rows : List (List PyData)} (n0 : NdA d0) (ha : arN d0 = rows.length) (h : ∀ row ∈ rows, Cls 1 row ∧ ∀ d ∈ row, NdA d) : Cls 1 (d0 :: rows.flatten) ∧ ∀ d ∈ d0 :: rows.flatten, NdA d := by
  refine ⟨⟨by decide, ?_⟩, fun d hd => ?_⟩
  · rw [ha]
    cases rows with
    | nil => rfl
    | cons r rs =>
      have := rows_cls (rows := rs) (rest := rs) (row := r) h
      rw [show 1 - 1 + (r :: rs).length = rs.length + 1 by rw [List.length_cons]; omega]
      exact this
  · rcases List.mem_cons.mp hd with z | z
    · rw [z]; exact n0
    · obtain ⟨row, h1, h2⟩ := List.mem_flatten.mp z
      exact (h row h1).2 d h2
theorem go_more : ∀ {ds es : List PyData} {m : Nat}, (∀ d ∈ ds, NdA d) → Cls m ds → es ≠ [] → termGo (m : Int) (ds ++ es) = false
  | [], es, m, _, h, he => by
    have h : m = 0 := h
    subst h
    cases es with
    | nil => exact absurd rfl he
    | cons e es =>
      rw [List.nil_append]
      unfold termGo
      rw [if_pos (.inl rfl)]
  | d :: ds, es, m, hn, h, he => by
    have hd := hn d List.mem_cons_self
    rw [List.cons_append]
    unfold termGo
    rw [if_neg (by
      rintro (z | z)
      · have := h.1; omega
      · rw [nd_isNode hd] at z; cases z)]
    rw [nd_ar hd, show (m : Int) + ((arN d : Int) - 1) = ((m - 1 + arN d : Nat) : Int) by have := h.1; omega]
    exact go_more (fun e he => hn e (List.mem_cons_of_mem _ he)) h.2 he
theorem due_shaped {w m : Int} {ds : List PyData} {d : PyData} (h : Due w m ds d) : SeqAt.shaped d = true ∧ d.eqv d = true := by
  cases h with
  | no => exact ⟨rfl, by simp [PyData.eqv]⟩
  | yes d0 rows n0 ha hr _ _ _ _ =>
    obtain ⟨_, hn⟩ := due_cls n0 ha hr
    exact ⟨tup_shaped hn, tup_eqv hn⟩
theorem ix_at {k : Nat} {y : Int} (h0 : 0 ≤ y) (h1 : y < (k : Int)) : ixN k y = some y.toNat := by
  unfold ixN
  rw [if_pos h0, if_pos h1]
theorem dp_set {K : PySem.W.Frag} {H : Hp} : ∀ {xs : List V} {ds : List PyData} {j : Nat} {v : V} {d : PyData}, DpAll K H xs ds → Dp K H v d → DpAll K H (xs.set j v) (ds.set j d)
  | _, _, _, _, _, .nil, _ => .nil
  | _, _, 0, _, _, .cons _ t, hd => .cons hd t
  | _, _, j + 1, _, _, .cons h t, hd => .cons h (dp_set t hd)
theorem rows_bad {m : Int} {g : Bool} {ds : List PyData} {bd : PyData} {j : Nat} (R : RowsG m g ds) (hj : j < ds.length) (hb : bd ∈ bads) : RowsG m false (ds.set j bd) := by
  obtain ⟨b1, b2, b3⟩ := bad_facts hb
  have hm : bd ∈ ds.set j bd := List.mem_of_getElem? (i := j) (by rw [List.getElem?_set_self hj])
  refine ⟨by rw [List.length_set]; exact R.len, fun d hd => ?_, fun d hd => ?_, R.m9, fun z => (nomatch z), fun _ x => ?_⟩
  · rcases List.mem_or_eq_of_mem_set hd with z | z
    · exact R.ok d z
    · rw [z]; exact b2
  · rcases List.mem_or_eq_of_mem_set hd with z | z
    · exact R.el d z
    · rw [z]; omega
  · have : (ds.set j bd).all isTerm = false := by
      cases ha : (ds.set j bd).all isTerm with
      | false => rfl
      | true =>
        rw [List.all_eq_true.mp ha bd hm] at b1
        cases b1
    show (isName (.str x) && (decide ((1 : Int) ≤ ((ds.set j bd).length : Int)) && decide (((ds.set j bd).length : Int) ≤ 8)) && (ds.set j bd).all isTerm) = false
    rw [this, Bool.and_false]
theorem bnd (n : Int) : isBounded (.int n) = (decide (-((10 : Int) ^ (40 : Int).toNat) < n) && decide (n < (10 : Int) ^ (40 : Int).toNat)) := by
  have e : (10 : Int) ^ (40 : Int).toNat = big := by decide +kernel
  rw [e]
  show decide ((if n < 0 then -n else n) < big) = _
  rw [← Bool.decide_and]
  refine decide_eq_decide.mpr ?_
  have hb : 0 < big := by decide +kernel
  split <;> omega
def d1 (w n : Int) : PyData := if w = 0 then (if 0 ≤ n then .tuple [.tuple [.str "v", .int n]] else .none) else .none
def d2 (w n : Int) : PyData := if w = 1 then (if isBounded (.int n) = true then .tuple [.int n] else .none) else d1 w n
def d3 (w : Int) (x : Str) (n : Int) : PyData := if w = 2 then (if goodN x = true then .tuple [.tuple [.str "f", .str x, .int 0]] else .none) else d2 w n
def d4 (w : Int) (x : Str) (n : Int) (g : Bool) (ds : List PyData) : PyData := if w = 3 then (if (goodN x && g) = true then compD x ds else .none) else d3 w x n
theorem d4_du {w : Int} (x : Str) (n : Int) (g : Bool) (ds : List PyData) (w0 : 0 ≤ w) (w1 : w < 4) : d4 w x n g ds = du w x n g ds := by
  unfold d4 d3 d2 d1 du
  rcases (show w = 0 ∨ w = 1 ∨ w = 2 ∨ w = 3 by omega) with z | z | z | z <;> subst z <;> rfl
theorem take_el {m : Int} {g : Bool} {ds : List PyData} (R : RowsG m g ds) (i : Nat) : ((ds.take i).flatMap elems).length ≤ 500 := by
  have : ∀ l : List PyData, (∀ d ∈ l, (elems d).length ≤ 9) → (l.flatMap elems).length ≤ 9 * l.length := by
    intro l
    induction l with
    | nil => intro _; exact Nat.le_refl 0
    | cons d l ih =>
      intro h
      have h1 := h d List.mem_cons_self
      have h2 := ih fun e he => h e (List.mem_cons_of_mem _ he)
      rw [List.flatMap_cons, List.length_append, List.length_cons]
      omega
  have h1 := this (ds.take i) fun d hd => R.el d (List.mem_of_mem_take hd)
  have h2 : (ds.take i).length ≤ ds.length := by rw [List.length_take]; omega
  have h3 := R.len
  have h4 := R.m9
  omega
theorem cat_dpA {K : PySem.W.Frag} {H : Hp} {x y : V} {ds es : List PyData} {Q : VK} (hx : Dp K H x (.tuple ds)) (hy : Dp K H y (.tuple es)) (hz : ds.length + es.length ≤ 1000) (h : ∀ v H', Same H H' → Dp K H' v (.tuple (ds ++ es)) → Q v H') : rCatA K x y H Q := by
  have hx0 := hx
  have hy0 := hy
  cases hx with
  | @tup a xs _ sx ax =>
  cases hy with
  | @tup b ys _ sy ay =>
  have lx := DpAll.len ax
  have ly := DpAll.len ay
  refine ⟨a, b, xs, ys, rfl, rfl, sx, sy, small_of (by omega), fun z => ?_, fun z => ?_, fun p np => ?_⟩
  · subst z
    cases ax
    exact h _ H (Same.refl H) hy0
  · subst z
    cases ay
    rw [List.append_nil] at h
    exact h _ H (Same.refl H) hx0
  · exact h _ _ (same_upd np) (.tup (SqT.of upd_same) (dp_sameAll (same_upd np) _ _ (DpAll.app ax ay)))
theorem rows_shaped1 {rows : List (List PyData)} (h : ∀ row ∈ rows, Cls 1 row ∧ ∀ d ∈ row, NdA d) : SeqAt.shaped (.list (rows.map PyData.tuple)) = true ∧ PyData.eqv (.list (rows.map PyData.tuple)) (.list (rows.map PyData.tuple)) = true := by
  have main : ∀ l : List (List PyData), (∀ row ∈ l, ∀ d ∈ row, NdA d) → PyData.canLayAll0 (l.map PyData.tuple) = true ∧ PyData.depthAll (l.map PyData.tuple) ≤ 2 ∧ PyData.eqvAll (l.map PyData.tuple) (l.map PyData.tuple) = true := by
    intro l
    induction l with
    | nil => intro _; exact ⟨by simp [PyData.canLayAll0], by simp [PyData.depthAll], by simp [PyData.eqvAll]⟩
    | cons r l ih =>
      intro hl
      obtain ⟨a, b, c⟩ := ih fun x hx => hl x (List.mem_cons_of_mem _ hx)
      obtain ⟨a1, b1, c1⟩ := nds_lay (hl r List.mem_cons_self)
      rw [List.map_cons]
      refine ⟨by simp only [PyData.canLayAll0, PyData.canLay0, a1, a, Bool.and_self], ?_, by simp only [PyData.eqvAll, PyData.eqv, c1, c, Bool.and_self]⟩
      simp only [PyData.depthAll, PyData.depth]
      omega
  obtain ⟨a, b, c⟩ := main rows fun r hr => (h r hr).2
  have hd : (PyData.list (rows.map PyData.tuple)).depth ≤ 64 := by simp only [PyData.depth]; omega
  have hc : (PyData.list (rows.map PyData.tuple)).canLay0 = true := by simp only [PyData.canLay0]; exact a
  refine ⟨?_, by simp only [PyData.eqv]; exact c⟩
  show ((PyData.list (rows.map PyData.tuple)).canLay0 && decide ((PyData.list (rows.map PyData.tuple)).depth ≤ 64)) = true
  rw [hc, decide_eq_true hd]
  rfl
theorem sl_from1 {K : PySem.W.Frag} {H : Hp} {a : Addr} {xs : List V} {Q : VK} (hs : SqT K H a xs) (h : ∀ b H', Same H H' → SqT K H' b (xs.drop 1) → Q (.ref b) H') : rSlA K (.ref a) (some (1 : Int)) Option.none H Q := by
  refine ⟨a, xs, rfl, hs, fun z => h a H (Same.refl H) ?_, fun z p np => ?_⟩
  · cases xs with
    | nil => exact hs
    | cons v xs =>
      exfalso
      have := z.1
      rw [show (1 : Int) = ((1 : Nat) : Int) from rfl, HT.sIx_nat] at this
      rw [List.length_cons] at this
      omega
  · cases xs with
    | nil =>
      refine absurd ⟨?_, ?_⟩ z
      · rw [show (1 : Int) = ((1 : Nat) : Int) from rfl, HT.sIx_nat]; rfl
      · rw [HT.sIx_none]
    | cons v xs =>
      rw [cut_from1]
      exact h p _ (same_upd np) (SqT.of upd_same)
theorem cut_take (xs : List V) (i : Nat) (h : i ≤ xs.length) : cutV xs Option.none (some (i : Int)) = xs.take i := by
  unfold cutV
  rw [HT.sIx_none, HT.sIx_nat, Nat.min_eq_left h, List.drop_zero, Nat.sub_zero]

local macro_rules | `(tactic| walk_at "lits") => `(tactic| repeat' (first | exact lit_int | exact lit_str | exact lit_bl | exact lit_non | exact litA_nil | refine litA_cons ?_ ?_ | refine lit_tup ?_ (by decide) | refine lit_lst ?_ (by decide) | refine lit_neg ?_ | refine lit_sub ?_ ?_ | refine lit_pow ?_ ?_ ⟨by decide, by decide, by decide⟩ | refine lit_mulS ?_ ?_ ⟨by decide, by decide, by decide⟩))
section
variable {P : Program} {w : World} {K : PySem.W.Frag} {mg : Str → Option Value} {base : Heap}
theorem ok_is_integer {f : Addr} {fd : FuncData} (F : Fun K "is_integer" "is_integer" s_is_integer f fd) (E : Bi K mg)  : FnOk P w K mg base CX0 1 f fd ["value"] (sp_is_integer K) := by
  refine F.ok sc_is_integer (fun vs H Q E h => ?_) (fun cdv A outer s H vs Q E' hr h => ?_)
  · obtain ⟨x, d, rfl, _⟩ := h
    rfl
  · obtain ⟨x, d, rfl, hd, q⟩ := h
    refine ⟨_, (pss_one (ps_ret (pe_and (pe_callB call_isi (by rfl) E.b_isinstance (by decide +kernel) (pa_cons (pv 0) (pa_cons (pe_ty "int" (by rfl) E.b_int (by decide +kernel)) pa_nil))) (pe_one (pe_not (pe_callB call_isi (by rfl) E.b_isinstance (by decide +kernel) (pa_cons (pv 0) (pa_cons (pe_ty "bool" (by rfl) E.b_bool (by decide +kernel)) pa_nil)))))))), ?_⟩
    refine ⟨x, rfl, _, _, _, _, _, rfl, .ty _, tyx_of hd, kit_ty (kitI _), _, rfl, ite2 (fun e => ?_) (fun e => ?_)⟩
    · refine ⟨x, rfl, _, _, _, _, _, rfl, .ty _, tyx_of hd, kit_ty (kitBo _), _, rfl, ?_⟩
      have e2 : isInteger d = (!isB d) := by cases d <;> first | rfl | cases e
      rw [e2] at q
      exact q
    · have e2 : isInteger d = false := by cases d <;> first | rfl | exact absurd rfl e
      rw [e2] at q
      exact q

theorem ok_is_name {f : Addr} {fd : FuncData} (F : Fun K "is_name" "is_name" s_is_name f fd) (E : Bi K mg)  : FnOk P w K mg base CX0 1 f fd ["value"] (sp_is_name K) := by
  refine F.ok sc_is_name (fun vs H Q E h => ?_) (fun cdv A outer s H vs Q E' hr h => ?_)
  · obtain ⟨x, d, rfl, _⟩ := h
    rfl
  · obtain ⟨x, d, rfl, hd, hz, q⟩ := h
    refine ⟨_, (pss_cons (ps_if (pw_or (pt_not (pt_val (pe_callB call_isi (by rfl) E.b_isinstance (by decide +kernel) (pa_cons (pv 0) (pa_cons (pe_ty "str" (by rfl) E.b_str (by decide +kernel)) pa_nil))))) (pw_or1 (pt_not (pt_chain op_le op_le pe_int (pe_callB call_len_str (by rfl) E.b_len PySem.boot_len (pa_cons (pv 0) pa_nil)) (pe_gC (by rfl) E.c_MOST_NAME))))).pt (pss_one (ps_ret pe_bl)) pss_nil)
      (pss_one (ps_ret (pe_callB (cr_all rfl) (by rfl) E.b_all (by decide +kernel) (pa_cons (pe_lc (own := [("letter", 1)]) (g := gName 1) (tt := tYes) rfl sc_is_name.nd (pi_str (pv 0)) (blkOk_by (N := N_is_name) (sc := defScope s_is_name) (by decide +kernel)) (fun _ _ _ _ _ => pg_name (i := 1) sc_is_name.nd rfl (Or.inl rfl)) (fun _ _ _ _ _ => pts_nil) (fun _ _ _ _ _ => (pe_and (pe_chain op_le_str op_le_str pe_str (pv 1) pe_str) (pe_one (pe_cmpR op_ne (pe_callB call_ord (by rfl) E.b_ord (by decide +kernel) (pa_cons (pv 1) pa_nil)) (pe_gC (by rfl) E.c_PERCENT) (nomark _)))))) pa_nil))))), ?_⟩
    refine ⟨x, rfl, _, _, _, _, _, rfl, .ty _, tyx_of hd, kit_ty (kitS _), _, rfl, ?_⟩
    by_cases es : isS d = true
    · obtain ⟨z, rfl⟩ : ∃ z, d = .str z := by cases d <;> first | exact ⟨_, rfl⟩ | cases es
      cases hd
      have hz100 := hz z rfl
      have h32 : (Str.ofString " ").cps.toList = [32] := by decide +kernel
      have h126 : (Str.ofString "~").cps.toList = [126] := by decide +kernel
      have en : isName (.str z) = (decide ((1 : Int) ≤ z.length) && decide ((z.length : Int) ≤ 40) && z.cps.toList.all okS2) := rfl
      refine iteF ⟨_, rfl, _, rfl, Nat.le_of_lt (small9k (by omega)), _, _, rfl, rfl, _, rfl, ite2 (fun e => ?_) (fun e => ?_)⟩
      · refine ⟨_, _, rfl, rfl, _, rfl, ?_⟩
        by_cases e1 : decide ((z.length : Int) ≤ 40) = true
        · rw [e1]
          refine iteF ⟨_, rfl, z, rfl, fun D hD => lc_it walk_str (fun i H' => H' = upd H D (.lst ((z.cps.toList.take i).map fun c => V.bl (okS2 c)))) rfl (fun _ _ _ _ => trivial) ?_ ?_⟩
          · rintro i x H1 H2 hi rfl ⟨rfl, c, hc, rfl⟩
            have hlt : i < z.cps.toList.length := by simpa using hi
            have hget : z.cps.toList[i]? = some c := by simpa using hc
            have fin : ∀ b : Bool, b = okS2 c → ∃ acc, (upd H D (.lst ((z.cps.toList.take i).map fun c => V.bl (okS2 c)))) D = some (.lst acc) ∧ acc.length < sizeLine ∧
                upd (upd H D (.lst ((z.cps.toList.take i).map fun c => V.bl (okS2 c)))) D (.lst (acc ++ [V.bl b])) = upd H D (.lst ((z.cps.toList.take (i + 1)).map fun c => V.bl (okS2 c))) := by
              intro b hb
              refine ⟨_, upd_same, ?_, ?_⟩
              · rw [List.length_map, List.length_take]
                exact Nat.lt_of_le_of_lt (Nat.min_le_right _ _) (small9k (by simpa using (show z.cps.size ≤ 9000 from by have : z.length = z.cps.size := rfl; omega)))
              · rw [upd_upd, List.take_add_one, hget, List.map_append, hb]
                rfl
            refine ⟨rfl, _, rfl, _, _, rfl, rfl, _, rfl, ite2 (fun e2 => ?_) (fun e2 => ?_)⟩
            · refine ⟨_, _, rfl, rfl, _, rfl, ite2 (fun e3 => ?_) (fun e3 => ?_)⟩
              · refine ⟨_, rfl, _, rfl, rfl, rfl, ?_⟩
                refine fin _ ?_
                unfold okS2
                rw [h32] at e2
                rw [h126] at e3
                rw [show (!decide ([c] < [32])) = true from e2, show (!decide ([126] < [c])) = true from e3, Bool.true_and, Bool.true_and]
                congr 1
                exact decide_eq_decide.mpr ⟨fun h => V.int.inj h, fun h => congrArg V.int h⟩
              · refine fin _ ?_
                unfold okS2
                rw [h126] at e3
                rw [show (!decide ([126] < [c])) = false from Bool.eq_false_iff.mpr e3, Bool.and_false]
                rfl
            · refine ⟨_, rfl, iteF (fin _ ?_)⟩
              unfold okS2
              rw [h32] at e2
              rw [show (!decide ([c] < [32])) = false from Bool.eq_false_iff.mpr e2]
              rfl
          · rintro H1 rfl
            refine ⟨D, z.cps.toList.map okS2, rfl, SqL.of (by rw [upd_same, List.take_of_length_le (by simp), List.map_map]; rfl), ?_⟩
            have q2 := q (upd H D (.lst ((z.cps.toList.take z.cps.size).map fun c => V.bl (okS2 c)))) (same_upd hD)
            rw [en, show decide ((1 : Int) ≤ z.length) = true from e, e1] at q2
            rw [List.all_map]
            exact q2
        · have q2 := q H (Same.refl H)
          rw [en, Bool.eq_false_iff.mpr e1, Bool.and_false] at q2
          rw [Bool.eq_false_iff.mpr e1]
          exact iteT q2
      · refine ⟨_, rfl, iteT ?_⟩
        have q2 := q H (Same.refl H)
        rw [en, show decide ((1 : Int) ≤ z.length) = false from Bool.eq_false_iff.mpr e] at q2
        exact q2
    · have e2 : isName d = false := by cases d <;> first | rfl | exact absurd rfl es
      have q2 := q H (Same.refl H)
      rw [e2] at q2
      rw [Bool.eq_false_iff.mpr es]
      exact iteT (iteT q2)

theorem ok_is_symbol {f : Addr} {fd : FuncData} (F : Fun K "is_symbol" "is_symbol" s_is_symbol f fd) (E : Bi K mg)  : FnOk P w K mg base CX0 1 f fd ["node"] (sp_is_symbol K) := by
  refine F.ok sc_is_symbol (fun vs H Q E h => ?_) (fun cdv A outer s H vs Q E' hr h => ?_)
  · obtain ⟨x, d, rfl, _⟩ := h
    rfl
  · obtain ⟨x, d, rfl, hd, hn, q⟩ := h
    refine ⟨_, (pss_one (ps_ret (pe_and (pe_callB call_isi (by rfl) E.b_isinstance (by decide +kernel) (pa_cons (pv 0) (pa_cons (pe_ty "tuple" (by rfl) E.b_tuple (by decide +kernel)) pa_nil))) (pe_one (pe_cmpR op_eq (pe_ix ix_tup (pv 0) pe_int (fun _ _ => rfl)) pe_str (nomark _)))))), ?_⟩
    refine ⟨x, rfl, _, _, _, _, _, rfl, .ty _, tyx_of hd, kit_ty (kitT _), _, rfl, ite2 (fun e => ?_) (fun e => ?_)⟩
    · obtain ⟨a, r, sg, rfl, rfl, q2⟩ := first_of hn e
      cases hd with
      | tup hs ha =>
        obtain ⟨v, hv, hdv⟩ := DpAll.get (i := 0) ha rfl
        cases hdv
        refine ⟨_, rfl, _, _, _, _, rfl, rfl, hs, atI_nat (j := 0) hv, rfl, ?_⟩
        rw [q2] at q
        exact q
    · have e2 : isSym d = false := by cases d <;> first | rfl | exact absurd rfl e
      rw [e2] at q
      exact q

theorem ok__law_stream {f : Addr} {fd : FuncData} (F : Fun K "_law_stream" "_law_stream" s__law_stream f fd) (E : Bi K mg)  : FnOk P w K mg base CX0 1 f fd ["script"] (sp__law_stream K) := by
  refine F.ok sc__law_stream (fun vs H Q E h => ?_) (fun cdv A outer s H vs Q E' hr h => ?_)
  · obtain ⟨a, ns, rfl, _⟩ := h
    rfl
  · obtain ⟨a, ns, rfl, hS, hl, q⟩ := h
    refine ⟨_, (pss_cons (ps_set (i := 1) sc__law_stream.nd rfl (Or.inl rfl) pe_int)
      (pss_cons (ps_for PassesOwn.never rfl (pi_list (pv 0)) (pg_name (i := 2) sc__law_stream.nd rfl (Or.inl rfl)) (pss_one (ps_set (i := 1) sc__law_stream.nd rfl (Or.inl rfl) (pe_op op_mod (pe_callTy call_int1 (by rfl) E.b_int (by decide +kernel) (pa_cons (pe_op op_add (pe_op op_add (pe_op op_mul (pv 1) pe_int) (pe_op op_mod (pe_callTy call_int1 (by rfl) E.b_int (by decide +kernel) (pa_cons (pv 2) pa_nil)) pe_int)) pe_int) pa_nil)) pe_int))))
      (pss_one (ps_ret (pe_lst (pa_cons (pe_callTy call_list_of (by rfl) E.b_list (by decide +kernel) (pa_cons (pv 0) pa_nil)) (pa_cons pe_int (pa_cons pe_int (pa_cons (pv 1) pa_nil))))))))), ?_⟩
    refine ⟨_, rfl, a, rfl, ⟨_, hS⟩, for_list (K := K) (a := a) (xs := ns.map V.int) (fun i σ H1 => ∃ (m : Int) (v : Option V), σ = [some (.ref a), some (.int m), v] ∧ H1 = H ∧ 0 ≤ m ∧ m < 2147483647)
      ⟨17, none, rfl, rfl, by decide, by decide⟩ (fun i σ H1 _ ⟨_, _, _, e, _⟩ => by rw [e]; exact hS) ?_ ?_⟩
    · rintro i y σ H1 hi ⟨m, v, rfl, rfl, h0, h1⟩
      obtain ⟨z, rfl⟩ : ∃ z, y = V.int z := by
        rw [List.getElem?_map] at hi
        cases e : ns[i]? with
        | none =>
          rw [e] at hi
          cases hi
        | some z =>
          rw [e] at hi
          exact ⟨z, (Option.some.inj hi).symm⟩
      refine ⟨_, rfl, _, _, rfl, rfl, .inr ⟨by decide, by decide⟩, _, rfl, .inl ⟨_, rfl, _, _, rfl, rfl, (by decide : (0 : Int) < 65521), _, _, rfl, rfl, _, _, rfl, rfl, .inl ⟨_, rfl, _, _, rfl, rfl, (by decide : (0 : Int) < 2147483647), ?_⟩⟩⟩
      exact ⟨_, _, rfl, rfl, Int.emod_nonneg _ (by decide), Int.emod_lt_of_pos _ (by decide)⟩
    · rintro σ H1 ⟨m, v, rfl, rfl, h0, h1⟩
      refine ⟨_, rfl, a, _, rfl, .inl hS, fun l hl2 => ⟨_, rfl, (by show 4 ≤ sizeLine; decide), fun p hp => ?_⟩⟩
      have npl : l ≠ p := fun z => by
        rw [← z, upd_same] at hp
        cases hp
      refine q p l _ ((same_upd hl2).free hp) hl2 ((same_upd hl2).trans (same_upd hp)) ⟨0, 0, m, ns, upd_same, ?_, hl, Int.le_refl 0, Int.le_refl 0, h0, h1⟩
      rw [upd_ne npl, upd_same]

theorem ok__law_draw {f : Addr} {fd : FuncData} (F : Fun K "_law_draw" "_law_draw" s__law_draw f fd) (E : Bi K mg)  : FnOk P w K mg base CX0 1 f fd ["stream", "many"] (sp__law_draw K) := by
  refine F.ok sc__law_draw (fun vs H Q E h => ?_) (fun cdv A outer s H vs Q E' hr h => ?_)
  · obtain ⟨s, l, n, rfl, _⟩ := h
    rfl
  · obtain ⟨p, l, n, rfl, hS, hn, hn2, q⟩ := h
    obtain ⟨a, b, m, ns, h1, h2, hlen, ha, hb, hm, hm2⟩ := hS.ex
    have nlp : l ≠ p := fun z => by
      rw [z, h1] at h2
      have h3 := HO.lst.inj (Option.some.inj h2)
      cases ns with
      | nil => cases h3
      | cons x r => cases (List.cons.inj h3).1
    refine ⟨_, (pss_cons (ps_if (pw_and (pt_cmpR op_eq (pe_ix ix_list (pv 0) pe_int (fun _ _ => rfl)) pe_int (nomark _)) (pw_and1 (pt_cmpR op_lt (pe_ix ix_list (pv 0) pe_int (fun _ _ => rfl)) (pe_callB call_len_seq (by rfl) E.b_len PySem.boot_len (pa_cons (pe_ix ix_list (pv 0) pe_int (fun _ _ => rfl)) pa_nil)) (nomark _)))).pt (pss_cons (ps_asg (pe_callB call_abs (by rfl) E.b_abs (by decide +kernel) (pa_cons (pe_callTy call_int1 (by rfl) E.b_int (by decide +kernel) (pa_cons (pe_ix ix_list (pe_ix ix_list (pv 0) pe_int (fun _ _ => rfl)) (pe_ix ix_list (pv 0) pe_int (fun _ _ => rfl)) (fun _ _ => rfl)) pa_nil)) pa_nil)) (pg_sub (pv 0) pe_int set_list))
      (pss_one (ps_asg (pe_op op_add (pe_ix ix_list (pv 0) pe_int (fun _ _ => rfl)) pe_int) (pg_sub (pv 0) pe_int set_list)))) pss_nil)
      (pss_cons (ps_if (pt_cmpR op_eq (pe_ix ix_list (pv 0) pe_int (fun _ _ => rfl)) pe_int (nomark _)) (pss_cons (ps_asg (pe_op op_mod (pe_callTy call_int1 (by rfl) E.b_int (by decide +kernel) (pa_cons (pe_op op_add (pe_op op_mul (pe_ix ix_list (pv 0) pe_int (fun _ _ => rfl)) pe_int) pe_int) pa_nil)) pe_int) (pg_sub (pv 0) pe_int set_list))
      (pss_one (ps_ret (pe_op op_mod (pe_callTy call_int1 (by rfl) E.b_int (by decide +kernel) (pa_cons (pe_op op_fdivW (pe_ix ix_list (pv 0) pe_int (fun _ _ => rfl)) pe_int) pa_nil)) (pv 1))))) pss_nil)
      (pss_cons (ps_set (i := 2) sc__law_draw.nd rfl (Or.inl rfl) (pe_op op_mod (pe_callTy call_int1 (by rfl) E.b_int (by decide +kernel) (pa_cons (pe_ix ix_list (pv 0) pe_int (fun _ _ => rfl)) pa_nil)) (pv 1)))
      (pss_cons (ps_asg (pe_op op_fdivW (pe_ix ix_list (pv 0) pe_int (fun _ _ => rfl)) (pv 1)) (pg_sub (pv 0) pe_int set_list))
      (pss_one (ps_ret (pv 2))))))), ?_⟩
    refine ⟨_, rfl, _, _, _, _, rfl, rfl, SqL.of h1, atI_nat (j := 1) rfl, rfl, _, rfl, ite2 (fun e => ?_) (fun e => ?_)⟩
    · refine ⟨_, rfl, _, _, _, _, rfl, rfl, SqL.of h1, atI_nat (j := 2) rfl, _, rfl, _, _, _, _, rfl, rfl, SqL.of h1, atI_nat (j := 0) rfl, _, _, rfl, .inl (SqL.of h2), _, _, rfl, rfl, _, rfl, ite2 (fun e1 => ?_) (fun e1 => ?_)⟩
      · have e2 : b < (ns.map V.int).length := of_decide_eq_true e1
        rw [List.length_map] at e2
        have hz : (ns.map V.int)[b.toNat]? = some (V.int (ns[b.toNat]'(by omega))) := by
          rw [List.getElem?_map, List.getElem?_eq_getElem (by omega)]
          rfl
        refine ⟨_, rfl, _, _, _, _, rfl, rfl, SqL.of h1, atI_nat (j := 0) rfl, _, rfl, _, _, _, _, rfl, rfl, SqL.of h1, atI_nat (j := 2) rfl, _, _, _, _, rfl, rfl, SqL.of h2, at_of (j := b.toNat) (by omega) hz, .inl ⟨_, rfl, _, rfl, _, rfl, _, _, _, _, rfl, rfl, h1, rfl, ?_⟩⟩
        refine ⟨_, rfl, _, _, _, _, rfl, rfl, SqL.of upd_same, atI_nat (j := 2) rfl, _, _, rfl, rfl, _, rfl, _, _, _, _, rfl, rfl, upd_same, rfl, ?_⟩
        generalize hH : upd _ p _ = H1
        have hX : ∃ a' b' : Int, H1 p = some (.lst [.ref l, .int a', .int b', .int m]) ∧ 0 ≤ a' ∧ 0 ≤ b' := ⟨_, _, by rw [← hH]; exact upd_same, by split <;> omega, by omega⟩
        have hB : But p H H1 := by rw [← hH]; exact But.put.trans But.put
        have hL : H1 l = some (.lst (ns.map V.int)) := hB l _ nlp h2
        clear hH
        obtain ⟨a', b', hX, ha', hb'⟩ := hX
        refine ⟨_, rfl, _, _, _, _, rfl, rfl, SqL.of hX, atI_nat (j := 1) rfl, rfl, _, rfl, ite2 (fun e3 => ?_) (fun e3 => ?_)⟩
        · refine ⟨_, rfl, _, _, _, _, rfl, rfl, SqL.of hX, atI_nat (j := 3) rfl, _, _, rfl, rfl, .inr ⟨by decide, by decide⟩, _, _, rfl, rfl, .inl ⟨_, rfl, _, _, rfl, rfl, (by decide : (0 : Int) < 2147483647), _, rfl, _, _, _, _, rfl, rfl, hX, rfl, ?_⟩⟩
          refine ⟨_, rfl, _, _, _, _, rfl, rfl, SqL.of upd_same, atI_nat (j := 3) rfl, _, _, rfl, rfl, wide_div (b := 64) (by decide) (by decide) (by decide) (by decide), .inl ⟨_, rfl, _, rfl, _, _, rfl, rfl, hn, ?_⟩⟩
          exact q _ _ (Int.emod_nonneg _ (by omega)) (Int.emod_lt_of_pos _ hn) (hB.trans But.put) ⟨a', b', _, ns, upd_same, by rw [upd_ne nlp]; exact hL, hlen, ha', hb', Int.emod_nonneg _ (by decide), Int.emod_lt_of_pos _ (by decide)⟩
        · refine ⟨_, rfl, _, _, _, _, rfl, rfl, SqL.of hX, atI_nat (j := 1) rfl, .inl ⟨_, rfl, _, rfl, _, _, rfl, rfl, hn, ?_⟩⟩
          refine ⟨_, rfl, _, _, _, _, rfl, rfl, SqL.of hX, atI_nat (j := 1) rfl, _, rfl, _, _, rfl, rfl, wide_div hn hn2 (by decide) (by decide), _, rfl, _, _, _, _, rfl, rfl, hX, rfl, ?_⟩
          refine ⟨_, rfl, ?_⟩
          exact q _ _ (Int.emod_nonneg _ (by omega)) (Int.emod_lt_of_pos _ hn) (hB.trans But.put) ⟨_, b', m, ns, upd_same, by rw [upd_ne nlp]; exact hL, hlen, Int.ediv_nonneg ha' (by omega), hb', hm, hm2⟩
      · have hX : ∃ a' b' : Int, H p = some (.lst [.ref l, .int a', .int b', .int m]) ∧ 0 ≤ a' ∧ 0 ≤ b' := ⟨_, _, h1, ha, hb⟩
        have hB : But p H H := But.refl p H
        have hL := h2
        obtain ⟨a', b', hX, ha', hb'⟩ := hX
        refine ⟨_, rfl, _, _, _, _, rfl, rfl, SqL.of hX, atI_nat (j := 1) rfl, rfl, _, rfl, ite2 (fun e3 => ?_) (fun e3 => ?_)⟩
        · refine ⟨_, rfl, _, _, _, _, rfl, rfl, SqL.of hX, atI_nat (j := 3) rfl, _, _, rfl, rfl, .inr ⟨by decide, by decide⟩, _, _, rfl, rfl, .inl ⟨_, rfl, _, _, rfl, rfl, (by decide : (0 : Int) < 2147483647), _, rfl, _, _, _, _, rfl, rfl, hX, rfl, ?_⟩⟩
          refine ⟨_, rfl, _, _, _, _, rfl, rfl, SqL.of upd_same, atI_nat (j := 3) rfl, _, _, rfl, rfl, wide_div (b := 64) (by decide) (by decide) (by decide) (by decide), .inl ⟨_, rfl, _, rfl, _, _, rfl, rfl, hn, ?_⟩⟩
          exact q _ _ (Int.emod_nonneg _ (by omega)) (Int.emod_lt_of_pos _ hn) (hB.trans But.put) ⟨a', b', _, ns, upd_same, by rw [upd_ne nlp]; exact hL, hlen, ha', hb', Int.emod_nonneg _ (by decide), Int.emod_lt_of_pos _ (by decide)⟩
        · refine ⟨_, rfl, _, _, _, _, rfl, rfl, SqL.of hX, atI_nat (j := 1) rfl, .inl ⟨_, rfl, _, rfl, _, _, rfl, rfl, hn, ?_⟩⟩
          refine ⟨_, rfl, _, _, _, _, rfl, rfl, SqL.of hX, atI_nat (j := 1) rfl, _, rfl, _, _, rfl, rfl, wide_div hn hn2 (by decide) (by decide), _, rfl, _, _, _, _, rfl, rfl, hX, rfl, ?_⟩
          refine ⟨_, rfl, ?_⟩
          exact q _ _ (Int.emod_nonneg _ (by omega)) (Int.emod_lt_of_pos _ hn) (hB.trans But.put) ⟨_, b', m, ns, upd_same, by rw [upd_ne nlp]; exact hL, hlen, Int.ediv_nonneg ha' (by omega), hb', hm, hm2⟩
    · have hX : ∃ a' b' : Int, H p = some (.lst [.ref l, .int a', .int b', .int m]) ∧ 0 ≤ a' ∧ 0 ≤ b' := ⟨_, _, h1, ha, hb⟩
      have hB : But p H H := But.refl p H
      have hL := h2
      obtain ⟨a', b', hX, ha', hb'⟩ := hX
      refine ⟨_, rfl, _, _, _, _, rfl, rfl, SqL.of hX, atI_nat (j := 1) rfl, rfl, _, rfl, ite2 (fun e3 => ?_) (fun e3 => ?_)⟩
      · refine ⟨_, rfl, _, _, _, _, rfl, rfl, SqL.of hX, atI_nat (j := 3) rfl, _, _, rfl, rfl, .inr ⟨by decide, by decide⟩, _, _, rfl, rfl, .inl ⟨_, rfl, _, _, rfl, rfl, (by decide : (0 : Int) < 2147483647), _, rfl, _, _, _, _, rfl, rfl, hX, rfl, ?_⟩⟩
        refine ⟨_, rfl, _, _, _, _, rfl, rfl, SqL.of upd_same, atI_nat (j := 3) rfl, _, _, rfl, rfl, wide_div (b := 64) (by decide) (by decide) (by decide) (by decide), .inl ⟨_, rfl, _, rfl, _, _, rfl, rfl, hn, ?_⟩⟩
        exact q _ _ (Int.emod_nonneg _ (by omega)) (Int.emod_lt_of_pos _ hn) (hB.trans But.put) ⟨a', b', _, ns, upd_same, by rw [upd_ne nlp]; exact hL, hlen, ha', hb', Int.emod_nonneg _ (by decide), Int.emod_lt_of_pos _ (by decide)⟩
      · refine ⟨_, rfl, _, _, _, _, rfl, rfl, SqL.of hX, atI_nat (j := 1) rfl, .inl ⟨_, rfl, _, rfl, _, _, rfl, rfl, hn, ?_⟩⟩
        refine ⟨_, rfl, _, _, _, _, rfl, rfl, SqL.of hX, atI_nat (j := 1) rfl, _, rfl, _, _, rfl, rfl, wide_div hn hn2 (by decide) (by decide), _, rfl, _, _, _, _, rfl, rfl, hX, rfl, ?_⟩
        refine ⟨_, rfl, ?_⟩
        exact q _ _ (Int.emod_nonneg _ (by omega)) (Int.emod_lt_of_pos _ hn) (hB.trans But.put) ⟨_, b', m, ns, upd_same, by rw [upd_ne nlp]; exact hL, hlen, Int.ediv_nonneg ha' (by omega), hb', hm, hm2⟩

theorem ok__law_good_name {f : Addr} {fd : FuncData} (F : Fun K "_law_good_name" "_law_good_name" s__law_good_name f fd) (E : Bi K mg)  : FnOk P w K mg base CX0 1 f fd ["name"] (sp__law_good_name K) := by
  refine F.ok sc__law_good_name (fun vs H Q E h => ?_) (fun cdv A outer s H vs Q E' hr h => ?_)
  · obtain ⟨x, rfl, _⟩ := h
    rfl
  · obtain ⟨x, rfl, hx, q⟩ := h
    refine ⟨_, (pss_one (ps_ret (pe_and (pe_chain op_le op_le pe_int (pe_callB call_len_str (by rfl) E.b_len PySem.boot_len (pa_cons (pv 0) pa_nil)) pe_int) (pe_one (pe_cmpR op_notIn_sign pe_str (pv 0) (by rfl)))))), ?_⟩
    have hz : x.length ≤ sizeLine := Nat.le_of_lt (small9k (by omega))
    have gG : goodN x = (decide ((1 : Int) ≤ x.length) && decide ((x.length : Int) ≤ 40) && !decide (10 ∈ x.cps.toList)) := rfl
    rw [gG] at q
    refine ⟨_, rfl, _, rfl, hz, _, _, rfl, rfl, _, rfl, ite2 (fun e => ?_) (fun e => ⟨_, rfl, ?_⟩)⟩
    rotate_left
    · rw [Bool.eq_false_iff.mpr e] at q
      exact iteF q
    rw [e] at q
    refine ⟨_, _, rfl, rfl, _, rfl, ite2 (fun e2 => ?_) (fun e2 => ?_)⟩
    · rw [e2] at q
      exact ⟨_, rfl, 10, x, rfl, rfl, q⟩
    · rw [Bool.eq_false_iff.mpr e2] at q
      exact q

theorem ok_is_bounded {f : Addr} {fd : FuncData} (F : Fun K "is_bounded" "is_bounded" s_is_bounded f fd) (E : Bi K mg) (D_is_integer : Has P w K mg base 1 "is_integer" ["value"] (sp_is_integer K)) : FnOk P w K mg base CX0 2 f fd ["value"] (sp_is_bounded K) := by
  obtain ⟨f_is_integer, fd_is_integer, G_is_integer, g_is_integer, kp_is_integer, b_is_integer⟩ := D_is_integer
  refine F.ok sc_is_bounded (fun vs H Q E h => ?_) (fun cdv A outer s H vs Q E' hr h => ?_)
  · obtain ⟨x, d, rfl, _⟩ := h
    rfl
  · obtain ⟨x, d, rfl, hd, q⟩ := h
    refine ⟨_, (pss_one (ps_ret (pe_and (pe_call G_is_integer (hr.mono (by decide)) (by rfl) g_is_integer kp_is_integer b_is_integer .nil pass0 (pa_cons (pv 0) pa_nil)) (pe_one (pe_cmpR op_lt (pe_callB call_abs (by rfl) E.b_abs (by decide +kernel) (pa_cons (pv 0) pa_nil)) (pe_gC (by rfl) E.c_INTEGER_BOUND) (nomark _)))))), ?_⟩
    refine ⟨x, rfl, x, d, rfl, hd, _, rfl, ite2 (fun e => ?_) (fun e => ?_)⟩
    · obtain ⟨i, rfl⟩ : ∃ i, d = .int i := by cases d <;> first | exact ⟨_, rfl⟩ | cases e
      cases hd
      refine ⟨_, rfl, _, rfl, _, _, rfl, rfl, ?_⟩
      exact q
    · have e2 : isBounded d = false := by cases d <;> first | rfl | exact absurd rfl e
      rw [e2] at q
      exact q

theorem ok_is_arity {f : Addr} {fd : FuncData} (F : Fun K "is_arity" "is_arity" s_is_arity f fd) (E : Bi K mg) (D_is_integer : Has P w K mg base 1 "is_integer" ["value"] (sp_is_integer K)) : FnOk P w K mg base CX0 2 f fd ["value"] (sp_is_arity K) := by
  obtain ⟨f_is_integer, fd_is_integer, G_is_integer, g_is_integer, kp_is_integer, b_is_integer⟩ := D_is_integer
  refine F.ok sc_is_arity (fun vs H Q E h => ?_) (fun cdv A outer s H vs Q E' hr h => ?_)
  · obtain ⟨x, d, rfl, _⟩ := h
    rfl
  · obtain ⟨x, d, rfl, hd, q⟩ := h
    refine ⟨_, (pss_one (ps_ret (pe_and (pe_call G_is_integer (hr.mono (by decide)) (by rfl) g_is_integer kp_is_integer b_is_integer .nil pass0 (pa_cons (pv 0) pa_nil)) (pe_one (pe_chain op_le op_le pe_int (pv 0) (pe_gC (by rfl) E.c_MOST_ARITY)))))), ?_⟩
    refine ⟨x, rfl, x, d, rfl, hd, _, rfl, ite2 (fun e => ?_) (fun e => ?_)⟩
    · obtain ⟨i, rfl⟩ : ∃ i, d = .int i := by cases d <;> first | exact ⟨_, rfl⟩ | cases e
      cases hd
      refine ⟨_, rfl, _, _, rfl, rfl, _, rfl, ite2 (fun e1 => ?_) (fun e1 => ?_)⟩
      · refine ⟨_, _, rfl, rfl, ?_⟩
        have e2 : isArity (.int i) = decide (i ≤ 8) := by show (decide (0 ≤ i) && decide (i ≤ 8)) = _; rw [e1]; rfl
        rw [e2] at q
        exact q
      · have e2 : isArity (.int i) = false := by show (decide (0 ≤ i) && decide (i ≤ 8)) = _; rw [Bool.eq_false_iff.mpr e1]; rfl
        rw [e2] at q
        exact q
    · have e2 : isArity d = false := by cases d <;> first | rfl | exact absurd rfl e
      rw [e2] at q
      exact q

theorem ok_arity_of {f : Addr} {fd : FuncData} (F : Fun K "arity_of" "arity_of" s_arity_of f fd) (E : Bi K mg) (D_is_symbol : Has P w K mg base 1 "is_symbol" ["node"] (sp_is_symbol K)) : FnOk P w K mg base CX0 2 f fd ["node"] (sp_arity_of K) := by
  obtain ⟨f_is_symbol, fd_is_symbol, G_is_symbol, g_is_symbol, kp_is_symbol, b_is_symbol⟩ := D_is_symbol
  refine F.ok sc_arity_of (fun vs H Q E h => ?_) (fun cdv A outer s H vs Q E' hr h => ?_)
  · obtain ⟨x, d, rfl, _⟩ := h
    rfl
  · obtain ⟨x, d, rfl, hd, hn, q⟩ := h
    refine ⟨_, (pss_one (ps_ret (pe_ifExp (pt_val (pe_call G_is_symbol (hr.mono (by decide)) (by rfl) g_is_symbol kp_is_symbol b_is_symbol .nil pass0 (pa_cons (pv 0) pa_nil))) (pe_ix ix_tup (pv 0) pe_int (fun _ _ => rfl)) pe_int))), ?_⟩
    refine ⟨x, rfl, x, d, rfl, hd, hn, _, rfl, ite2 (fun e => ?_) (fun e => ?_)⟩
    · obtain ⟨a, b, n, rfl⟩ := third_of hn e
      cases hd with
      | tup hs ha =>
        obtain ⟨v, hv, hdv⟩ := DpAll.get (i := 2) ha rfl
        cases hdv
        exact ⟨_, rfl, _, _, _, _, rfl, rfl, hs, atI_nat (j := 2) hv, q⟩
    · have e2 : arityOf d = 0 := arity0 e
      rw [e2] at q
      exact q

theorem ok_variable {f : Addr} {fd : FuncData} (F : Fun K "variable" "variable" s_variable f fd) (E : Bi K mg) (D_is_integer : Has P w K mg base 1 "is_integer" ["value"] (sp_is_integer K)) : FnOk P w K mg base (L2.CX P w) 2 f fd ["number"] (sp_variable K) := by
  obtain ⟨f_is_integer, fd_is_integer, G_is_integer, g_is_integer, kp_is_integer, b_is_integer⟩ := D_is_integer
  refine F.okX sc_variable (fun vs H Q E h => ?_) (fun cdv A outer s H vs Q E' hr h => ?_)
  · obtain ⟨n, rfl, _⟩ := h
    rfl
  · obtain ⟨n, rfl, q1, q2⟩ := h
    refine ⟨_, (pss_cons (ps_if (pw_or (pt_not (pt_val (pe_call G_is_integer (hr.mono (by decide)) (by rfl) g_is_integer kp_is_integer b_is_integer .nil pass0 (pa_cons (pv 0) pa_nil)))) (pw_or1 (pt_cmpR op_lt (pv 0) pe_int (nomark _)))).pt (pss_one (ps_raise rfl (takes_of rfl rfl rfl rfl) (pmk_own PySem.F.excBase_ValueError E.x_BadTerm.xC E.x_BadTerm.gC E.x_BadTerm.kC (raises_own E.x_BadTerm.bC E.x_BadTerm.tC) rfl))) pss_nil)
      (pss_one (ps_ret (pe_tup (pa_cons (pe_tup (pa_cons pe_str (pa_cons (pv 0) pa_nil))) pa_nil))))), ?_⟩
    refine seq_ifN ?_
    refine ⟨_, rfl, .int n, _, rfl, .int n, _, rfl, iteF ?_⟩
    refine ⟨_, rfl, _, _, rfl, rfl, _, rfl, ite2 (fun e => ?_) (fun e => ?_)⟩
    · have := of_decide_eq_true e
      exact q2 (by omega) H (Same.refl H)
    · have h0 : 0 ≤ n := by
        rcases (show 0 ≤ n ∨ n < 0 by omega) with z | z
        · exact z
        · exact absurd (decide_eq_true z) e
      refine ⟨_, rfl, (by show 2 ≤ sizeLine; decide), fun a na => ⟨(by show 1 ≤ sizeLine; decide), fun b nb => ?_⟩⟩
      have sa := same_upd (o := .tup [.str "v", .int n]) na
      have sb := same_upd (o := .tup [.ref a]) nb
      exact q1 h0 _ _ (sa.trans sb) (.tup (SqT.of upd_same) (.cons (.tup (SqT.of (sb _ _ upd_same)) (.cons (.str _) (.cons (.int _) .nil))) .nil))

theorem ok_atom {f : Addr} {fd : FuncData} (F : Fun K "atom" "atom" s_atom f fd) (E : Bi K mg) (D_is_name : Has P w K mg base 1 "is_name" ["value"] (sp_is_name K)) : FnOk P w K mg base (L2.CX P w) 2 f fd ["name"] (sp_atom K) := by
  obtain ⟨f_is_name, fd_is_name, G_is_name, g_is_name, kp_is_name, b_is_name⟩ := D_is_name
  refine F.okX sc_atom (fun vs H Q E h => ?_) (fun cdv A outer s H vs Q E' hr h => ?_)
  · obtain ⟨x, rfl, _⟩ := h
    rfl
  · obtain ⟨x, rfl, hx, q1, q2⟩ := h
    refine ⟨_, (pss_cons (ps_if (pt_not (pt_val (pe_call G_is_name (hr.mono (by decide)) (by rfl) g_is_name kp_is_name b_is_name .nil pass0 (pa_cons (pv 0) pa_nil)))) (pss_one (ps_raise rfl (takes_of rfl rfl rfl rfl) (pmk_own PySem.F.excBase_ValueError E.x_BadTerm.xC E.x_BadTerm.gC E.x_BadTerm.kC (raises_own E.x_BadTerm.bC E.x_BadTerm.tC) rfl))) pss_nil)
      (pss_one (ps_ret (pe_tup (pa_cons (pe_tup (pa_cons pe_str (pa_cons (pv 0) (pa_cons pe_int pa_nil)))) pa_nil))))), ?_⟩
    refine seq_ifN ?_
    refine ⟨_, rfl, .str x, _, rfl, .str x, (fun z e => by cases e; exact hx), fun H1 s1 => ⟨_, rfl, ?_⟩⟩
    cases hb : isName (.str x) with
    | false => exact iteT (q2 (by rw [hb]; exact Bool.false_ne_true) H1 s1)
    | true =>
      refine iteF ?_
      refine ⟨_, rfl, (by show 3 ≤ sizeLine; decide), fun a na => ⟨(by show 1 ≤ sizeLine; decide), fun b nb => ?_⟩⟩
      have sa := same_upd (o := .tup [.str "f", .str x, .int 0]) na
      have sb := same_upd (o := .tup [.ref a]) nb
      exact q1 hb _ _ (s1.trans (sa.trans sb)) (.tup (SqT.of upd_same) (.cons (.tup (SqT.of (sb _ _ upd_same)) (.cons (.str _) (.cons (.str _) (.cons (.int _) .nil)))) .nil))

theorem ok__law_name {f : Addr} {fd : FuncData} (F : Fun K "_law_name" "_law_name" s__law_name f fd) (E : Bi K mg) (D__law_draw : Has P w K mg base 1 "_law_draw" ["stream", "many"] (sp__law_draw K)) : FnOk P w K mg base CX0 2 f fd ["stream"] (sp__law_name K) := by
  obtain ⟨f__law_draw, fd__law_draw, G__law_draw, g__law_draw, kp__law_draw, b__law_draw⟩ := D__law_draw
  refine F.ok sc__law_name (fun vs H Q E h => ?_) (fun cdv A outer s H vs Q E' hr h => ?_)
  · obtain ⟨s, l, rfl, _⟩ := h
    rfl
  · obtain ⟨s, l, rfl, hS, q⟩ := h
    have n9 : (2 : Nat) ^ 8 ≤ 2 ^ 9000 := Nat.pow_le_pow_right (by decide) (by decide)
    refine ⟨_, (pss_cons (ps_set (i := 1) sc__law_name.nd rfl (Or.inl rfl) (pe_lst (pa_cons pe_str (pa_cons pe_str (pa_cons pe_str (pa_cons pe_str (pa_cons pe_str (pa_cons pe_str (pa_cons pe_str (pa_cons pe_str (pa_cons pe_str (pa_cons pe_str (pa_cons pe_str (pa_cons pe_str (pa_cons pe_str (pa_cons pe_str (pa_cons pe_str (pa_cons pe_str (pa_cons pe_str (pa_cons pe_str (pa_cons pe_str (pa_cons pe_str pa_nil))))))))))))))))))))))
      (pss_cons (ps_if (pt_cmpR op_gt (pe_call G__law_draw (hr.mono (by decide)) (by rfl) g__law_draw kp__law_draw b__law_draw .nil pass0 (pa_cons (pv 0) (pa_cons pe_int pa_nil))) pe_int (nomark _)) (pss_one (ps_ret (pe_ix ix_list (pv 1) (pe_call G__law_draw (hr.mono (by decide)) (by rfl) g__law_draw kp__law_draw b__law_draw .nil pass0 (pa_cons (pv 0) (pa_cons pe_int pa_nil))) (fun _ _ => rfl)))) pss_nil)
      (pss_cons (ps_if (pt_cmpR op_gt (pe_call G__law_draw (hr.mono (by decide)) (by rfl) g__law_draw kp__law_draw b__law_draw .nil pass0 (pa_cons (pv 0) (pa_cons pe_int pa_nil))) pe_int (nomark _)) (pss_one (ps_ret (pe_ix ix_list (pv 1) (pe_call G__law_draw (hr.mono (by decide)) (by rfl) g__law_draw kp__law_draw b__law_draw .nil pass0 (pa_cons (pv 0) (pa_cons (pe_callB call_len_seq (by rfl) E.b_len PySem.boot_len (pa_cons (pv 1) pa_nil)) pa_nil))) (fun _ _ => rfl)))) pss_nil)
      (pss_cons (ps_set (i := 2) sc__law_name.nd rfl (Or.inr rfl) pe_str)
      (pss_cons (ps_set (i := 2) sc__law_name.nd rfl (Or.inr rfl) (pe_op op_add_str (pv 2) pe_str))
      (pss_one (ps_ret (pe_m1 PySem.F.slot_str_join PySem.F.type_str_join mt_join pe_str (pe_lc (own := [("k", 3)]) (g := gName 3) (tt := tYes) rfl sc__law_name.nd (pi_range1 (by rfl) E.b_range (pa_cons (pe_op op_add pe_int (pe_call G__law_draw (hr.mono (by decide)) (by rfl) g__law_draw kp__law_draw b__law_draw .nil pass0 (pa_cons (pv 0) (pa_cons pe_int pa_nil)))) pa_nil)) (blkOk_by (N := N__law_name) (sc := defScope s__law_name) (by decide +kernel)) (fun _ _ _ _ _ => pg_name (i := 3) sc__law_name.nd rfl (Or.inl rfl)) (fun _ _ _ _ _ => pts_nil) (fun _ _ _ _ _ => (pe_ix ix_str (pv 2) (pe_call G__law_draw (hr.mono (by decide)) (by rfl) g__law_draw kp__law_draw b__law_draw .nil pass0 (pa_cons (pv 0) (pa_cons (pe_callB call_len_str (by rfl) E.b_len PySem.boot_len (pa_cons (pv 2) pa_nil)) pa_nil))) (fun _ _ => rfl)))))))))))), ?_⟩
    refine seq_asg ?_
    refine lit_lst (K := K) (ds := names20.map PyData.str) ?_ (by decide) H _ fun v0 H0 t0 i0 => ?_
    · unfold names20
      simp only [List.map_cons, List.map_nil]
      walk_at "lits"
    cases i0 with
    | @lst p0 xs0 _ g0 e0 a0 =>
    obtain ⟨os, hos⟩ := hS.at_s
    have np : p0 ≠ s := fun z => by
      rw [z, hos] at g0
      cases g0
    have hl0 : xs0.length = 20 := by rw [a0.len, List.length_map]; decide
    have pick : ∀ (r : Int) (H' : Hp), 0 ≤ r → r < 20 → But s H H' → H' p0 = some (.lst xs0) → Stm H' s l → ∃ x, atI xs0 r = some (.str x) ∧ Q (.str x) H' := by
      intro r H' r0 r1 hB e1 St
      have hr : r.toNat < names20.length := by
        have : names20.length = 20 := by decide
        omega
      have hd : (names20.map PyData.str)[r.toNat]? = some (.str names20[r.toNat]) := by
        rw [List.getElem?_map, List.getElem?_eq_getElem hr]
        rfl
      obtain ⟨v, hv, iv⟩ := ImAll.get a0 hd
      cases iv
      exact ⟨_, at_of (j := r.toNat) (by omega) hv, q _ _ (List.all_eq_true.mp names20_ok _ (List.getElem_mem hr)) hB St⟩
    refine gname (seq_ifN ?_)
    refine ⟨_, rfl, s, l, 3, rfl, hS.keep t0, by decide, Nat.lt_of_lt_of_le (by decide) n9, fun r1 H1 _ _ hB1 S1 => ⟨_, _, rfl, rfl, _, rfl, ite2 (fun e => ?_) (fun e => ?_)⟩⟩
    · refine ⟨_, rfl, _, rfl, s, l, 4, rfl, S1, by decide, Nat.lt_of_lt_of_le (by decide) n9, fun r2 H2 r20 r21 hB2 S2 => ?_⟩
      obtain ⟨x, hx, hq⟩ := pick r2 H2 r20 (by omega) (((But.of t0).trans hB1).trans hB2) (hB2 _ _ np (hB1 _ _ np e0)) S2
      exact ⟨_, _, _, _, rfl, rfl, SqL.of (hB2 _ _ np (hB1 _ _ np e0)), hx, hq⟩
    · refine seq_ifN ?_
      refine ⟨_, rfl, s, l, 4, rfl, S1, by decide, Nat.lt_of_lt_of_le (by decide) n9, fun r2 H2 _ _ hB2 S2 => ⟨_, _, rfl, rfl, _, rfl, ite2 (fun e => ?_) (fun e => ?_)⟩⟩
      · refine ⟨_, rfl, _, rfl, _, rfl, _, _, rfl, .inl (SqL.of (hB2 _ _ np (hB1 _ _ np e0))), s, l, _, rfl, S2, by rw [hl0]; decide, by rw [hl0]; exact Nat.lt_of_lt_of_le (by decide) n9, fun r3 H3 r30 r31 hB3 S3 => ?_⟩
        obtain ⟨x, hx, hq⟩ := pick r3 H3 r30 (by rw [hl0] at r31; exact r31) ((((But.of t0).trans hB1).trans hB2).trans hB3) (hB3 _ _ np (hB2 _ _ np (hB1 _ _ np e0))) S3
        exact ⟨_, _, _, _, rfl, rfl, SqL.of (hB3 _ _ np (hB2 _ _ np (hB1 _ _ np e0))), hx, hq⟩
      · refine seq_asg (gname (seq_asg ?_))
        refine ⟨_, rfl, _, _, rfl, rfl, by decide +kernel, ?_⟩
        refine gname ?_
        have hB : But s H H2 := ((But.of t0).trans hB1).trans hB2
        refine ⟨⟨_, rfl⟩, ?_⟩
        refine ⟨_, rfl, s, l, 40, rfl, S2, by decide, Nat.lt_of_lt_of_le (by decide) n9, fun n H3 n0 n1 hB3 S3 => ⟨_, _, rfl, rfl, _, rfl, by omega, by omega, fun D hD => ?_⟩⟩
        obtain ⟨os3, hos3⟩ := S3.at_s
        obtain ⟨ol3, hol3⟩ := S3.at_l
        have sD : s ≠ D := ne_of_none hos3 hD
        have lD : l ≠ D := ne_of_none hol3 hD
        refine lc_range (fun i H' => ∃ cs : List Nat, H' D = some (.lst ((cs.map fun c => (⟨#[c]⟩ : Str)).map V.str)) ∧ cs.length = i ∧ cs.all okSign = true ∧ Stm H' s l ∧ (∀ b o, b ≠ s → b ≠ D → H3 b = some o → H' b = some o))
          ⟨[], upd_same, rfl, rfl, S3.put sD lD, fun b o _ h2 e => by rw [upd_ne h2]; exact e⟩ ?_ ?_
        · rintro i H4 hi ⟨cs, h1, h2, h3, h4, h5⟩
          refine ⟨rfl, _, rfl, _, rfl, _, rfl, _, rfl, (show signs.length ≤ sizeLine from by rw [signs_len]; decide), s, l, _, rfl, h4, (show (0 : Int) < (signs.length : Int) from by rw [signs_len]; decide),
            (show ((signs.length : Nat) : Int).natAbs < 2 ^ 9000 from by rw [signs_len]; exact Nat.lt_of_lt_of_le (by decide) n9), fun r H5 r0 r1 hB5 S5 => ?_⟩
          have r2 : r < (signs.length : Int) := r1
          have hr : r.toNat < signs.cps.toList.length := by
            have : signs.cps.toList.length = signs.length := by simp [Str.length]
            omega
          have hc : signs.cps.toList[r.toNat]? = some signs.cps.toList[r.toNat] := List.getElem?_eq_getElem hr
          have ok : okSign signs.cps.toList[r.toNat] = true := List.all_eq_true.mp signs_ok _ (List.getElem_mem hr)
          generalize signs.cps.toList[r.toNat] = c at hc ok
          refine ⟨_, _, c, rfl, rfl, (show signs.length ≤ sizeLine from by rw [signs_len]; decide), ?_, _, hB5 _ _ sD.symm h1, ?_, cs ++ [c], ?_, ?_, ?_, S5.put sD lD, fun b o hb1 hb2 e => ?_⟩
          · rw [show r = ((r.toNat : Nat) : Int) by omega]
            exact atI_nat hc
          · rw [List.length_map, List.length_map, h2]
            exact small1000 (by omega)
          · rw [upd_same, List.map_append, List.map_append]
            rfl
          · rw [List.length_append, h2]; rfl
          · rw [List.all_append, h3]
            show (true && (okSign c && true)) = true
            rw [ok]; rfl
          · rw [upd_ne hb2]
            exact hB5 b o hb1 (h5 b o hb1 hb2 e)
        · rintro H4 ⟨cs, h1, h2, h3, h4, h5⟩
          refine ⟨_, _, cs.map fun c => ⟨#[c]⟩, rfl, rfl, .inl (SqL.of h1), ?_, ?_⟩
          · rw [List.length_map, List.map_map, show (cs.map ((fun x : Str => x.length) ∘ fun c => (⟨#[c]⟩ : Str))).sum = cs.length from ?_]
            · show cs.length + cs.length * 0 ≤ 16777216
              omega
            · clear h1 h2 h3
              induction cs with
              | nil => rfl
              | cons c r ih =>
                rw [List.map_cons, List.sum_cons, ih, List.length_cons]
                show 1 + r.length = r.length + 1
                omega
          · rw [TL.join_eq]
            have ec := join_ones (Str.ofString "") (by decide +kernel) cs
            refine q _ H4 ?_ (fun b o hb e => h5 b o hb (fun z => ?_) (hB3 b o hb (hB b o hb e))) h4
            · unfold okName
              have el : (Str.join (Str.ofString "") (cs.map fun c => (⟨#[c]⟩ : Str))).length = cs.length := by
                show (Str.join (Str.ofString "") (cs.map fun c => (⟨#[c]⟩ : Str))).cps.size = _
                rw [← Array.length_toList, ec]
              rw [el, ec, h3, decide_eq_true (show 1 ≤ cs.length by omega), decide_eq_true (show cs.length ≤ 40 by omega)]
              rfl
            · rw [z] at e
              rw [hB3 _ _ (fun z => by subst z; exact sD rfl) (hB _ _ (fun z => by subst z; exact sD rfl) e)] at hD
              cases hD

theorem ok_is_node {f : Addr} {fd : FuncData} (F : Fun K "is_node" "is_node" s_is_node f fd) (E : Bi K mg) (D_is_integer : Has P w K mg base 1 "is_integer" ["value"] (sp_is_integer K)) (D_is_bounded : Has P w K mg base 2 "is_bounded" ["value"] (sp_is_bounded K)) (D_is_arity : Has P w K mg base 2 "is_arity" ["value"] (sp_is_arity K)) (D_is_name : Has P w K mg base 1 "is_name" ["value"] (sp_is_name K)) : FnOk P w K mg base CX0 3 f fd ["value"] (sp_is_node K) := by
  obtain ⟨f_is_integer, fd_is_integer, G_is_integer, g_is_integer, kp_is_integer, b_is_integer⟩ := D_is_integer
  obtain ⟨f_is_bounded, fd_is_bounded, G_is_bounded, g_is_bounded, kp_is_bounded, b_is_bounded⟩ := D_is_bounded
  obtain ⟨f_is_arity, fd_is_arity, G_is_arity, g_is_arity, kp_is_arity, b_is_arity⟩ := D_is_arity
  obtain ⟨f_is_name, fd_is_name, G_is_name, g_is_name, kp_is_name, b_is_name⟩ := D_is_name
  refine F.ok sc_is_node (fun vs H Q E h => ?_) (fun cdv A outer s H vs Q E' hr h => ?_)
  · obtain ⟨x, d, rfl, _⟩ := h
    rfl
  · obtain ⟨x, d, rfl, hd, hk, q⟩ := h
    refine ⟨_, (pss_cons (ps_if (pt_val (pe_call G_is_integer (hr.mono (by decide)) (by rfl) g_is_integer kp_is_integer b_is_integer .nil pass0 (pa_cons (pv 0) pa_nil))) (pss_one (ps_ret (pe_call G_is_bounded (hr.mono (by decide)) (by rfl) g_is_bounded kp_is_bounded b_is_bounded .nil pass0 (pa_cons (pv 0) pa_nil)))) pss_nil)
      (pss_cons (ps_if (pt_not (pt_val (pe_callB call_isi (by rfl) E.b_isinstance (by decide +kernel) (pa_cons (pv 0) (pa_cons (pe_ty "tuple" (by rfl) E.b_tuple (by decide +kernel)) pa_nil))))) (pss_one (ps_ret pe_bl)) pss_nil)
      (pss_cons (ps_if (pt_cmpR op_eq (pe_callB call_len_seq (by rfl) E.b_len PySem.boot_len (pa_cons (pv 0) pa_nil)) pe_int (nomark _)) (pss_one (ps_ret (pe_and (pe_cmpR (op_eqD hr.units) (pe_ix ix_tup (pv 0) pe_int (fun _ _ => rfl)) pe_str (nomark _)) (pe_and (pe_call G_is_integer (hr.mono (by decide)) (by rfl) g_is_integer kp_is_integer b_is_integer .nil pass0 (pa_cons (pe_ix ix_tup (pv 0) pe_int (fun _ _ => rfl)) pa_nil)) (pe_one (pe_cmpR op_ge (pe_ix ix_tup (pv 0) pe_int (fun _ _ => rfl)) pe_int (nomark _))))))) pss_nil)
      (pss_one (ps_ret (pe_and (pe_cmpR op_eq (pe_callB call_len_seq (by rfl) E.b_len PySem.boot_len (pa_cons (pv 0) pa_nil)) pe_int (nomark _)) (pe_and (pe_cmpR (op_eqD hr.units) (pe_ix ix_tup (pv 0) pe_int (fun _ _ => rfl)) pe_str (nomark _)) (pe_and (pe_call G_is_name (hr.mono (by decide)) (by rfl) g_is_name kp_is_name b_is_name .nil pass0 (pa_cons (pe_ix ix_tup (pv 0) pe_int (fun _ _ => rfl)) pa_nil)) (pe_one (pe_call G_is_arity (hr.mono (by decide)) (by rfl) g_is_arity kp_is_arity b_is_arity .nil pass0 (pa_cons (pe_ix ix_tup (pv 0) pe_int (fun _ _ => rfl)) pa_nil))))))))))), ?_⟩
    refine ⟨x, rfl, x, d, rfl, hd, _, rfl, ite2 (fun e => ?_) (fun e => ?_)⟩
    · obtain ⟨i, rfl⟩ : ∃ i, d = .int i := by cases d <;> first | exact ⟨_, rfl⟩ | cases e
      exact ⟨x, rfl, x, _, rfl, hd, q H (Same.refl H)⟩
    · refine ⟨x, rfl, _, _, _, _, _, rfl, .ty _, tyx_of hd, kit_ty (kitT _), _, rfl, ite2 (fun e1 => ?_) (fun e1 => ?_)⟩
      · have e2 : isNode d = false := by cases d <;> first | rfl | exact absurd rfl e | cases e1
        have q2 := q H (Same.refl H)
        rw [e2] at q2
        exact q2
      · obtain ⟨ds, rfl⟩ : ∃ ds, d = .tuple ds := by cases d <;> first | exact ⟨_, rfl⟩ | exact absurd rfl e1
        cases hd with
        | tup hs ha =>
          have hl := DpAll.len ha
          refine ⟨_, rfl, _, _, rfl, .inr hs, rfl, _, rfl, ite2 (fun e3 => ?_) (fun e3 => ?_)⟩
          · have hz : ds.length = 2 := by
              have := V.int.inj (of_decide_eq_true e3)
              omega
            obtain ⟨d1, d2, rfl⟩ : ∃ d1 d2, ds = [d1, d2] := by
              match ds, hz with
              | [a, b], _ => exact ⟨a, b, rfl⟩
            obtain ⟨v1, hv1, hd1⟩ := DpAll.get (i := 0) ha rfl
            obtain ⟨v2, hv2, hd2⟩ := DpAll.get (i := 1) ha rfl
            refine ⟨_, rfl, _, _, _, _, rfl, rfl, hs, atI_nat (j := 0) hv1, d1, .str "v", hd1, .str _, okD_at hk (i := 0) rfl, by decide +kernel, _, rfl, ite2 (fun e4 => ?_) (fun e4 => ?_)⟩
            · refine ⟨_, rfl, _, _, _, _, rfl, rfl, hs, atI_nat (j := 1) hv2, v2, d2, rfl, hd2, _, rfl, ite2 (fun e5 => ?_) (fun e5 => ?_)⟩
              · obtain ⟨i, rfl⟩ : ∃ i, d2 = .int i := by cases d2 <;> first | exact ⟨_, rfl⟩ | cases e5
                cases hd2
                refine ⟨_, rfl, _, _, _, _, rfl, rfl, hs, atI_nat (j := 1) hv2, _, _, rfl, rfl, ?_⟩
                have e6 : isNode (.tuple [d1, .int i]) = decide (0 ≤ i) := by
                  show (d1.eqv (.str "v") && true && decide (0 ≤ i)) = _
                  rw [e4]; rfl
                have q2 := q H (Same.refl H)
                rw [e6] at q2
                exact q2
              · have e6 : isNode (.tuple [d1, d2]) = false := by
                  show (d1.eqv (.str "v") && isInteger d2 && geZ d2) = _
                  rw [Bool.eq_false_iff.mpr e5, Bool.and_false]; rfl
                have q2 := q H (Same.refl H)
                rw [e6] at q2
                exact q2
            · have e6 : isNode (.tuple [d1, d2]) = false := by
                show (d1.eqv (.str "v") && isInteger d2 && geZ d2) = _
                rw [Bool.eq_false_iff.mpr e4]; rfl
              have q2 := q H (Same.refl H)
              rw [e6] at q2
              exact q2
          · refine ⟨_, rfl, _, _, rfl, .inr hs, rfl, _, rfl, ite2 (fun e4 => ?_) (fun e4 => ?_)⟩
            · have hz : ds.length = 3 := by
                have := V.int.inj (of_decide_eq_true e4)
                omega
              obtain ⟨d1, d2, d3, rfl⟩ : ∃ d1 d2 d3, ds = [d1, d2, d3] := by
                match ds, hz with
                | [a, b, c], _ => exact ⟨a, b, c, rfl⟩
              obtain ⟨v1, hv1, hd1⟩ := DpAll.get (i := 0) ha rfl
              obtain ⟨v2, hv2, hd2⟩ := DpAll.get (i := 1) ha rfl
              obtain ⟨v3, hv3, hd3⟩ := DpAll.get (i := 2) ha rfl
              have en : isNode (.tuple [d1, d2, d3]) = (d1.eqv (.str "f") && isName d2 && isArity d3) := rfl
              refine ⟨_, rfl, _, _, _, _, rfl, rfl, hs, atI_nat (j := 0) hv1, d1, .str "f", hd1, .str _, okD_at hk (i := 0) rfl, by decide +kernel, _, rfl, ite2 (fun e5 => ?_) (fun e5 => ?_)⟩
              · refine ⟨_, rfl, _, _, _, _, rfl, rfl, hs, atI_nat (j := 1) hv2, v2, d2, rfl, hd2, (fun z e => Nat.le_trans (okD_str hk (i := 1) rfl z e) (by decide)), fun H1 s1 => ⟨_, rfl, ite2 (fun e6 => ?_) (fun e6 => ?_)⟩⟩
                · refine ⟨_, rfl, _, _, _, _, rfl, rfl, same_sqT s1 hs, atI_nat (j := 2) hv3, v3, d3, rfl, dp_same s1 _ _ hd3, ?_⟩
                  have q2 := q H1 s1
                  rw [en, e5, e6] at q2
                  exact q2
                · have q2 := q H1 s1
                  rw [en, Bool.eq_false_iff.mpr e6, Bool.and_false] at q2
                  exact q2
              · have q2 := q H (Same.refl H)
                rw [en, Bool.eq_false_iff.mpr e5] at q2
                exact q2
            · have e5 : isNode (.tuple ds) = false := by
                match ds with
                | [] => rfl
                | [_] => rfl
                | [_, _] => exact absurd (decide_eq_true (congrArg (fun n : Nat => V.int (n : Int)) hl)) e3
                | [_, _, _] => exact absurd (decide_eq_true (congrArg (fun n : Nat => V.int (n : Int)) hl)) e4
                | _ :: _ :: _ :: _ :: _ => rfl
              have q2 := q H (Same.refl H)
              rw [e5] at q2
              exact q2

theorem ok_end_of {f : Addr} {fd : FuncData} (F : Fun K "end_of" "end_of" s_end_of f fd) (E : Bi K mg) (D_arity_of : Has P w K mg base 2 "arity_of" ["node"] (sp_arity_of K)) : FnOk P w K mg base CX0 3 f fd ["nodes", "start"] (sp_end_of K) := by
  obtain ⟨f_arity_of, fd_arity_of, G_arity_of, g_arity_of, kp_arity_of, b_arity_of⟩ := D_arity_of
  refine F.ok sc_end_of (fun vs H Q E h => ?_) (fun cdv A outer s H vs Q E' hr h => ?_)
  · obtain ⟨x, ds, i, k, rfl, _⟩ := h
    rfl
  · obtain ⟨x, ds, i, k, rfl, hd, hn, hc, q⟩ := h
    refine ⟨_, (pss_cons (ps_set (i := 2) sc_end_of.nd rfl (Or.inl rfl) pe_int)
      (pss_cons (ps_set (i := 3) sc_end_of.nd rfl (Or.inl rfl) (pv 1))
      (pss_cons (ps_while PassesOwn.never (pt_cmpR op_gt (pv 2) pe_int (nomark _)) (pss_cons (ps_aug (i := 2) sc_end_of.nd rfl (Or.inl rfl) (pe_op op_sub (pe_call G_arity_of (hr.mono (by decide)) (by rfl) g_arity_of kp_arity_of b_arity_of .nil pass0 (pa_cons (pe_ix ix_tup (pv 0) (pv 3) (fun _ _ => rfl)) pa_nil)) pe_int) ip_add)
      (pss_one (ps_aug (i := 3) sc_end_of.nd rfl (Or.inl rfl) pe_int ip_add))))
      (pss_one (ps_ret (pv 3)))))), ?_⟩
    cases hd with
    | @tup a xs _ hs ha =>
    refine seq_asg (gname (seq_asg ?_))
    refine ⟨_, rfl, ?_⟩
    refine gname (seq_any ?_)
    refine ⟨fun n σ H' => ∃ (m j kk : Nat), σ = [some (.ref a), some (.int (i : Int)), some (.int (m : Int)), some (.int (j : Int))] ∧ H' = H ∧ Cls kk (ds.drop j) ∧ m ≤ kk ∧ j + tk m (ds.drop j) = i + tk 1 (ds.drop i) ∧ n = ds.length - j,
      ⟨_, 1, i, k + 1, rfl, rfl, hc, by omega, rfl, rfl⟩, ?_⟩
    rintro n σ H1 ⟨m, j, kk, rfl, rfl, h1, h2, h3, rfl⟩
    refine ⟨_, rfl, _, _, rfl, rfl, _, rfl, ite2 (fun e => ?_) (fun e => ?_)⟩
    · have hm : 0 < m := by
        have := of_decide_eq_true e
        omega
      cases hl : ds.drop j with
      | nil =>
        rw [hl] at h1
        have : kk = 0 := h1
        omega
      | cons d r =>
        rw [hl] at h1 h3
        have hj : j < ds.length := by
          rcases Nat.lt_or_ge j ds.length with h | h
          · exact h
          · rw [List.drop_of_length_le h] at hl; cases hl
        have hdj : ds[j]? = some d := by
          rw [← List.head?_drop, hl]
          rfl
        have hr : ds.drop (j + 1) = r := by
          rw [← List.drop_drop, hl]
          rfl
        obtain ⟨v, hv, hdv⟩ := DpAll.get ha hdj
        refine ⟨fun σ' H' => ∃ (m' kk' : Nat), σ' = [some (.ref a), some (.int (i : Int)), some (.int (m' : Int)), some (.int ((j + 1 : Nat) : Int))] ∧ H' = H1 ∧ Cls kk' (ds.drop (j + 1)) ∧ m' ≤ kk' ∧ j + 1 + tk m' (ds.drop (j + 1)) = i + tk 1 (ds.drop i),
          fun σ' H' ⟨m', kk', g1, g2, g3, g4, g5⟩ => ⟨ds.length - (j + 1), by omega, m', j + 1, kk', g1, g2, g3, g4, g5, rfl⟩, ?_⟩
        refine ⟨_, rfl, _, rfl, _, rfl, _, _, _, _, rfl, rfl, hs, atI_nat (j := j) hv, v, d, rfl, hdv, nd_isNode (hn d (List.mem_of_getElem? hdj)), _, _, rfl, rfl, _, _, rfl, rfl, ?_⟩
        refine ⟨_, rfl, _, _, rfl, rfl, ?_⟩
        refine ⟨m - 1 + arN d, kk - 1 + arN d, ?_, rfl, by rw [hr]; exact h1.2, by omega, ?_⟩
        · rw [show ((m - 1 + arN d : Nat) : Int) = (m : Int) + (arityOf d - 1) by rw [nd_ar (hn d (List.mem_of_getElem? hdj))]; omega]
          rfl
        · rw [tk_cons hm] at h3
          rw [hr]
          omega
    · have hm : m = 0 := by
        cases m with
        | zero => rfl
        | succ m => exact absurd (decide_eq_true (by omega)) e
      subst hm
      refine nxp ?_
      refine ⟨_, rfl, ?_⟩
      rw [tk_zero] at h3
      rw [← h3] at q
      exact q

theorem ok_integer {f : Addr} {fd : FuncData} (F : Fun K "integer" "integer" s_integer f fd) (E : Bi K mg) (D_is_bounded : Has P w K mg base 2 "is_bounded" ["value"] (sp_is_bounded K)) : FnOk P w K mg base (L2.CX P w) 3 f fd ["value"] (sp_integer K) := by
  obtain ⟨f_is_bounded, fd_is_bounded, G_is_bounded, g_is_bounded, kp_is_bounded, b_is_bounded⟩ := D_is_bounded
  refine F.okX sc_integer (fun vs H Q E h => ?_) (fun cdv A outer s H vs Q E' hr h => ?_)
  · obtain ⟨n, rfl, _⟩ := h
    rfl
  · obtain ⟨n, rfl, q1, q2⟩ := h
    refine ⟨_, (pss_cons (ps_if (pt_not (pt_val (pe_call G_is_bounded (hr.mono (by decide)) (by rfl) g_is_bounded kp_is_bounded b_is_bounded .nil pass0 (pa_cons (pv 0) pa_nil)))) (pss_one (ps_raise rfl (takes_of rfl rfl rfl rfl) (pmk_own PySem.F.excBase_ValueError E.x_BadTerm.xC E.x_BadTerm.gC E.x_BadTerm.kC (raises_own E.x_BadTerm.bC E.x_BadTerm.tC) rfl))) pss_nil)
      (pss_one (ps_ret (pe_tup (pa_cons (pv 0) pa_nil))))), ?_⟩
    refine seq_ifN ?_
    refine ⟨_, rfl, .int n, _, rfl, .int n, _, rfl, ?_⟩
    cases hb : isBounded (.int n) with
    | false => exact iteT (q2 (by rw [hb]; exact Bool.false_ne_true) H (Same.refl H))
    | true =>
      refine iteF ?_
      refine ⟨_, rfl, (by show 1 ≤ sizeLine; decide), fun a na => ?_⟩
      exact q1 hb _ _ (same_upd na) (.tup (SqT.of upd_same) (.cons (.int _) .nil))

theorem ok__law_leaf {f : Addr} {fd : FuncData} (F : Fun K "_law_leaf" "_law_leaf" s__law_leaf f fd) (E : Bi K mg) (D__law_draw : Has P w K mg base 1 "_law_draw" ["stream", "many"] (sp__law_draw K)) (D__law_name : Has P w K mg base 2 "_law_name" ["stream"] (sp__law_name K)) : FnOk P w K mg base CX0 3 f fd ["stream", "widest"] (sp__law_leaf K) := by
  obtain ⟨f__law_draw, fd__law_draw, G__law_draw, g__law_draw, kp__law_draw, b__law_draw⟩ := D__law_draw
  obtain ⟨f__law_name, fd__law_name, G__law_name, g__law_name, kp__law_name, b__law_name⟩ := D__law_name
  refine F.ok sc__law_leaf (fun vs H Q E h => ?_) (fun cdv A outer s H vs Q E' hr h => ?_)
  · obtain ⟨s, l, wd, rfl, _⟩ := h
    rfl
  · obtain ⟨s, l, wd, rfl, hS, hw, hw2, q⟩ := h
    have n9 : (2 : Nat) ^ 140 ≤ 2 ^ 9000 := Nat.pow_le_pow_right (by decide) (by decide)
    refine ⟨_, (pss_cons (ps_set (i := 2) sc__law_leaf.nd rfl (Or.inl rfl) (pe_call G__law_draw (hr.mono (by decide)) (by rfl) g__law_draw kp__law_draw b__law_draw .nil pass0 (pa_cons (pv 0) (pa_cons pe_int pa_nil))))
      (pss_cons (ps_if (pw_and (pt_cmpR op_lt (pv 2) pe_int (nomark _)) (pw_and1 (pt_cmpR op_gt (pv 1) pe_int (nomark _)))).pt (pss_one (ps_ret (pe_tup (pa_cons pe_str (pa_cons (pe_call G__law_draw (hr.mono (by decide)) (by rfl) g__law_draw kp__law_draw b__law_draw .nil pass0 (pa_cons (pv 0) (pa_cons (pv 1) pa_nil))) pa_nil))))) pss_nil)
      (pss_cons (ps_if (pt_cmpR op_eq (pv 2) pe_int (nomark _)) (pss_one (ps_ret (pe_op op_sub (pe_call G__law_draw (hr.mono (by decide)) (by rfl) g__law_draw kp__law_draw b__law_draw .nil pass0 (pa_cons (pv 0) (pa_cons pe_int pa_nil))) pe_int))) pss_nil)
      (pss_cons (ps_if (pw_and (pt_cmpR op_eq (pv 2) pe_int (nomark _)) (pw_and1 (pt_cmpR op_eq (pe_call G__law_draw (hr.mono (by decide)) (by rfl) g__law_draw kp__law_draw b__law_draw .nil pass0 (pa_cons (pv 0) (pa_cons pe_int pa_nil))) pe_int (nomark _)))).pt (pss_one (ps_ret (pe_op op_sub (pe_call G__law_draw (hr.mono (by decide)) (by rfl) g__law_draw kp__law_draw b__law_draw .nil pass0 (pa_cons (pv 0) (pa_cons (pe_op op_pow pe_int pe_int) pa_nil))) (pe_call G__law_draw (hr.mono (by decide)) (by rfl) g__law_draw kp__law_draw b__law_draw .nil pass0 (pa_cons (pv 0) (pa_cons (pe_op op_pow pe_int pe_int) pa_nil)))))) pss_nil)
      (pss_one (ps_ret (pe_tup (pa_cons pe_str (pa_cons (pe_call G__law_name (hr.mono (by decide)) (by rfl) g__law_name kp__law_name b__law_name .nil pass0 (pa_cons (pv 0) pa_nil)) (pa_cons pe_int pa_nil)))))))))), ?_⟩
    have fin : ∀ H1 : Hp, But s H H1 → Stm H1 s l → ∀ x H2, okName x = true → But s H1 H2 → Stm H2 s l → ∀ p, H2 p = Option.none → Q (.ref p) (upd H2 p (.tup [.str "f", .str x, .int 0])) := by
      intro H1 b1 S1 x H2 hx b2 S2 p np
      obtain ⟨os, hos⟩ := S2.at_s
      obtain ⟨ol, hol⟩ := S2.at_l
      have hp : H p = Option.none := by
        cases e : H p with
        | none => rfl
        | some o =>
          by_cases z : p = s
          · rw [z, hos] at np; cases np
          · rw [b2 _ _ z (b1 _ _ z e)] at np; cases np
      exact q _ (.tuple [.str "f", .str x, .int 0]) _ (.f x 0 hx (by decide) (by decide)) rfl ((b1.trans b2).trans (But.of (same_upd np))) (S2.put (ne_of_none hos np) (ne_of_none hol np)) (.tup hp upd_same (.cons (.str _) (.cons (.str _) (.cons (.int _) .nil))))
    refine seq_asg ?_
    refine ⟨_, rfl, s, l, 5, rfl, hS, by decide, Nat.lt_of_lt_of_le (by decide) n9, fun pick H1 _ _ b1 S1 => ?_⟩
    refine gname (seq_ifN ?_)
    have fresh : ∀ (H2 : Hp), But s H H2 → Stm H2 s l → ∀ p, H2 p = Option.none → H p = Option.none := by
      intro H2 b2 S2 p np
      obtain ⟨os, hos⟩ := S2.at_s
      cases e : H p with
      | none => rfl
      | some o =>
        by_cases z : p = s
        · rw [z, hos] at np; cases np
        · rw [b2 _ _ z e] at np; cases np
    refine ⟨_, rfl, _, _, rfl, rfl, _, rfl, ite2 (fun e => ?_) (fun e => ?_)⟩
    · refine ⟨_, rfl, _, _, rfl, rfl, _, rfl, ite2 (fun e2 => ?_) (fun e2 => absurd (decide_eq_true hw) e2)⟩
      refine ⟨_, rfl, _, rfl, s, l, wd, rfl, S1, hw, Nat.lt_of_lt_of_le (show wd.natAbs < 2 ^ 140 from Nat.lt_of_le_of_lt (show wd.natAbs ≤ 1000 by omega) (by decide)) n9, fun r H2 r0 r1 b2 S2 => ⟨(by show 2 ≤ sizeLine; decide), fun p np => ?_⟩⟩
      obtain ⟨os, hos⟩ := S2.at_s
      obtain ⟨ol, hol⟩ := S2.at_l
      exact q _ (.tuple [.str "v", .int r]) _ (.v r r0 r1) rfl ((b1.trans b2).trans (But.of (same_upd np))) (S2.put (ne_of_none hos np) (ne_of_none hol np)) (.tup (fresh H2 (b1.trans b2) S2 p np) upd_same (.cons (.str _) (.cons (.int _) .nil)))
    · refine iteF (seq_ifN ?_)
      refine ⟨_, rfl, rfl, _, rfl, ite2 (fun e2 => ?_) (fun e2 => ?_)⟩
      · refine ⟨_, rfl, s, l, 10, rfl, S1, by decide, Nat.lt_of_lt_of_le (by decide) n9, fun r H2 r0 r1 b2 S2 => ⟨_, _, rfl, rfl, ?_⟩⟩
        exact q _ (.int (r - 4)) _ (.i _ (by omega) (by omega)) rfl (b1.trans b2) S2 (.int _)
      · refine seq_ifN ?_
        refine ⟨_, rfl, rfl, _, rfl, ite2 (fun e3 => ?_) (fun e3 => ?_)⟩
        · refine ⟨_, rfl, s, l, 4, rfl, S1, by decide, Nat.lt_of_lt_of_le (by decide) n9, fun r H2 r0 r1 b2 S2 => ⟨rfl, _, rfl, ite2 (fun e4 => ?_) (fun e4 => ?_)⟩⟩
          · have h40 : (10 : Int) ^ (40 : Int).toNat = 10 ^ 40 := rfl
            refine ⟨_, rfl, _, _, rfl, rfl, ⟨by decide, by decide, by decide⟩, s, l, _, rfl, S2, by decide, Nat.lt_of_lt_of_le (by decide) n9, fun r3 H3 r30 r31 b3 S3 => ?_⟩
            refine ⟨_, rfl, _, _, rfl, rfl, ⟨by decide, by decide, by decide⟩, s, l, _, rfl, S3, by decide, Nat.lt_of_lt_of_le (by decide) n9, fun r4 H4 r40 r41 b4 S4 => ⟨_, _, rfl, rfl, ?_⟩⟩
            rw [h40] at r31 r41
            exact q _ (.int (r3 - r4)) _ (.i _ (by omega) (by omega)) rfl (((b1.trans b2).trans b3).trans b4) S4 (.int _)
          · refine ⟨_, rfl, s, l, rfl, S2, fun x H3 hx b3 S3 => ⟨(by show 3 ≤ sizeLine; decide), fun p np => fin H2 (b1.trans b2) S2 x H3 hx b3 S3 p np⟩⟩
        · refine iteF ?_
          refine ⟨_, rfl, s, l, rfl, S1, fun x H3 hx b3 S3 => ⟨(by show 3 ≤ sizeLine; decide), fun p np => fin H1 b1 S1 x H3 hx b3 S3 p np⟩⟩

theorem ok_is_term {f : Addr} {fd : FuncData} (F : Fun K "is_term" "is_term" s_is_term f fd) (E : Bi K mg) (D_is_node : Has P w K mg base 3 "is_node" ["value"] (sp_is_node K)) (D_arity_of : Has P w K mg base 2 "arity_of" ["node"] (sp_arity_of K)) : FnOk P w K mg base CX0 4 f fd ["value"] (sp_is_term K) := by
  obtain ⟨f_is_node, fd_is_node, G_is_node, g_is_node, kp_is_node, b_is_node⟩ := D_is_node
  obtain ⟨f_arity_of, fd_arity_of, G_arity_of, g_arity_of, kp_arity_of, b_arity_of⟩ := D_arity_of
  refine F.ok sc_is_term (fun vs H Q E h => ?_) (fun cdv A outer s H vs Q E' hr h => ?_)
  · obtain ⟨x, d, rfl, _⟩ := h
    rfl
  · obtain ⟨x, d, rfl, hd, hk, q⟩ := h
    refine ⟨_, (pss_cons (ps_if (pt_not (pt_val (pe_callB call_isi (by rfl) E.b_isinstance (by decide +kernel) (pa_cons (pv 0) (pa_cons (pe_ty "tuple" (by rfl) E.b_tuple (by decide +kernel)) pa_nil))))) (pss_one (ps_ret pe_bl)) pss_nil)
      (pss_cons (ps_set (i := 1) sc_is_term.nd rfl (Or.inl rfl) pe_int)
      (pss_cons (ps_for PassesOwn.never rfl (pi_tup (pv 0)) (pg_name (i := 2) sc_is_term.nd rfl (Or.inl rfl)) (pss_cons (ps_if (pw_or (pt_cmpR op_eq (pv 1) pe_int (nomark _)) (pw_or1 (pt_not (pt_val (pe_call G_is_node (hr.mono (by decide)) (by rfl) g_is_node kp_is_node b_is_node .nil pass0 (pa_cons (pv 2) pa_nil)))))).pt (pss_one (ps_ret pe_bl)) pss_nil)
      (pss_one (ps_aug (i := 1) sc_is_term.nd rfl (Or.inl rfl) (pe_op op_sub (pe_call G_arity_of (hr.mono (by decide)) (by rfl) g_arity_of kp_arity_of b_arity_of .nil pass0 (pa_cons (pv 2) pa_nil)) pe_int) ip_add))))
      (pss_one (ps_ret (pe_cmpR op_eq (pv 1) pe_int (nomark _))))))), ?_⟩
    refine ⟨x, rfl, _, _, _, _, _, rfl, .ty _, tyx_of hd, kit_ty (kitT _), _, rfl, ite2 (fun e => ?_) (fun e => ?_)⟩
    · have e2 : isTerm d = false := by cases d <;> first | rfl | cases e
      have q2 := q H (Same.refl H)
      rw [e2] at q2
      exact q2
    · obtain ⟨ds, rfl⟩ : ∃ ds, d = .tuple ds := by cases d <;> first | exact ⟨_, rfl⟩ | exact absurd rfl e
      cases hd with
      | @tup a xs _ hs ha =>
        have hl := DpAll.len ha
        refine ⟨_, rfl, a, rfl, ⟨_, hs⟩, for_tup (K := K) (a := a) (xs := xs) (fun i σ H1 => ∃ (m : Int) (v : Option V), σ = [some (.ref a), some (.int m), v] ∧ Same H H1 ∧ termGo m (ds.drop i) = termGo 1 ds)
          ⟨1, none, rfl, Same.refl H, by rw [List.drop_zero]⟩ (fun i σ H1 _ ⟨_, _, _, s1, _⟩ => same_sqT s1 hs) ?_ ?_⟩
        · rintro i y σ H1 hi ⟨m, v, rfl, s1, hm⟩
          obtain ⟨d, hd⟩ : ∃ d, ds[i]? = some d := by
            have := (List.getElem?_eq_some_iff.mp hi).1
            exact ⟨ds[i]'(by omega), List.getElem?_eq_getElem _⟩
          obtain ⟨y', hy', hyd⟩ := DpAll.get ha hd
          have ey : y' = y := Option.some.inj (hy'.symm.trans hi)
          subst ey
          have hdm : d ∈ ds := List.mem_of_getElem? hd
          have hdrop : ds.drop i = d :: ds.drop (i + 1) := by
            obtain ⟨h1, h2⟩ := List.getElem?_eq_some_iff.mp hd
            rw [List.drop_eq_getElem_cons h1, h2]
          rw [hdrop] at hm
          have q2 : ∀ H2, Same H1 H2 → Q (.bl (isTerm (.tuple ds))) H2 := fun H2 s2 => q H2 (s1.trans s2)
          have et : isTerm (.tuple ds) = termGo m (d :: ds.drop (i + 1)) := hm.symm
          rw [et] at q2
          refine ⟨_, rfl, rfl, _, rfl, ite2 (fun e1 => ?_) (fun e1 => ?_)⟩
          · have e2 : m = 0 := V.int.inj (of_decide_eq_true e1)
            have e3 := q2 H1 (Same.refl H1)
            unfold termGo at e3
            rw [if_pos (Or.inl e2)] at e3
            exact e3
          · have e2 : ¬ m = 0 := fun z => e1 (decide_eq_true (congrArg V.int z))
            refine ⟨_, rfl, y', d, rfl, dp_same s1 _ _ hyd, hk ds rfl d hdm, fun H2 s2 => ⟨_, rfl, ite2 (fun e3 => ?_) (fun e3 => ?_)⟩⟩
            · have e4 := q2 H2 s2
              have e5 : isNode d = false := by cases hh : isNode d <;> first | rfl | (rw [hh] at e3; cases e3)
              unfold termGo at e4
              rw [if_pos (Or.inr e5)] at e4
              exact e4
            · have e5 : isNode d = true := by cases hh : isNode d <;> first | rfl | (rw [hh] at e3; exact absurd rfl e3)
              refine ⟨_, rfl, _, rfl, y', d, rfl, dp_same (s1.trans s2) _ _ hyd, e5, _, _, rfl, rfl, _, _, rfl, rfl, ?_⟩
              refine ⟨_, _, rfl, s1.trans s2, ?_⟩
              have hm2 := hm
              conv at hm2 => lhs; unfold termGo
              rw [if_neg (fun z => z.elim e2 (fun z => by rw [e5] at z; cases z))] at hm2
              exact hm2
        · rintro σ H1 ⟨m, v, rfl, s1, hm⟩
          refine ⟨_, rfl, rfl, ?_⟩
          rw [List.drop_of_length_le (by omega)] at hm
          have q2 := q H1 s1
          rw [show isTerm (.tuple ds) = termGo m [] from hm.symm] at q2
          have e3 : termGo m [] = decide (V.int m = V.int 0) := by
            unfold termGo
            exact decide_eq_decide.mpr ⟨fun h => congrArg V.int h, fun h => V.int.inj h⟩
          rw [e3] at q2
          exact q2

theorem ok_parts {f : Addr} {fd : FuncData} (F : Fun K "parts" "parts" s_parts f fd) (E : Bi K mg) (D_end_of : Has P w K mg base 3 "end_of" ["nodes", "start"] (sp_end_of K)) : FnOk P w K mg base CX0 4 f fd ["term"] (sp_parts K) := by
  obtain ⟨f_end_of, fd_end_of, G_end_of, g_end_of, kp_end_of, b_end_of⟩ := D_end_of
  refine F.ok sc_parts (fun vs H Q E h => ?_) (fun cdv A outer s H vs Q E' hr h => ?_)
  · obtain ⟨x, d0, rows, rfl, _⟩ := h
    rfl
  · obtain ⟨x, d0, rows, rfl, hd, n0, hrow, hl, hf, q⟩ := h
    refine ⟨_, (pss_cons (ps_set (i := 1) sc_parts.nd rfl (Or.inl rfl) (pe_lst pa_nil))
      (pss_cons (ps_set (i := 2) sc_parts.nd rfl (Or.inl rfl) pe_int)
      (pss_cons (ps_while PassesOwn.never (pt_cmpR op_lt (pv 2) (pe_callB call_len_seq (by rfl) E.b_len PySem.boot_len (pa_cons (pv 0) pa_nil)) (nomark _)) (pss_cons (ps_set (i := 3) sc_parts.nd rfl (Or.inl rfl) (pe_call G_end_of (hr.mono (by decide)) (by rfl) g_end_of kp_end_of b_end_of .nil pass0 (pa_cons (pv 0) (pa_cons (pv 2) pa_nil))))
      (pss_cons (ps_expr (pe_bm PySem.F.plainAttrs_list PySem.F.slot_list_append PySem.F.type_list_append mt_append (pv 1) (pa_cons (pe_slice sl_tupA (pv 0) (po_some (pv 2)) (po_some (pv 3))) pa_nil)))
      (pss_one (ps_set (i := 2) sc_parts.nd rfl (Or.inl rfl) (pv 3))))))
      (pss_one (ps_ret (pv 1)))))), ?_⟩
    cases id hd with
    | @tup a xs _ hs ha =>
    have hxl := DpAll.len ha
    rw [List.length_cons] at hxl
    refine seq_asg ?_
    refine ⟨Nat.zero_le _, fun r nr => ?_⟩
    have s0 := same_upd (o := .lst []) nr
    have e0 : (upd H r (.lst [])) r = some (.lst []) := upd_same
    generalize upd H r (.lst []) = H1 at s0 e0
    refine gname (seq_asg ?_)
    refine gname (seq_any ?_)
    have hnd : ∀ d ∈ d0 :: rows.flatten, NdA d := fun d hd => by
      rcases List.mem_cons.mp hd with z | z
      · rw [z]; exact n0
      · obtain ⟨row, h1, h2⟩ := List.mem_flatten.mp z
        exact (hrow row h1).2 d h2
    have hsplit : ∀ j, rows.flatten = (rows.take j).flatten ++ (rows.drop j).flatten := fun j => by rw [← List.flatten_append, List.take_append_drop]
    refine ⟨fun m σ H' => ∃ (j : Nat) (ys : List V) (v3 : Option V), σ = [some (.ref a), some (.ref r), some (.int ((1 + ((rows.take j).flatten).length : Nat) : Int)), v3] ∧ Same H H' ∧ H' r = some (.lst ys) ∧ DpAll K H' ys ((rows.take j).map PyData.tuple) ∧ j ≤ rows.length ∧ m = rows.length - j,
      ⟨_, 0, [], none, rfl, s0, e0, .nil, Nat.zero_le _, rfl⟩, ?_⟩
    rintro m σ H2 ⟨j, ys, v3, rfl, s2, e2, d2, hj, rfl⟩
    refine ⟨_, rfl, _, rfl, _, _, rfl, .inr (same_sqT s2 hs), _, _, rfl, rfl, _, rfl, ?_⟩
    rcases Nat.lt_or_ge j rows.length with hjl | hjl
    · obtain ⟨row, hrw⟩ : ∃ row, rows[j]? = some row := ⟨_, List.getElem?_eq_getElem hjl⟩
      have hrm := List.mem_of_getElem? hrw
      have hdj : rows.drop j = row :: rows.drop (j + 1) := by
        obtain ⟨h1, h2⟩ := List.getElem?_eq_some_iff.mp hrw
        rw [List.drop_eq_getElem_cons h1, h2]
      have hpos : 0 < row.length := by
        have := (hrow row hrm).1
        cases row with
        | nil => exact absurd (show (1 : Nat) = 0 from this) (by decide)
        | cons => rw [List.length_cons]; omega
      have hfl : rows.flatten.length = ((rows.take j).flatten).length + (row.length + ((rows.drop (j + 1)).flatten).length) := by
        have e := congrArg List.length (hsplit j)
        rw [hdj, List.flatten_cons, List.length_append, List.length_append] at e
        exact e
      have hcls := rows_cls (rows := rows) (rest := rows.drop (j + 1)) (row := row) fun y hy => hrow y (by
        rw [← hdj] at hy
        exact List.mem_of_mem_drop hy)
      rw [List.flatten_cons] at hcls
      have hT : (rows.take (j + 1)).flatten = (rows.take j).flatten ++ row := by rw [List.take_add_one, hrw, List.flatten_append]; show _ ++ (row ++ []) = _; rw [List.append_nil]
      generalize hTt : ((rows.take j).flatten).length = T at hfl
      have hdr : (d0 :: rows.flatten).drop (1 + T) = row ++ (rows.drop (j + 1)).flatten := by
        rw [show 1 + T = T + 1 by omega, List.drop_succ_cons, hsplit j, hdj, List.flatten_cons, ← hTt, List.drop_left']
        rfl
      rw [decide_eq_true (show ((1 + T : Nat) : Int) < (xs.length : Int) by omega)]
      refine ⟨_, fun σ' H' h => h, ?_⟩
      refine seq_asg ?_
      refine ⟨_, rfl, _, rfl, .ref a, _, 1 + T, (rows.drop (j + 1)).length, rfl, dp_same s2 _ _ hd, hnd, by rw [hdr]; exact hcls, ?_⟩
      rw [hdr, tk_row (hrow row hrm).1]
      refine gname ?_
      refine ⟨_, rfl, .inl ⟨rfl, _, SqL.of e2⟩, _, rfl, _, rfl, _, rfl, _, rfl, _, rfl, ?_⟩
      show rSlA K (.ref a) (some ((1 + T : Nat) : Int)) (some ((1 + T + row.length : Nat) : Int)) H2 _
      refine slA_nat (same_sqT s2 hs) (by omega) (by omega) fun b1 H3 s3 t3 _ => ?_
      have e3 := s3 _ _ e2
      have hyl := DpAll.len d2
      rw [List.length_map, List.length_take] at hyl
      have dv : Dp K H3 (.ref b1) (.tuple row) := by
        refine .tup t3 ?_
        have := DpAll.taket (1 + T + row.length - (1 + T)) (DpAll.dropt (1 + T) (dp_sameAll (s2.trans s3) _ _ ha))
        rw [hdr, List.take_left' (by omega)] at this
        exact this
      have n3 : notTup H3 r := .inl ⟨_, e3⟩
      refine ⟨_, _, _, rfl, rfl, e3, small1000 (by omega), ?_⟩
      refine ⟨_, rfl, gname ?_⟩
      have rowsN : ∀ l : List (List PyData), (∀ y ∈ l, ∀ d ∈ y, NdA d) → noLA (l.map PyData.tuple) = true := by
        intro l
        induction l with
        | nil => intro _; simp [noLA]
        | cons y l ih => intro h; rw [List.map_cons, noLA, tup_noL (h y List.mem_cons_self), ih fun z hz => h z (List.mem_cons_of_mem _ hz)]; rfl
      refine ⟨rows.length - (j + 1), by omega, j + 1, _, some (.int ((1 + T + row.length : Nat) : Int)), ?_, fun b o e => by rw [upd_ne (ne_of_none e nr)]; exact s3 _ _ (s2 _ _ e), upd_same, ?_, hjl, rfl⟩
      · rw [hT, List.length_append, hTt, ← Nat.add_assoc]
        rfl
      · rw [List.take_add_one, hrw, List.map_append]
        exact DpAll.app (dp_putAll n3 _ _ (rowsN _ fun y hy => (hrow y (List.mem_of_mem_take hy)).2) (dp_sameAll s3 _ _ d2)) (.cons (dp_put n3 _ _ (tup_noL (hrow row hrm).2) dv) .nil)
    · have hjj : j = rows.length := by omega
      subst hjj
      rw [List.take_length] at d2
      rw [decide_eq_false (by rw [List.take_length]; omega)]
      exact ⟨_, rfl, q r ys H2 s2 nr e2 d2⟩


theorem ok__law_term {f : Addr} {fd : FuncData} (F : Fun K "_law_term" "_law_term" s__law_term f fd) (E : Bi K mg) (D__law_draw : Has P w K mg base 1 "_law_draw" ["stream", "many"] (sp__law_draw K)) (D__law_name : Has P w K mg base 2 "_law_name" ["stream"] (sp__law_name K)) (D__law_leaf : Has P w K mg base 3 "_law_leaf" ["stream", "widest"] (sp__law_leaf K)) : FnOk P w K mg base CX0 4 f fd ["stream", "size", "widest"] (sp__law_term K) := by
  obtain ⟨f__law_draw, fd__law_draw, G__law_draw, g__law_draw, kp__law_draw, b__law_draw⟩ := D__law_draw
  obtain ⟨f__law_name, fd__law_name, G__law_name, g__law_name, kp__law_name, b__law_name⟩ := D__law_name
  obtain ⟨f__law_leaf, fd__law_leaf, G__law_leaf, g__law_leaf, kp__law_leaf, b__law_leaf⟩ := D__law_leaf
  refine F.ok sc__law_term (fun vs H Q E h => ?_) (fun cdv A outer s H vs Q E' hr h => ?_)
  · obtain ⟨s, l, n, wd, rfl, _⟩ := h
    rfl
  · obtain ⟨s, l, n, wd, rfl, hS, hn, hn2, hw, hw2, q⟩ := h
    have n9 : (2 : Nat) ^ 140 ≤ 2 ^ 9000 := Nat.pow_le_pow_right (by decide) (by decide)
    refine ⟨_, (pss_cons (ps_set (i := 3) sc__law_term.nd rfl (Or.inl rfl) (pe_lst pa_nil))
      (pss_cons (ps_set (i := 4) sc__law_term.nd rfl (Or.inl rfl) pe_int)
      (pss_cons (ps_while PassesOwn.never (pt_cmpR op_gt (pv 4) pe_int (nomark _)) (pss_cons (ps_set (i := 4) sc__law_term.nd rfl (Or.inl rfl) (pe_op op_sub (pv 4) pe_int))
      (pss_cons (ps_set (i := 5) sc__law_term.nd rfl (Or.inl rfl) (pe_op op_sub (pe_op op_sub (pe_op op_sub (pv 1) (pe_callB call_len_seq (by rfl) E.b_len PySem.boot_len (pa_cons (pv 3) pa_nil))) (pv 4)) pe_int))
      (pss_one (ps_if (pw_and (pt_cmpR op_gt (pv 5) pe_int (nomark _)) (pw_and1 (pt_cmpR op_gt (pe_call G__law_draw (hr.mono (by decide)) (by rfl) g__law_draw kp__law_draw b__law_draw .nil pass0 (pa_cons (pv 0) (pa_cons pe_int pa_nil))) pe_int (nomark _)))).pt (pss_cons (ps_set (i := 6) sc__law_term.nd rfl (Or.inl rfl) (pe_op op_add pe_int (pe_call G__law_draw (hr.mono (by decide)) (by rfl) g__law_draw kp__law_draw b__law_draw .nil pass0 (pa_cons (pv 0) (pa_cons (pe_callB (call_min2 rfl) (by rfl) E.b_min (by decide +kernel) (pa_cons (pv 5) (pa_cons (pe_op op_add pe_int (pe_op op_mul pe_int (pe_callTy call_int1 (by rfl) E.b_int (by decide +kernel) (pa_cons (pe_cmpR op_eq (pe_call G__law_draw (hr.mono (by decide)) (by rfl) g__law_draw kp__law_draw b__law_draw .nil pass0 (pa_cons (pv 0) (pa_cons pe_int pa_nil))) pe_int (nomark _)) pa_nil)))) pa_nil))) pa_nil)))))
      (pss_cons (ps_set (i := 6) sc__law_term.nd rfl (Or.inl rfl) (pe_callB (call_min2 rfl) (by rfl) E.b_min (by decide +kernel) (pa_cons (pv 6) (pa_cons pe_int pa_nil))))
      (pss_cons (ps_expr (pe_bm PySem.F.plainAttrs_list PySem.F.slot_list_append PySem.F.type_list_append mt_append (pv 3) (pa_cons (pe_tup (pa_cons pe_str (pa_cons (pe_call G__law_name (hr.mono (by decide)) (by rfl) g__law_name kp__law_name b__law_name .nil pass0 (pa_cons (pv 0) pa_nil)) (pa_cons (pv 6) pa_nil)))) pa_nil)))
      (pss_one (ps_set (i := 4) sc__law_term.nd rfl (Or.inl rfl) (pe_op op_add (pv 4) (pv 6))))))) (pss_one (ps_expr (pe_bm PySem.F.plainAttrs_list PySem.F.slot_list_append PySem.F.type_list_append mt_append (pv 3) (pa_cons (pe_call G__law_leaf (hr.mono (by decide)) (by rfl) g__law_leaf kp__law_leaf b__law_leaf .nil pass0 (pa_cons (pv 0) (pa_cons (pv 2) pa_nil))) pa_nil)))))))))
      (pss_one (ps_ret (pe_callTy call_tuple_of (by rfl) E.b_tuple (by decide +kernel) (pa_cons (pv 3) pa_nil))))))), ?_⟩
    refine seq_asg ?_
    refine ⟨Nat.zero_le _, fun r nr => ?_⟩
    refine gname (seq_asg (gname (seq_any ?_)))
    obtain ⟨os, hos⟩ := hS.at_s
    obtain ⟨ol, hol⟩ := hS.at_l
    have sr : s ≠ r := ne_of_none hos nr
    have lr : l ≠ r := ne_of_none hol nr
    refine ⟨fun k σ H' => ∃ (m : Nat) (va vb : Option V) (xs : List V) (ds : List PyData), σ = [some (.ref s), some (.int n), some (.int wd), some (.ref r), some (.int (m : Int)), va, vb] ∧ H' r = some (.lst xs) ∧ ImAll K (fun b => H b = Option.none ∧ b ≠ r) H' xs ds ∧
        (∀ t, Cls m t → Cls 1 (ds ++ t)) ∧ (∀ d ∈ ds, Nd wd d) ∧ (ds.length : Int) + m ≤ n ∧ Stm H' s l ∧ But s H H' ∧ k = n.toNat - ds.length,
      ⟨_, 1, _, _, [], [], rfl, upd_same, .nil, fun t h => h, (fun d hd => nomatch hd), by show (0 : Int) + 1 ≤ n; omega, hS.put sr lr, But.of (same_upd nr), rfl⟩, ?_⟩
    rintro k σ H1 ⟨m, va, vb, xs, ds, rfl, h1, h2, h3, h4, h5, h6, h7, rfl⟩
    have hxl : xs.length = ds.length := h2.len
    refine ⟨_, rfl, _, _, rfl, rfl, _, rfl, ite2 (fun e => ?_) (fun e => ?_)⟩
    · have hm : 0 < m := by
        have := of_decide_eq_true e
        omega
      refine ⟨fun σ' H' => ∃ (m' : Nat) (va vb : Option V) (xs' : List V) (ds' : List PyData), σ' = [some (.ref s), some (.int n), some (.int wd), some (.ref r), some (.int (m' : Int)), va, vb] ∧ H' r = some (.lst xs') ∧ ImAll K (fun b => H b = Option.none ∧ b ≠ r) H' xs' ds' ∧
        (∀ t, Cls m' t → Cls 1 (ds' ++ t)) ∧ (∀ d ∈ ds', Nd wd d) ∧ (ds'.length : Int) + m' ≤ n ∧ Stm H' s l ∧ But s H H' ∧ ds'.length = ds.length + 1,
        fun σ' H' ⟨m', va', vb', xs', ds', g1, g2, g3, g4, g5, g6, g7, g8, g9⟩ => ⟨n.toNat - ds'.length, by omega, m', va', vb', xs', ds', g1, g2, g3, g4, g5, g6, g7, g8, rfl⟩, ?_⟩
      -- missing = missing - 1; room = ..
      refine seq_asg ?_
      refine ⟨_, rfl, _, _, rfl, rfl, ?_⟩
      refine gname (seq_asg ?_)
      refine ⟨_, rfl, _, rfl, _, _, rfl, .inl (SqL.of h1), _, _, rfl, rfl, _, rfl, _, _, rfl, rfl, _, _, rfl, rfl, ?_⟩
      refine gname ?_
      -- a new node is put behind
      have put : ∀ (H2 : Hp) (v : V) (d : PyData), But s H1 H2 → Stm H2 s l → Im K (fun b => H1 b = Option.none) H2 v d → Nd wd d → ∀ (m' : Nat) (z : Int), z = (m' : Int) → m' = m - 1 + arN d → (ds.length : Int) + 1 + m' ≤ n → ∀ va vb,
          ∃ (m'' : Nat) (va' vb' : Option V) (xs' : List V) (ds' : List PyData), [some (.ref s), some (.int n), some (.int wd), some (.ref r), some (.int z), va, vb] = [some (.ref s), some (.int n), some (.int wd), some (.ref r), some (.int (m'' : Int)), va', vb'] ∧ (upd H2 r (.lst (xs ++ [v]))) r = some (.lst xs') ∧ ImAll K (fun b => H b = Option.none ∧ b ≠ r) (upd H2 r (.lst (xs ++ [v]))) xs' ds' ∧
            (∀ t, Cls m'' t → Cls 1 (ds' ++ t)) ∧ (∀ d ∈ ds', Nd wd d) ∧ (ds'.length : Int) + m'' ≤ n ∧ Stm (upd H2 r (.lst (xs ++ [v]))) s l ∧ But s H (upd H2 r (.lst (xs ++ [v]))) ∧ ds'.length = ds.length + 1 := by
        intro H2 v d b2 S2 iv nd m' z hz em hle va vb
        have k1 : ∀ b o, (H b = Option.none ∧ b ≠ r) → H1 b = some o → (upd H2 r (.lst (xs ++ [v]))) b = some o := fun b o g e => by
          rw [upd_ne g.2]
          exact b2 b o (fun z => by rw [z, hos] at g; cases g.1) e
        have k2 : ∀ b o, H1 b = Option.none → H2 b = some o → (upd H2 r (.lst (xs ++ [v]))) b = some o := fun b o g e => by
          rw [upd_ne (fun z => by rw [z, h1] at g; cases g)]
          exact e
        have k3 : ∀ b, H1 b = Option.none → H b = Option.none ∧ b ≠ r := fun b g => by
          refine ⟨?_, fun z => by rw [z, h1] at g; cases g⟩
          cases eh : H b with
          | none => rfl
          | some o =>
            by_cases z : b = s
            · obtain ⟨o1, ho1⟩ := h6.at_s
              rw [z, ho1] at g; cases g
            · rw [h7 _ _ z eh] at g; cases g
        have k4 : ∀ t, Cls m' t → Cls 1 ((ds ++ [d]) ++ t) := fun t ht => by
          rw [List.append_assoc]
          exact h3 _ ⟨hm, by rw [em] at ht; exact ht⟩
        have k5 : ∀ d' ∈ ds ++ [d], Nd wd d' := fun d' hd' => by
          rcases List.mem_append.mp hd' with z | z
          · exact h4 _ z
          · rw [List.mem_singleton.mp z]; exact nd
        have k6 : ((ds ++ [d]).length : Int) + (m' : Int) ≤ n := by
          rw [List.length_append]
          show ((ds.length + 1 : Nat) : Int) + (m' : Int) ≤ n
          omega
        have k7 : But s H (upd H2 r (.lst (xs ++ [v]))) := fun b o hb e => by
          rw [upd_ne (ne_of_none e nr)]
          exact b2 b o hb (h7 b o hb e)
        exact ⟨m', va, vb, xs ++ [v], ds ++ [d], by rw [hz], upd_same, ImAll.snoc (Im.monoAll k1 (fun _ g => g) _ _ h2) (Im.mono k2 k3 _ _ iv), k4, k5, k6, S2.put sr lr, k7, by rw [List.length_append]; rfl⟩
      have hm1 : (m : Int) - 1 = ((m - 1 : Nat) : Int) := by omega
      -- if room > 0 and draw > 0
      refine ⟨_, rfl, _, _, rfl, rfl, _, rfl, ite2 (fun e1 => ?_) (fun e1 => ?_)⟩
      · have hroom : 0 < n - (xs.length : Int) - ((m : Int) - 1) - 1 := of_decide_eq_true e1
        refine ⟨_, rfl, s, l, 3, rfl, h6, by decide, Nat.lt_of_lt_of_le (by decide) n9, fun r1 H2 _ _ b2 S2 => ⟨_, _, rfl, rfl, _, rfl, ite2 (fun e2 => ?_) (fun e2 => ?_)⟩⟩
        · refine seq_asg ?_
          refine ⟨_, rfl, _, rfl, _, rfl, s, l, 8, rfl, S2, by decide, Nat.lt_of_lt_of_le (by decide) n9, fun r2 H3 _ _ b3 S3 => ⟨rfl, .inr ⟨_, rfl, _, _, rfl, rfl, .inl ⟨by decide, by decide⟩, _, _, rfl, rfl, _, _, rfl, ?_⟩⟩⟩
          have hk : (0 : Int) ≤ (if decide (V.int r2 = V.int 0) = true then 1 else 0) ∧ (if decide (V.int r2 = V.int 0) = true then (1 : Int) else 0) ≤ 1 := by split <;> decide
          generalize (if decide (V.int r2 = V.int 0) = true then (1 : Int) else 0) = k at hk
          refine ⟨s, l, _, rfl, S3, by split <;> omega, Nat.lt_of_lt_of_le (show _ < 2 ^ 140 from Nat.lt_of_le_of_lt (show _ ≤ 1000 by split <;> omega) (by decide)) n9, fun r3 H4 r30 r31 b4 S4 => ⟨_, _, rfl, rfl, ?_⟩⟩
          have h3r : 1 + r3 ≤ n - (xs.length : Int) - ((m : Int) - 1) - 1 := by
            split at r31 <;> omega
          refine gname (seq_asg ?_)
          refine ⟨_, rfl, _, _, rfl, ?_⟩
          refine gname (seq_any ?_)
          have har : 1 ≤ (if (8 : Int) < 1 + r3 then 8 else 1 + r3) ∧ (if (8 : Int) < 1 + r3 then 8 else 1 + r3) ≤ 8 ∧ (if (8 : Int) < 1 + r3 then 8 else 1 + r3) ≤ 1 + r3 := by split <;> omega
          have e4 : H4 r = some (.lst xs) := b4 _ _ sr.symm (b3 _ _ sr.symm (b2 _ _ sr.symm h1))
          generalize hga : (if (8 : Int) < 1 + r3 then (8 : Int) else 1 + r3) = ar at har
          obtain ⟨ha1, ha8, har3⟩ := har
          refine ⟨_, rfl, .inl ⟨rfl, _, SqL.of e4⟩, _, rfl, s, l, rfl, S4, fun x H5 hx b5 S5 => ⟨_, rfl, (by show 3 ≤ sizeLine; decide), fun p np => ?_⟩⟩
          have e5 : H5 r = some (.lst xs) := b5 _ _ sr.symm e4
          obtain ⟨os5, hos5⟩ := S5.at_s
          obtain ⟨ol5, hol5⟩ := S5.at_l
          have bb : But s H1 H5 := ((b2.trans b3).trans b4).trans b5
          have fp : H1 p = Option.none := by
            cases eh : H1 p with
            | none => rfl
            | some o =>
              by_cases z : p = s
              · rw [z, hos5] at np; cases np
              · rw [bb _ _ z eh] at np; cases np
          have rp : r ≠ p := ne_of_none e5 np
          refine ⟨_, _, _, rfl, rfl, by rw [upd_ne rp]; exact e5, small1000 (by omega), ?_⟩
          refine nxp (asg1 ?_)
          refine ⟨_, rfl, _, rfl, _, _, rfl, rfl, ?_⟩
          refine gname ?_
          have ea : arN (.tuple [.str "f", .str x, .int ar]) = ar.toNat := rfl
          exact put _ (.ref p) (.tuple [.str "f", .str x, .int ar]) (bb.trans (But.of (same_upd np))) (S5.put (ne_of_none hos5 np) (ne_of_none hol5 np)) (.tup fp upd_same (.cons (.str _) (.cons (.str _) (.cons (.int _) .nil)))) (.f x ar hx (by omega) ha8) (m - 1 + ar.toNat) _ (by omega) rfl (by omega) _ _
        · have e2r : H2 r = some (.lst xs) := b2 _ _ sr.symm h1
          refine ⟨_, rfl, .inl ⟨rfl, _, SqL.of e2r⟩, _, rfl, _, rfl, s, l, wd, rfl, S2, hw, hw2, fun v d H3 nd na b3 S3 iv => ?_⟩
          have fr : ∀ b, H2 b = Option.none → H1 b = Option.none := fun b g => by
            cases eh : H1 b with
            | none => rfl
            | some o =>
              by_cases z : b = s
              · obtain ⟨o1, ho1⟩ := S2.at_s
                rw [z, ho1] at g; cases g
              · rw [b2 _ _ z eh] at g; cases g
          refine ⟨_, _, _, rfl, rfl, b3 _ _ sr.symm e2r, small1000 (by omega), ?_⟩
          exact put H3 v d (b2.trans b3) S3 (Im.mono (fun _ _ _ e => e) fr _ _ iv) nd (m - 1) _ hm1 (by rw [na]; rfl) (by omega) _ _
      · refine iteF ?_
        refine ⟨_, rfl, .inl ⟨rfl, _, SqL.of h1⟩, _, rfl, _, rfl, s, l, wd, rfl, h6, hw, hw2, fun v d H3 nd na b3 S3 iv => ?_⟩
        refine ⟨_, _, _, rfl, rfl, b3 _ _ sr.symm h1, small1000 (by omega), ?_⟩
        exact put H3 v d b3 S3 iv nd (m - 1) _ hm1 (by rw [na]; rfl) (by omega) _ _
    · refine nxp ?_
      have hm : m = 0 := by
        cases m with
        | zero => rfl
        | succ m => exact absurd (decide_eq_true (by omega)) e
      subst hm
      have ht : Term wd ds := ⟨by have := h3 [] rfl; rwa [List.append_nil] at this, h4⟩
      refine ⟨_, rfl, _, _, rfl, .inl ⟨SqL.of h1, fun t nt => ?_⟩⟩
      obtain ⟨os1, hos1⟩ := h6.at_s
      obtain ⟨ol1, hol1⟩ := h6.at_l
      have ft : H t = Option.none := by
        cases eh : H t with
        | none => rfl
        | some o =>
          by_cases z : t = s
          · rw [z, hos1] at nt; cases nt
          · rw [h7 _ _ z eh] at nt; cases nt
      exact q _ ds _ ht (by omega) (h7.trans (But.of (same_upd nt))) (h6.put (ne_of_none hos1 nt) (ne_of_none hol1 nt)) (.tup ft upd_same (Im.monoAll (fun b o _ e => same_upd nt b o e) (fun _ g => g.1) _ _ h2))

theorem ok_compound {f : Addr} {fd : FuncData} (F : Fun K "compound" "compound" s_compound f fd) (E : Bi K mg) (D_is_name : Has P w K mg base 1 "is_name" ["value"] (sp_is_name K)) (D_is_term : Has P w K mg base 4 "is_term" ["value"] (sp_is_term K)) : FnR P w K mg base (L2.CX P w) 5 f (starSp 1 (sp_compound K)) := by
  obtain ⟨f_is_name, fd_is_name, G_is_name, g_is_name, kp_is_name, b_is_name⟩ := D_is_name
  obtain ⟨f_is_term, fd_is_term, G_is_term, g_is_term, kp_is_term, b_is_term⟩ := D_is_term
  obtain ⟨oc, od, kV, doc, pm, an, cdv, ct, osl, rfl, lk, hcd⟩ := F.ex
  refine fn_star (ps := ["name"]) (pv := "parts") lk hcd sc_compound cxUp (bind_star1 (B := fun l => bindArgs _ ⟨l, []⟩) (fun _ => rfl) (fun _ _ _ => rfl)) (fun A outer s H vs Q E' hr h => ?_)
  obtain ⟨x, p, rs, ds, rfl, hx, hp, ⟨hR, hok, hl, hfl⟩, q1, q2⟩ := h
  refine ⟨_, (pss_cons (ps_if (pt_not (pt_val (pe_call G_is_name (hr.mono (by decide)) (by rfl) g_is_name kp_is_name b_is_name .nil pass0 (pa_cons (pv 0) pa_nil)))) (pss_one (ps_raise rfl (takes_of rfl rfl rfl rfl) (pmk_own PySem.F.excBase_ValueError E.x_BadTerm.xC E.x_BadTerm.gC E.x_BadTerm.kC (raises_own E.x_BadTerm.bC E.x_BadTerm.tC) rfl))) pss_nil)
      (pss_cons (ps_if (pt_not (pt_chain op_le op_le pe_int (pe_callB call_len_seq (by rfl) E.b_len PySem.boot_len (pa_cons (pv 1) pa_nil)) (pe_gC (by rfl) E.c_MOST_ARITY))) (pss_one (ps_raise rfl (takes_of rfl rfl rfl rfl) (pmk_own PySem.F.excBase_ValueError E.x_BadTerm.xC E.x_BadTerm.gC E.x_BadTerm.kC (raises_own E.x_BadTerm.bC E.x_BadTerm.tC) rfl))) pss_nil)
      (pss_cons (ps_set (i := 2) sc_compound.nd rfl (Or.inl rfl) (pe_lst (pa_cons (pe_tup (pa_cons pe_str (pa_cons (pv 0) (pa_cons (pe_callB call_len_seq (by rfl) E.b_len PySem.boot_len (pa_cons (pv 1) pa_nil)) pa_nil)))) pa_nil)))
      (pss_cons (ps_for (passes_of rfl) rfl (pi_tup (pv 1)) (pg_name (i := 3) sc_compound.nd rfl (Or.inl rfl)) (pss_cons (ps_if (pt_not (pt_val (pe_call G_is_term (hr.mono (by decide)) (by rfl) g_is_term kp_is_term b_is_term .nil pass0 (pa_cons (pv 3) pa_nil)))) (pss_one (ps_raise rfl (takes_of rfl rfl rfl rfl) (pmk_own PySem.F.excBase_ValueError E.x_BadTerm.xC E.x_BadTerm.gC E.x_BadTerm.kC (raises_own E.x_BadTerm.bC E.x_BadTerm.tC) rfl))) pss_nil)
      (pss_one (ps_expr (pe_bm PySem.F.plainAttrs_list PySem.F.slot_list_extend PySem.F.type_list_extend mt_extT (pv 2) (pa_cons (pv 3) pa_nil))))))
      (pss_one (ps_ret (pe_callTy call_tuple_of (by rfl) E.b_tuple (by decide +kernel) (pa_cons (pv 2) pa_nil)))))))), ?_⟩
  have hrl := DpAll.len hR
  refine seq_ifN ?_
  refine ⟨_, rfl, .str x, _, rfl, .str x, (fun z e => by cases e; exact hx), fun H1 s1 => ⟨_, rfl, ?_⟩⟩
  have cG : compG x ds = (isName (.str x) && (decide ((1 : Int) ≤ (ds.length : Int)) && decide ((ds.length : Int) ≤ 8)) && ds.all isTerm) := rfl
  cases hb : isName (.str x) with
  | false => exact iteT (q2 (by rw [cG, hb]; exact Bool.false_ne_true) H1 s1)
  | true =>
    rw [hb] at cG
    refine iteF (seq_ifN ?_)
    refine ⟨_, rfl, _, _, rfl, .inr (same_sqT s1 hp), _, _, rfl, rfl, _, rfl, ite2 (fun e => ?_) (fun e => ⟨_, rfl, ?_⟩)⟩
    rotate_left
    · exact iteT (q2 (by
        rw [cG, show decide ((1 : Int) ≤ (ds.length : Int)) = false by rw [← hrl]; exact Bool.eq_false_iff.mpr e]
        exact Bool.false_ne_true) H1 s1)
    rw [show decide ((1 : Int) ≤ (ds.length : Int)) = true by rw [← hrl]; exact e] at cG
    refine ⟨_, _, rfl, rfl, _, rfl, ?_⟩
    cases e2 : decide ((rs.length : Int) ≤ 8) with
    | false =>
      exact iteT (q2 (by
        rw [cG, show decide ((ds.length : Int) ≤ 8) = false by rw [← hrl]; exact e2]
        exact Bool.false_ne_true) H1 s1)
    | true =>
      rw [show decide ((ds.length : Int) ≤ 8) = true by rw [← hrl]; exact e2] at cG
      refine iteF (seq_asg ?_)
      refine ⟨_, rfl, _, rfl, _, _, rfl, .inr (same_sqT s1 hp), (by show 3 ≤ sizeLine; decide), fun a na => ⟨(by show 1 ≤ sizeLine; decide), fun r nr => ?_⟩⟩
      have sa := same_upd (o := .tup [.str "f", .str x, .int (rs.length : Int)]) na
      have sr := same_upd (o := .lst [.ref a]) nr
      have nr0 : H r = Option.none := by
        cases e : H r with
        | none => rfl
        | some z => rw [sa _ _ (s1 _ _ e)] at nr; cases nr
      have s2 := s1.trans (sa.trans sr)
      have dh : Dp K (upd (upd H1 a (.tup [.str "f", .str x, .int (rs.length : Int)])) r (.lst [.ref a])) (.ref a) (.tuple [.str "f", .str x, .int (ds.length : Int)]) := by
        rw [← hrl]
        exact .tup (SqT.of (sr _ _ upd_same)) (.cons (.str _) (.cons (.str _) (.cons (.int _) .nil)))
      have e0 : (upd (upd H1 a (.tup [.str "f", .str x, .int (rs.length : Int)])) r (.lst [.ref a])) r = some (.lst [.ref a]) := upd_same
      generalize upd (upd H1 a (.tup [.str "f", .str x, .int (rs.length : Int)])) r (.lst [.ref a]) = H2 at s2 dh e0
      refine gname (seq_any ?_)
      have put : ∀ {H3 : Hp} {o : HO}, Same H H3 → Same H (upd H3 r o) := fun {H3 o} s b u e => by rw [upd_ne (ne_of_none e nr0)]; exact s b u e
      have tl := fun i => hfl i
      refine ⟨_, rfl, p, rfl, ⟨_, same_sqT s2 hp⟩, for_tup (K := K) (a := p) (xs := rs) (fun i σ H' => ∃ (v3 : Option V) (ys : List V), σ = [some (.str x), some (.ref p), some (.ref r), v3] ∧ Same H H' ∧ H' r = some (.lst (.ref a :: ys)) ∧ Dp K H' (.ref a) (.tuple [.str "f", .str x, .int (ds.length : Int)]) ∧ DpAll K H ys ((ds.take i).flatMap elems) ∧ (ds.take i).all isTerm = true)
        ⟨none, [], rfl, s2, e0, dh, .nil, rfl⟩ (fun i σ H' _ ⟨_, _, _, s, _⟩ => same_sqT s hp) ?_ ?_⟩
      · rintro i z σ H3 hi ⟨v3, ys, rfl, s3, h1, h2, h3, h4⟩
        obtain ⟨d, hd, dz0⟩ := DpAll.getV hR hi
        have dz := dp_same s3 _ _ dz0
        have htk : ds.take (i + 1) = ds.take i ++ [d] := by rw [List.take_add_one, hd]; rfl
        have hdm := List.mem_of_getElem? hd
        refine gname (seq_ifN ?_)
        refine ⟨_, rfl, z, d, rfl, dz, hok d hdm, fun H4 s4 => ⟨_, rfl, ?_⟩⟩
        cases ht : isTerm d with
        | false =>
          exact iteT (q2 (by
            rw [cG]
            intro hall
            have hall : (ds.all isTerm) = true := hall
            rw [List.all_eq_true.mp hall d hdm] at ht
            cases ht) H4 (s3.trans s4))
        | true =>
          obtain ⟨es, rfl⟩ : ∃ es, d = .tuple es := by cases d <;> first | exact ⟨_, rfl⟩ | cases ht
          have dz4 := dp_same s4 _ _ dz
          cases id dz0 with
          | @tup c2 ws _ hw0 aw =>
          have hw := same_sqT (s3.trans s4) hw0
          have h5 := s4 _ _ h1
          have hyl := DpAll.len h3
          have hwl := DpAll.len aw
          have b0 := hfl i
          have b1 := hfl (i + 1)
          rw [htk, List.flatMap_append, List.length_append] at b1
          have b2 : ([PyData.tuple es].flatMap elems).length = es.length := by rw [List.flatMap_cons, List.flatMap_nil, List.append_nil]; rfl
          refine iteF ⟨_, rfl, .inl ⟨rfl, _, SqL.of h5⟩, _, rfl, _, _, _, _, rfl, rfl, h5, hw, small_of (by rw [List.length_cons]; omega), ?_⟩
          have n4 : notTup H4 r := .inl ⟨_, h5⟩
          have s4' := s3.trans s4
          refine ⟨_, ys ++ ws, rfl, put s4', by rw [upd_same]; rfl, dp_put n4 _ _ (by simp [noL, noLA]) (dp_same s4 _ _ h2), ?_, ?_⟩
          · rw [htk, List.flatMap_append]
            refine DpAll.app h3 ?_
            rw [List.flatMap_cons, List.flatMap_nil, List.append_nil]
            exact aw
          · rw [htk, List.all_append, h4, List.all_cons, ht]
            rfl
      · rintro σ H3 ⟨v3, ys, rfl, s3, h1, h2, h3, h4⟩
        rw [hrl, List.take_length] at h3 h4
        refine nxp ?_
        refine ⟨_, rfl, _, _, rfl, .inl ⟨SqL.of h1, fun u nu => ?_⟩⟩
        have su := same_upd (o := .tup (.ref a :: ys)) nu
        exact q1 (by rw [cG, h4]; rfl) _ _ (s3.trans su) (.tup (SqT.of upd_same) (.cons (dp_same su _ _ h2) (dp_sameAll (s3.trans su) _ _ h3)))

theorem ok__law_compound {f : Addr} {fd : FuncData} (F : Fun K "_law_compound" "_law_compound" s__law_compound f fd) (E : Bi K mg) (D_compound : HasR P w K mg base 5 "compound" 1 (sp_compound K)) : FnOk P w K mg base (L2.CX P w) 6 f fd ["name", "rows"] (sp__law_compound K) := by
  obtain ⟨f_compound, G_compound, g_compound, kp_compound⟩ := D_compound
  refine F.okX sc__law_compound (fun vs H Q E h => ?_) (fun cdv A outer s H vs Q E' hr h => ?_)
  · obtain ⟨x, r, rs, ds, rfl, _⟩ := h
    rfl
  · obtain ⟨x, r, rs, ds, rfl, hx, hr0, hR, q1, q2⟩ := h
    refine ⟨_, (pss_cons (ps_set (i := 2) sc__law_compound.nd rfl (Or.inl rfl) (pe_callB call_len_seq (by rfl) E.b_len PySem.boot_len (pa_cons (pv 1) pa_nil)))
      (pss_cons (ps_if (pt_cmpR op_lt (pv 2) pe_int (nomark _)) (pss_cons (ps_if (pt_cmpR op_eq (pv 2) pe_int (nomark _)) (pss_one (ps_ret (pe_callRS G_compound (hr.mono (by decide)) (by rfl) g_compound kp_compound (fun σ => passAt (takes_of rfl rfl rfl rfl) σ) (pa_cons (pv 0) pa_nil)))) pss_nil)
      (pss_cons (ps_if (pt_cmpR op_eq (pv 2) pe_int (nomark _)) (pss_one (ps_ret (pe_callRS G_compound (hr.mono (by decide)) (by rfl) g_compound kp_compound (fun σ => passAt (takes_of rfl rfl rfl rfl) σ) (pa_cons (pv 0) (pa_cons (pe_ix ix_list (pv 1) pe_int (fun _ _ => rfl)) pa_nil))))) pss_nil)
      (pss_one (ps_ret (pe_callRS G_compound (hr.mono (by decide)) (by rfl) g_compound kp_compound (fun σ => passAt (takes_of rfl rfl rfl rfl) σ) (pa_cons (pv 0) (pa_cons (pe_ix ix_list (pv 1) pe_int (fun _ _ => rfl)) (pa_cons (pe_ix ix_list (pv 1) pe_int (fun _ _ => rfl)) pa_nil)))))))) pss_nil)
      (pss_cons (ps_asg (pe_slice sl_list (pv 1) po_none (po_some pe_int)) (pg_lst rfl (pgs_cons (pg_name (i := 3) sc__law_compound.nd rfl (Or.inl rfl)) (pgs_cons (pg_name (i := 4) sc__law_compound.nd rfl (Or.inl rfl)) (pgs_cons (pg_name (i := 5) sc__law_compound.nd rfl (Or.inl rfl)) pgs_nil)))))
      (pss_cons (ps_if (pt_cmpR op_eq (pv 2) pe_int (nomark _)) (pss_one (ps_ret (pe_callRS G_compound (hr.mono (by decide)) (by rfl) g_compound kp_compound (fun σ => passAt (takes_of rfl rfl rfl rfl) σ) (pa_cons (pv 0) (pa_cons (pv 3) (pa_cons (pv 4) (pa_cons (pv 5) pa_nil))))))) pss_nil)
      (pss_cons (ps_if (pt_cmpR op_eq (pv 2) pe_int (nomark _)) (pss_one (ps_ret (pe_callRS G_compound (hr.mono (by decide)) (by rfl) g_compound kp_compound (fun σ => passAt (takes_of rfl rfl rfl rfl) σ) (pa_cons (pv 0) (pa_cons (pv 3) (pa_cons (pv 4) (pa_cons (pv 5) (pa_cons (pe_ix ix_list (pv 1) pe_int (fun _ _ => rfl)) pa_nil)))))))) pss_nil)
      (pss_cons (ps_if (pt_cmpR op_eq (pv 2) pe_int (nomark _)) (pss_one (ps_ret (pe_callRS G_compound (hr.mono (by decide)) (by rfl) g_compound kp_compound (fun σ => passAt (takes_of rfl rfl rfl rfl) σ) (pa_cons (pv 0) (pa_cons (pv 3) (pa_cons (pv 4) (pa_cons (pv 5) (pa_cons (pe_ix ix_list (pv 1) pe_int (fun _ _ => rfl)) (pa_cons (pe_ix ix_list (pv 1) pe_int (fun _ _ => rfl)) pa_nil))))))))) pss_nil)
      (pss_cons (ps_if (pt_cmpR op_eq (pv 2) pe_int (nomark _)) (pss_one (ps_ret (pe_callRS G_compound (hr.mono (by decide)) (by rfl) g_compound kp_compound (fun σ => passAt (takes_of rfl rfl rfl rfl) σ) (pa_cons (pv 0) (pa_cons (pv 3) (pa_cons (pv 4) (pa_cons (pv 5) (pa_cons (pe_ix ix_list (pv 1) pe_int (fun _ _ => rfl)) (pa_cons (pe_ix ix_list (pv 1) pe_int (fun _ _ => rfl)) (pa_cons (pe_ix ix_list (pv 1) pe_int (fun _ _ => rfl)) pa_nil)))))))))) pss_nil)
      (pss_cons (ps_if (pt_cmpR op_eq (pv 2) pe_int (nomark _)) (pss_one (ps_ret (pe_callRS G_compound (hr.mono (by decide)) (by rfl) g_compound kp_compound (fun σ => passAt (takes_of rfl rfl rfl rfl) σ) (pa_cons (pv 0) (pa_cons (pv 3) (pa_cons (pv 4) (pa_cons (pv 5) (pa_cons (pe_ix ix_list (pv 1) pe_int (fun _ _ => rfl)) (pa_cons (pe_ix ix_list (pv 1) pe_int (fun _ _ => rfl)) (pa_cons (pe_ix ix_list (pv 1) pe_int (fun _ _ => rfl)) (pa_cons (pe_ix ix_list (pv 1) pe_int (fun _ _ => rfl)) pa_nil))))))))))) pss_nil)
      (pss_cons (ps_if (pt_cmpR op_eq (pv 2) pe_int (nomark _)) (pss_one (ps_ret (pe_callRS G_compound (hr.mono (by decide)) (by rfl) g_compound kp_compound (fun σ => passAt (takes_of rfl rfl rfl rfl) σ) (pa_cons (pv 0) (pa_cons (pv 3) (pa_cons (pv 4) (pa_cons (pv 5) (pa_cons (pe_ix ix_list (pv 1) pe_int (fun _ _ => rfl)) (pa_cons (pe_ix ix_list (pv 1) pe_int (fun _ _ => rfl)) (pa_cons (pe_ix ix_list (pv 1) pe_int (fun _ _ => rfl)) (pa_cons (pe_ix ix_list (pv 1) pe_int (fun _ _ => rfl)) (pa_cons (pe_ix ix_list (pv 1) pe_int (fun _ _ => rfl)) pa_nil)))))))))))) pss_nil)
      (pss_one (ps_ret (pe_callRS G_compound (hr.mono (by decide)) (by rfl) g_compound kp_compound (fun σ => passAt (takes_of rfl rfl rfl rfl) σ) (pa_cons (pv 0) (pa_cons (pv 3) (pa_cons (pv 4) (pa_cons (pv 5) (pa_cons (pe_ix ix_list (pv 1) pe_int (fun _ _ => rfl)) (pa_cons (pe_ix ix_list (pv 1) pe_int (fun _ _ => rfl)) (pa_cons (pe_ix ix_list (pv 1) pe_int (fun _ _ => rfl)) (pa_cons (pe_ix ix_list (pv 1) pe_int (fun _ _ => rfl)) (pa_cons (pe_ix ix_list (pv 1) pe_int (fun _ _ => rfl)) (pa_cons (pe_ix ix_list (pv 1) pe_int (fun _ _ => rfl)) pa_nil)))))))))))))))))))))), ?_⟩
    have hl9 := hR.2.2.1
    have hrl := DpAll.len hR.1
    refine seq_asg ?_
    refine ⟨_, rfl, _, _, rfl, .inl (SqL.of hr0), ?_⟩
    refine gname (seq_ifN ?_)
    have go : ∀ (rest : List V) (H1 : Hp), Same H H1 → rest = rs → starSp 1 (sp_compound K) (V.str x :: rest) H1 Q E' := fun rest H1 s1 e => by
      subst e
      refine ⟨[V.str x], rest, rfl, rfl, small_of (by omega), fun p np => ?_⟩
      have sp := same_upd (o := .tup rest) np
      have s2 := s1.trans sp
      exact ⟨x, p, rest, ds, rfl, hx, SqT.of upd_same, ⟨dp_sameAll s2 _ _ hR.1, hR.2⟩, fun h v H' s d => q1 h v H' (s2.trans s) d, fun h H' s => q2 h H' (s2.trans s)⟩
    rcases rs with _ | ⟨v0, _ | ⟨v1, _ | ⟨v2, _ | ⟨v3, _ | ⟨v4, _ | ⟨v5, _ | ⟨v6, _ | ⟨v7, _ | ⟨v8, _ | ⟨v9, rr⟩⟩⟩⟩⟩⟩⟩⟩⟩⟩
    · exact ⟨_, rfl, _, _, rfl, rfl, _, rfl, ⟨_, rfl, rfl, _, rfl, _, rfl, go [] H (Same.refl H) rfl⟩⟩
    · refine ⟨_, rfl, _, _, rfl, rfl, _, rfl, ?_⟩
      refine iteT (seq_ifN ?_)
      refine ⟨_, rfl, rfl, _, rfl, iteF (seq_ifN ?_)⟩
      refine ⟨_, rfl, rfl, _, rfl, iteT ?_⟩
      exact ⟨_, rfl, _, rfl, _, _, _, _, rfl, rfl, SqL.of hr0, rfl, go _ H (Same.refl H) rfl⟩
    · refine ⟨_, rfl, _, _, rfl, rfl, _, rfl, ?_⟩
      refine iteT (seq_ifN ?_)
      refine ⟨_, rfl, rfl, _, rfl, iteF (seq_ifN ?_)⟩
      refine ⟨_, rfl, rfl, _, rfl, iteF ?_⟩
      exact ⟨_, rfl, _, rfl, _, _, _, _, rfl, rfl, SqL.of hr0, rfl, _, rfl, _, _, _, _, rfl, rfl, SqL.of hr0, rfl, go _ H (Same.refl H) rfl⟩
    · refine ⟨_, rfl, _, _, rfl, rfl, _, rfl, ?_⟩
      refine iteF (seq_asg ?_)
      refine ⟨_, rfl, nopart_of ⟨_, rfl, r, _, rfl, SqL.of hr0, fun u nu => ?_⟩⟩
      have s1 := same_upd (o := .lst [v0, v1, v2]) nu
      refine ⟨u, _, rfl, SqL.of (upd_same (H := H) (a := u) (o := .lst [v0, v1, v2])), rfl, _, _, rfl, gname ⟨_, _, rfl, gname ⟨_, [], rfl, gname ⟨rfl, ?_⟩⟩⟩⟩
      refine seq_ifN ?_
      refine ⟨_, rfl, rfl, _, rfl, iteT ?_⟩
      exact ⟨_, rfl, _, rfl, _, rfl, _, rfl, go _ _ s1 rfl⟩
    · refine ⟨_, rfl, _, _, rfl, rfl, _, rfl, ?_⟩
      refine iteF (seq_asg ?_)
      refine ⟨_, rfl, nopart_of ⟨_, rfl, r, _, rfl, SqL.of hr0, fun u nu => ?_⟩⟩
      have s1 := same_upd (o := .lst [v0, v1, v2]) nu
      refine ⟨u, _, rfl, SqL.of (upd_same (H := H) (a := u) (o := .lst [v0, v1, v2])), rfl, _, _, rfl, gname ⟨_, _, rfl, gname ⟨_, [], rfl, gname ⟨rfl, ?_⟩⟩⟩⟩
      refine seq_ifN ?_
      refine ⟨_, rfl, rfl, _, rfl, iteF ?_⟩
      refine seq_ifN ?_
      refine ⟨_, rfl, rfl, _, rfl, iteT ?_⟩
      exact ⟨_, rfl, _, rfl, _, rfl, _, rfl, _, rfl, _, _, _, _, rfl, rfl, SqL.of (s1 _ _ hr0), rfl, go _ _ s1 rfl⟩
    · refine ⟨_, rfl, _, _, rfl, rfl, _, rfl, ?_⟩
      refine iteF (seq_asg ?_)
      refine ⟨_, rfl, nopart_of ⟨_, rfl, r, _, rfl, SqL.of hr0, fun u nu => ?_⟩⟩
      have s1 := same_upd (o := .lst [v0, v1, v2]) nu
      refine ⟨u, _, rfl, SqL.of (upd_same (H := H) (a := u) (o := .lst [v0, v1, v2])), rfl, _, _, rfl, gname ⟨_, _, rfl, gname ⟨_, [], rfl, gname ⟨rfl, ?_⟩⟩⟩⟩
      refine seq_ifN ?_
      refine ⟨_, rfl, rfl, _, rfl, iteF ?_⟩
      refine seq_ifN ?_
      refine ⟨_, rfl, rfl, _, rfl, iteF ?_⟩
      refine seq_ifN ?_
      refine ⟨_, rfl, rfl, _, rfl, iteT ?_⟩
      exact ⟨_, rfl, _, rfl, _, rfl, _, rfl, _, rfl, _, _, _, _, rfl, rfl, SqL.of (s1 _ _ hr0), rfl, _, rfl, _, _, _, _, rfl, rfl, SqL.of (s1 _ _ hr0), rfl, go _ _ s1 rfl⟩
    · refine ⟨_, rfl, _, _, rfl, rfl, _, rfl, ?_⟩
      refine iteF (seq_asg ?_)
      refine ⟨_, rfl, nopart_of ⟨_, rfl, r, _, rfl, SqL.of hr0, fun u nu => ?_⟩⟩
      have s1 := same_upd (o := .lst [v0, v1, v2]) nu
      refine ⟨u, _, rfl, SqL.of (upd_same (H := H) (a := u) (o := .lst [v0, v1, v2])), rfl, _, _, rfl, gname ⟨_, _, rfl, gname ⟨_, [], rfl, gname ⟨rfl, ?_⟩⟩⟩⟩
      refine seq_ifN ?_
      refine ⟨_, rfl, rfl, _, rfl, iteF ?_⟩
      refine seq_ifN ?_
      refine ⟨_, rfl, rfl, _, rfl, iteF ?_⟩
      refine seq_ifN ?_
      refine ⟨_, rfl, rfl, _, rfl, iteF ?_⟩
      refine seq_ifN ?_
      refine ⟨_, rfl, rfl, _, rfl, iteT ?_⟩
      exact ⟨_, rfl, _, rfl, _, rfl, _, rfl, _, rfl, _, _, _, _, rfl, rfl, SqL.of (s1 _ _ hr0), rfl, _, rfl, _, _, _, _, rfl, rfl, SqL.of (s1 _ _ hr0), rfl, _, rfl, _, _, _, _, rfl, rfl, SqL.of (s1 _ _ hr0), rfl, go _ _ s1 rfl⟩
    · refine ⟨_, rfl, _, _, rfl, rfl, _, rfl, ?_⟩
      refine iteF (seq_asg ?_)
      refine ⟨_, rfl, nopart_of ⟨_, rfl, r, _, rfl, SqL.of hr0, fun u nu => ?_⟩⟩
      have s1 := same_upd (o := .lst [v0, v1, v2]) nu
      refine ⟨u, _, rfl, SqL.of (upd_same (H := H) (a := u) (o := .lst [v0, v1, v2])), rfl, _, _, rfl, gname ⟨_, _, rfl, gname ⟨_, [], rfl, gname ⟨rfl, ?_⟩⟩⟩⟩
      refine seq_ifN ?_
      refine ⟨_, rfl, rfl, _, rfl, iteF ?_⟩
      refine seq_ifN ?_
      refine ⟨_, rfl, rfl, _, rfl, iteF ?_⟩
      refine seq_ifN ?_
      refine ⟨_, rfl, rfl, _, rfl, iteF ?_⟩
      refine seq_ifN ?_
      refine ⟨_, rfl, rfl, _, rfl, iteF ?_⟩
      refine seq_ifN ?_
      refine ⟨_, rfl, rfl, _, rfl, iteT ?_⟩
      exact ⟨_, rfl, _, rfl, _, rfl, _, rfl, _, rfl, _, _, _, _, rfl, rfl, SqL.of (s1 _ _ hr0), rfl, _, rfl, _, _, _, _, rfl, rfl, SqL.of (s1 _ _ hr0), rfl, _, rfl, _, _, _, _, rfl, rfl, SqL.of (s1 _ _ hr0), rfl, _, rfl, _, _, _, _, rfl, rfl, SqL.of (s1 _ _ hr0), rfl, go _ _ s1 rfl⟩
    · refine ⟨_, rfl, _, _, rfl, rfl, _, rfl, ?_⟩
      refine iteF (seq_asg ?_)
      refine ⟨_, rfl, nopart_of ⟨_, rfl, r, _, rfl, SqL.of hr0, fun u nu => ?_⟩⟩
      have s1 := same_upd (o := .lst [v0, v1, v2]) nu
      refine ⟨u, _, rfl, SqL.of (upd_same (H := H) (a := u) (o := .lst [v0, v1, v2])), rfl, _, _, rfl, gname ⟨_, _, rfl, gname ⟨_, [], rfl, gname ⟨rfl, ?_⟩⟩⟩⟩
      refine seq_ifN ?_
      refine ⟨_, rfl, rfl, _, rfl, iteF ?_⟩
      refine seq_ifN ?_
      refine ⟨_, rfl, rfl, _, rfl, iteF ?_⟩
      refine seq_ifN ?_
      refine ⟨_, rfl, rfl, _, rfl, iteF ?_⟩
      refine seq_ifN ?_
      refine ⟨_, rfl, rfl, _, rfl, iteF ?_⟩
      refine seq_ifN ?_
      refine ⟨_, rfl, rfl, _, rfl, iteF ?_⟩
      refine seq_ifN ?_
      refine ⟨_, rfl, rfl, _, rfl, iteT ?_⟩
      exact ⟨_, rfl, _, rfl, _, rfl, _, rfl, _, rfl, _, _, _, _, rfl, rfl, SqL.of (s1 _ _ hr0), rfl, _, rfl, _, _, _, _, rfl, rfl, SqL.of (s1 _ _ hr0), rfl, _, rfl, _, _, _, _, rfl, rfl, SqL.of (s1 _ _ hr0), rfl, _, rfl, _, _, _, _, rfl, rfl, SqL.of (s1 _ _ hr0), rfl, _, rfl, _, _, _, _, rfl, rfl, SqL.of (s1 _ _ hr0), rfl, go _ _ s1 rfl⟩
    · refine ⟨_, rfl, _, _, rfl, rfl, _, rfl, ?_⟩
      refine iteF (seq_asg ?_)
      refine ⟨_, rfl, nopart_of ⟨_, rfl, r, _, rfl, SqL.of hr0, fun u nu => ?_⟩⟩
      have s1 := same_upd (o := .lst [v0, v1, v2]) nu
      refine ⟨u, _, rfl, SqL.of (upd_same (H := H) (a := u) (o := .lst [v0, v1, v2])), rfl, _, _, rfl, gname ⟨_, _, rfl, gname ⟨_, [], rfl, gname ⟨rfl, ?_⟩⟩⟩⟩
      refine seq_ifN ?_
      refine ⟨_, rfl, rfl, _, rfl, iteF ?_⟩
      refine seq_ifN ?_
      refine ⟨_, rfl, rfl, _, rfl, iteF ?_⟩
      refine seq_ifN ?_
      refine ⟨_, rfl, rfl, _, rfl, iteF ?_⟩
      refine seq_ifN ?_
      refine ⟨_, rfl, rfl, _, rfl, iteF ?_⟩
      refine seq_ifN ?_
      refine ⟨_, rfl, rfl, _, rfl, iteF ?_⟩
      refine seq_ifN ?_
      refine ⟨_, rfl, rfl, _, rfl, iteF ?_⟩
      exact ⟨_, rfl, _, rfl, _, rfl, _, rfl, _, rfl, _, _, _, _, rfl, rfl, SqL.of (s1 _ _ hr0), rfl, _, rfl, _, _, _, _, rfl, rfl, SqL.of (s1 _ _ hr0), rfl, _, rfl, _, _, _, _, rfl, rfl, SqL.of (s1 _ _ hr0), rfl, _, rfl, _, _, _, _, rfl, rfl, SqL.of (s1 _ _ hr0), rfl, _, rfl, _, _, _, _, rfl, rfl, SqL.of (s1 _ _ hr0), rfl, _, rfl, _, _, _, _, rfl, rfl, SqL.of (s1 _ _ hr0), rfl, go _ _ s1 rfl⟩
    · exfalso
      simp only [List.length_cons] at hrl
      omega

theorem ok__law_built {f : Addr} {fd : FuncData} (F : Fun K "_law_built" "_law_built" s__law_built f fd) (E : Bi K mg) (D_variable : HasX P w K mg base 2 "variable" ["number"] (sp_variable K)) (D_integer : HasX P w K mg base 3 "integer" ["value"] (sp_integer K)) (D_atom : HasX P w K mg base 2 "atom" ["name"] (sp_atom K)) (D__law_compound : HasX P w K mg base 6 "_law_compound" ["name", "rows"] (sp__law_compound K)) : FnOk P w K mg base CX0 7 f fd ["which", "name", "number", "rows"] (sp__law_built K) := by
  obtain ⟨f_variable, fd_variable, G_variable, g_variable, kp_variable, b_variable⟩ := D_variable
  obtain ⟨f_integer, fd_integer, G_integer, g_integer, kp_integer, b_integer⟩ := D_integer
  obtain ⟨f_atom, fd_atom, G_atom, g_atom, kp_atom, b_atom⟩ := D_atom
  obtain ⟨f__law_compound, fd__law_compound, G__law_compound, g__law_compound, kp__law_compound, b__law_compound⟩ := D__law_compound
  refine F.ok sc__law_built (fun vs H Q E h => ?_) (fun cdv A outer s H vs Q E' hr h => ?_)
  · obtain ⟨w, x, n, r, rs, ds, rfl, _⟩ := h
    rfl
  · obtain ⟨w, x, n, r, rs, ds, rfl, hx, hr0, hR, q⟩ := h
    refine ⟨_, (pss_cons (ps_try_as (i := 4) rfl rfl sc__law_built.nd rfl rfl ⟨rfl, by decide, .inl E.x_BadTerm.gC⟩ takes0 (fun W pn xe tk po => (pss_cons (ps_if (pt_cmpR op_eq (pv 0) pe_int (nomark _)) (pss_one (ps_ret (pe_callS G_variable (hr.mono (by decide)) (by rfl) g_variable kp_variable b_variable (fun σ => passAt tk σ) (pa_cons (pv 2) pa_nil)))) pss_nil)
      (pss_cons (ps_if (pt_cmpR op_eq (pv 0) pe_int (nomark _)) (pss_one (ps_ret (pe_callS G_integer (hr.mono (by decide)) (by rfl) g_integer kp_integer b_integer (fun σ => passAt tk σ) (pa_cons (pv 2) pa_nil)))) pss_nil)
      (pss_cons (ps_if (pt_cmpR op_eq (pv 0) pe_int (nomark _)) (pss_one (ps_ret (pe_callS G_atom (hr.mono (by decide)) (by rfl) g_atom kp_atom b_atom (fun σ => passAt tk σ) (pa_cons (pv 1) pa_nil)))) pss_nil)
      (pss_one (ps_ret (pe_callS G__law_compound (hr.mono (by decide)) (by rfl) g__law_compound kp__law_compound b__law_compound (fun σ => passAt tk σ) (pa_cons (pv 1) (pa_cons (pv 3) pa_nil))))))))) (fun ea oe ecls ed pn hz hf => (pss_under (P := ecls = .ref (clsA K "BadTerm") ∧ ed = Option.none) fun hP => by obtain ⟨hP1, hP2⟩ := hP; subst hP1 hP2; exact (pss_one (ps_if (pw_and (pt_val (pe_callB (call_isE E.k_BadTerm hz hf) (by rfl) E.b_isinstance (by decide +kernel) (pa_cons (pv 4) (pa_cons (pe_gC (by rfl) ⟨_, E.x_HornbookError.gC, relRef _⟩) pa_nil)))) (pw_and1 (pt_val (pe_callB (call_isE E.k_BadTerm hz hf) (by rfl) E.b_isinstance (by decide +kernel) (pa_cons (pv 4) (pa_cons (pe_ty "ValueError" (by rfl) E.b_ValueError (by decide +kernel)) pa_nil)))))).pt (pss_one (ps_ret pe_non)) pss_nil)))))
      (pss_one (ps_ret pe_int))), ?_⟩
    refine seq_any (seq_ifN ?_)
    refine ⟨_, rfl, rfl, _, rfl, ite2 (fun e => ?_) (fun e => ?_)⟩
    · have hw : w = 0 := V.int.inj (of_decide_eq_true e)
      subst hw
      refine ⟨_, rfl, n, rfl, fun h0 v H' s d => ?_, fun h0 H' s => ?_⟩
      · exact q v H' s (by unfold builtD; rw [if_pos rfl, if_pos h0]; exact d)
      · refine ⟨true, E.e_BadTerm_BadTerm, fun _ ea ha => ⟨⟨rfl, rfl⟩, ?_⟩, fun z => nomatch z⟩
        refine ⟨_, rfl, _, _, _, rfl, (fun u ru => ru), E.i_BadTerm_HornbookError, _, rfl, iteT ?_⟩
        refine ⟨_, rfl, _, _, _, rfl, (fun u ru => ru), E.i_BadTerm_ValueError, _, rfl, iteT ?_⟩
        exact q _ H' s (by unfold builtD; rw [if_pos rfl, if_neg h0]; exact .non)
    · have hw : ¬ w = 0 := fun z => e (decide_eq_true (congrArg V.int z))
      refine seq_ifN ?_
      refine ⟨_, rfl, rfl, _, rfl, ite2 (fun e => ?_) (fun e => ?_)⟩
      · have hw1 : w = 1 := V.int.inj (of_decide_eq_true e)
        refine ⟨_, rfl, n, rfl, fun h0 v H' s d => ?_, fun h0 H' s => ?_⟩
        · exact q v H' s (by unfold builtD; rw [if_neg hw, if_pos hw1, if_pos h0]; exact d)
        · refine ⟨true, E.e_BadTerm_BadTerm, fun _ ea ha => ⟨⟨rfl, rfl⟩, ?_⟩, fun z => nomatch z⟩
          refine ⟨_, rfl, _, _, _, rfl, (fun u ru => ru), E.i_BadTerm_HornbookError, _, rfl, iteT ?_⟩
          refine ⟨_, rfl, _, _, _, rfl, (fun u ru => ru), E.i_BadTerm_ValueError, _, rfl, iteT ?_⟩
          exact q _ H' s (by unfold builtD; rw [if_neg hw, if_pos hw1, if_neg h0]; exact .non)
      · have hw1 : ¬ w = 1 := fun z => e (decide_eq_true (congrArg V.int z))
        refine seq_ifN ?_
        refine ⟨_, rfl, rfl, _, rfl, ite2 (fun e => ?_) (fun e => ?_)⟩
        · have hw2 : w = 2 := V.int.inj (of_decide_eq_true e)
          refine ⟨_, rfl, x, rfl, hx, fun h0 v H' s d => ?_, fun h0 H' s => ?_⟩
          · exact q v H' s (by unfold builtD; rw [if_neg hw, if_neg hw1, if_pos hw2, if_pos h0]; exact d)
          · refine ⟨true, E.e_BadTerm_BadTerm, fun _ ea ha => ⟨⟨rfl, rfl⟩, ?_⟩, fun z => nomatch z⟩
            refine ⟨_, rfl, _, _, _, rfl, (fun u ru => ru), E.i_BadTerm_HornbookError, _, rfl, iteT ?_⟩
            refine ⟨_, rfl, _, _, _, rfl, (fun u ru => ru), E.i_BadTerm_ValueError, _, rfl, iteT ?_⟩
            exact q _ H' s (by unfold builtD; rw [if_neg hw, if_neg hw1, if_pos hw2, if_neg h0]; exact .non)
        · have hw2 : ¬ w = 2 := fun z => e (decide_eq_true (congrArg V.int z))
          refine ⟨_, rfl, _, rfl, x, r, rs, ds, rfl, hx, hr0, hR, fun h0 v H' s d => ?_, fun h0 H' s => ?_⟩
          · exact q v H' s (by unfold builtD; rw [if_neg hw, if_neg hw1, if_neg hw2, if_pos h0]; exact d)
          · refine ⟨true, E.e_BadTerm_BadTerm, fun _ ea ha => ⟨⟨rfl, rfl⟩, ?_⟩, fun z => nomatch z⟩
            refine ⟨_, rfl, _, _, _, rfl, (fun u ru => ru), E.i_BadTerm_HornbookError, _, rfl, iteT ?_⟩
            refine ⟨_, rfl, _, _, _, rfl, (fun u ru => ru), E.i_BadTerm_ValueError, _, rfl, iteT ?_⟩
            exact q _ H' s (by unfold builtD; rw [if_neg hw, if_neg hw1, if_neg hw2, if_neg h0]; exact .non)

theorem ok_law {f : Addr} {fd : FuncData} (F : Fun K "law" "law" s_law f fd) (E : Bi K mg) (D__law_stream : Has P w K mg base 1 "_law_stream" ["script"] (sp__law_stream K)) (D__law_draw : Has P w K mg base 1 "_law_draw" ["stream", "many"] (sp__law_draw K)) (D__law_name : Has P w K mg base 2 "_law_name" ["stream"] (sp__law_name K)) (D__law_term : Has P w K mg base 4 "_law_term" ["stream", "size", "widest"] (sp__law_term K)) (D__law_good_name : Has P w K mg base 1 "_law_good_name" ["name"] (sp__law_good_name K)) (D__law_built : Has P w K mg base 7 "_law_built" ["which", "name", "number", "rows"] (sp__law_built K)) (D_is_term : Has P w K mg base 4 "is_term" ["value"] (sp_is_term K)) (D_parts : Has P w K mg base 4 "parts" ["term"] (sp_parts K)) : FnOk P w K mg base CX0 8 f fd ["script"] (sp_law K) := by
  obtain ⟨f__law_stream, fd__law_stream, G__law_stream, g__law_stream, kp__law_stream, b__law_stream⟩ := D__law_stream
  obtain ⟨f__law_draw, fd__law_draw, G__law_draw, g__law_draw, kp__law_draw, b__law_draw⟩ := D__law_draw
  obtain ⟨f__law_name, fd__law_name, G__law_name, g__law_name, kp__law_name, b__law_name⟩ := D__law_name
  obtain ⟨f__law_term, fd__law_term, G__law_term, g__law_term, kp__law_term, b__law_term⟩ := D__law_term
  obtain ⟨f__law_good_name, fd__law_good_name, G__law_good_name, g__law_good_name, kp__law_good_name, b__law_good_name⟩ := D__law_good_name
  obtain ⟨f__law_built, fd__law_built, G__law_built, g__law_built, kp__law_built, b__law_built⟩ := D__law_built
  obtain ⟨f_is_term, fd_is_term, G_is_term, g_is_term, kp_is_term, b_is_term⟩ := D_is_term
  obtain ⟨f_parts, fd_parts, G_parts, g_parts, kp_parts, b_parts⟩ := D_parts
  refine F.ok sc_law (fun vs H Q E h => ?_) (fun cdv A outer s H vs Q E' hr h => ?_)
  · obtain ⟨a, ns, rfl, _⟩ := h
    rfl
  · obtain ⟨a, ns, rfl, hS, hl, q⟩ := h
    have n9 : (2 : Nat) ^ 8 ≤ 2 ^ 9000 := Nat.pow_le_pow_right (by decide) (by decide)
    refine ⟨_, (pss_cons (ps_set (i := 1) sc_law.nd rfl (Or.inr rfl) (pe_call G__law_stream (hr.mono (by decide)) (by rfl) g__law_stream kp__law_stream b__law_stream .nil pass0 (pa_cons (pv 0) pa_nil)))
      (pss_cons (ps_set (i := 2) sc_law.nd rfl (Or.inl rfl) (pe_call G__law_draw (hr.mono (by decide)) (by rfl) g__law_draw kp__law_draw b__law_draw .nil pass0 (pa_cons (pv 1) (pa_cons pe_int pa_nil))))
      (pss_cons (ps_set (i := 3) sc_law.nd rfl (Or.inl rfl) (pe_call G__law_name (hr.mono (by decide)) (by rfl) g__law_name kp__law_name b__law_name .nil pass0 (pa_cons (pv 1) pa_nil)))
      (pss_cons (ps_if (pt_cmpR op_eq (pe_call G__law_draw (hr.mono (by decide)) (by rfl) g__law_draw kp__law_draw b__law_draw .nil pass0 (pa_cons (pv 1) (pa_cons pe_int pa_nil))) pe_int (nomark _)) (pss_one (ps_set (i := 3) sc_law.nd rfl (Or.inl rfl) (pe_op op_mulS (pv 3) (pe_call G__law_draw (hr.mono (by decide)) (by rfl) g__law_draw kp__law_draw b__law_draw .nil pass0 (pa_cons (pv 1) (pa_cons pe_int pa_nil)))))) pss_nil)
      (pss_cons (ps_if (pt_cmpR op_eq (pe_call G__law_draw (hr.mono (by decide)) (by rfl) g__law_draw kp__law_draw b__law_draw .nil pass0 (pa_cons (pv 1) (pa_cons pe_int pa_nil))) pe_int (nomark _)) (pss_one (ps_set (i := 3) sc_law.nd rfl (Or.inl rfl) (pe_op op_add_str (pv 3) pe_str))) pss_nil)
      (pss_cons (ps_set (i := 4) sc_law.nd rfl (Or.inl rfl) (pe_op op_sub (pe_call G__law_draw (hr.mono (by decide)) (by rfl) g__law_draw kp__law_draw b__law_draw .nil pass0 (pa_cons (pv 1) (pa_cons pe_int pa_nil))) pe_int))
      (pss_cons (ps_if (pt_cmpR op_eq (pe_call G__law_draw (hr.mono (by decide)) (by rfl) g__law_draw kp__law_draw b__law_draw .nil pass0 (pa_cons (pv 1) (pa_cons pe_int pa_nil))) pe_int (nomark _)) (pss_cons (ps_set (i := 4) sc_law.nd rfl (Or.inl rfl) (pe_op op_add (pe_op op_sub (pe_op op_pow pe_int pe_int) pe_int) (pe_call G__law_draw (hr.mono (by decide)) (by rfl) g__law_draw kp__law_draw b__law_draw .nil pass0 (pa_cons (pv 1) (pa_cons pe_int pa_nil)))))
      (pss_one (ps_if (pt_cmpR op_eq (pe_call G__law_draw (hr.mono (by decide)) (by rfl) g__law_draw kp__law_draw b__law_draw .nil pass0 (pa_cons (pv 1) (pa_cons pe_int pa_nil))) pe_int (nomark _)) (pss_one (ps_set (i := 4) sc_law.nd rfl (Or.inl rfl) (pe_un un_neg (pv 4)))) pss_nil))) pss_nil)
      (pss_cons (ps_set (i := 5) sc_law.nd rfl (Or.inl rfl) (pe_call G__law_draw (hr.mono (by decide)) (by rfl) g__law_draw kp__law_draw b__law_draw .nil pass0 (pa_cons (pv 1) (pa_cons pe_int pa_nil))))
      (pss_cons (ps_setLc (i := 6) (own := [("k", 7)]) (g := gName 7) (tt := tYes) rfl sc_law.nd rfl rfl (by rfl) (pi_range1 (by rfl) E.b_range (pa_cons (pv 5) pa_nil)) (blkOk_by (N := N_law) (sc := defScope s_law) (by decide +kernel)) (fun _ _ _ _ _ => pg_name (i := 7) sc_law.nd rfl (Or.inl rfl)) (fun _ _ _ _ _ => pts_nil) (fun _ _ _ _ _ => (pe_call G__law_term (hr.mono (by decide)) (by rfl) g__law_term kp__law_term b__law_term .nil pass0 (pa_cons (pv 1) (pa_cons (pe_op op_add pe_int (pe_call G__law_draw (hr.mono (by decide)) (by rfl) g__law_draw kp__law_draw b__law_draw .nil pass0 (pa_cons (pv 1) (pa_cons pe_int pa_nil)))) (pa_cons pe_int pa_nil))))))
      (pss_cons (ps_set (i := 8) sc_law.nd rfl (Or.inl rfl) (pe_chain op_le op_le pe_int (pv 5) pe_int))
      (pss_cons (ps_if (pw_and (pt_cmpR op_gt (pv 5) pe_int (nomark _)) (pw_and1 (pt_cmpR op_eq (pe_call G__law_draw (hr.mono (by decide)) (by rfl) g__law_draw kp__law_draw b__law_draw .nil pass0 (pa_cons (pv 1) (pa_cons pe_int pa_nil))) pe_int (nomark _)))).pt (pss_cons (ps_set (i := 9) sc_law.nd rfl (Or.inl rfl) (pe_lst (pa_cons (pe_tup (pa_cons (pe_tup (pa_cons pe_str (pa_cons pe_str (pa_cons pe_int pa_nil)))) (pa_cons pe_int pa_nil))) (pa_cons (pe_tup (pa_cons pe_int (pa_cons pe_int pa_nil))) (pa_cons (pe_tup (pa_cons (pe_tup (pa_cons pe_int pa_nil)) pa_nil)) (pa_cons (pe_tup (pa_cons (pe_tup (pa_cons pe_str (pa_cons (pe_un un_neg pe_int) pa_nil))) pa_nil)) (pa_cons (pe_tup (pa_cons (pe_op op_pow pe_int pe_int) pa_nil)) (pa_cons pe_int (pa_cons pe_non (pa_cons (pe_tup pa_nil) (pa_cons (pe_lst (pa_cons pe_int pa_nil)) pa_nil)))))))))))
      (pss_cons (ps_asg (pe_ix ix_list (pv 9) (pe_call G__law_draw (hr.mono (by decide)) (by rfl) g__law_draw kp__law_draw b__law_draw .nil pass0 (pa_cons (pv 1) (pa_cons (pe_callB call_len_seq (by rfl) E.b_len PySem.boot_len (pa_cons (pv 9) pa_nil)) pa_nil))) (fun _ _ => rfl)) (pg_sub (pv 6) (pe_call G__law_draw (hr.mono (by decide)) (by rfl) g__law_draw kp__law_draw b__law_draw .nil pass0 (pa_cons (pv 1) (pa_cons (pv 5) pa_nil))) set_list))
      (pss_one (ps_set (i := 8) sc_law.nd rfl (Or.inl rfl) pe_bl)))) pss_nil)
      (pss_cons (ps_set (i := 10) sc_law.nd rfl (Or.inl rfl) pe_non)
      (pss_cons (ps_if (pw_and (pt_cmpR op_eq (pv 2) pe_int (nomark _)) (pw_and1 (pt_cmpR op_ge (pv 4) pe_int (nomark _)))).pt (pss_one (ps_set (i := 10) sc_law.nd rfl (Or.inl rfl) (pe_tup (pa_cons (pe_tup (pa_cons pe_str (pa_cons (pv 4) pa_nil))) pa_nil)))) pss_nil)
      (pss_cons (ps_if (pw_and (pt_cmpR op_eq (pv 2) pe_int (nomark _)) (pw_and1 (pt_chain op_lt op_lt (pe_un un_neg (pe_op op_pow pe_int pe_int)) (pv 4) (pe_op op_pow pe_int pe_int)))).pt (pss_one (ps_set (i := 10) sc_law.nd rfl (Or.inl rfl) (pe_tup (pa_cons (pv 4) pa_nil)))) pss_nil)
      (pss_cons (ps_if (pw_and (pt_cmpR op_eq (pv 2) pe_int (nomark _)) (pw_and1 (pt_val (pe_call G__law_good_name (hr.mono (by decide)) (by rfl) g__law_good_name kp__law_good_name b__law_good_name .nil pass0 (pa_cons (pv 3) pa_nil))))).pt (pss_one (ps_set (i := 10) sc_law.nd rfl (Or.inl rfl) (pe_tup (pa_cons (pe_tup (pa_cons pe_str (pa_cons (pv 3) (pa_cons pe_int pa_nil)))) pa_nil)))) pss_nil)
      (pss_cons (ps_if (pw_and (pt_cmpR op_eq (pv 2) pe_int (nomark _)) (pw_and (pt_val (pe_call G__law_good_name (hr.mono (by decide)) (by rfl) g__law_good_name kp__law_good_name b__law_good_name .nil pass0 (pa_cons (pv 3) pa_nil))) (pw_and1 (pt_val (pv 8))))).pt (pss_cons (ps_set (i := 10) sc_law.nd rfl (Or.inl rfl) (pe_tup (pa_cons (pe_tup (pa_cons pe_str (pa_cons (pv 3) (pa_cons (pv 5) pa_nil)))) pa_nil)))
      (pss_one (ps_for PassesOwn.never rfl (pi_list (pv 6)) (pg_name (i := 11) sc_law.nd rfl (Or.inl rfl)) (pss_one (ps_set (i := 10) sc_law.nd rfl (Or.inl rfl) (pe_op op_catA (pv 10) (pv 11))))))) pss_nil)
      (pss_cons (ps_set (i := 12) sc_law.nd rfl (Or.inl rfl) (pe_call G__law_built (hr.mono (by decide)) (by rfl) g__law_built kp__law_built b__law_built .nil pass0 (pa_cons (pv 2) (pa_cons (pv 3) (pa_cons (pv 4) (pa_cons (pe_callTy call_list_of (by rfl) E.b_list (by decide +kernel) (pa_cons (pv 6) pa_nil)) pa_nil))))))
      (pss_cons (ps_if (pw_or (pt_cmpR (op_neD hr.units) (pv 12) (pv 10) (nomark _)) (pw_or1 (pt_val (pe_callB call_isi (by rfl) E.b_isinstance (by decide +kernel) (pa_cons (pv 12) (pa_cons (pe_ty "int" (by rfl) E.b_int (by decide +kernel)) pa_nil)))))).pt (pss_one (ps_ret pe_bl)) pss_nil)
      (pss_cons (ps_if (pt_cmpR op_isN (pv 10) pe_non (nomark _)) (pss_one (ps_ret pe_bl)) pss_nil)
      (pss_cons (ps_if (pw_or (pt_not (pt_val (pe_call G_is_term (hr.mono (by decide)) (by rfl) g_is_term kp_is_term b_is_term .nil pass0 (pa_cons (pv 10) pa_nil)))) (pw_or (pt_val (pe_call G_is_term (hr.mono (by decide)) (by rfl) g_is_term kp_is_term b_is_term .nil pass0 (pa_cons (pe_op op_catA (pv 10) (pv 10)) pa_nil))) (pw_or (pt_val (pe_call G_is_term (hr.mono (by decide)) (by rfl) g_is_term kp_is_term b_is_term .nil pass0 (pa_cons (pe_callTy call_list_of (by rfl) E.b_list (by decide +kernel) (pa_cons (pv 10) pa_nil)) pa_nil))) (pw_or1 (pw_and (pt_val (pe_call G_is_term (hr.mono (by decide)) (by rfl) g_is_term kp_is_term b_is_term .nil pass0 (pa_cons (pe_slice sl_tupA (pv 10) (po_some pe_int) po_none) pa_nil))) (pw_and1 (pt_cmpR op_lt (pe_callB call_len_seq (by rfl) E.b_len PySem.boot_len (pa_cons (pv 10) pa_nil)) pe_int (nomark _)))).pt)))).pt (pss_one (ps_ret pe_bl)) pss_nil)
      (pss_cons (ps_set (i := 13) sc_law.nd rfl (Or.inl rfl) (pe_call G_parts (hr.mono (by decide)) (by rfl) g_parts kp_parts b_parts .nil pass0 (pa_cons (pv 10) pa_nil)))
      (pss_cons (ps_if (pt_not (pt_val (pe_callB call_isi (by rfl) E.b_isinstance (by decide +kernel) (pa_cons (pv 13) (pa_cons (pe_ty "list" (by rfl) E.b_list (by decide +kernel)) pa_nil))))) (pss_one (ps_ret pe_bl)) pss_nil)
      (pss_cons (ps_if (pt_cmpR op_lt (pv 2) pe_int (nomark _)) (pss_one (ps_ret (pe_cmpR (op_eqD hr.units) (pv 13) (pe_lst pa_nil) (nomark _)))) pss_nil)
      (pss_cons (ps_expr (pe_bm PySem.F.plainAttrs_list PySem.F.slot_list_append PySem.F.type_list_append mt_append (pv 13) (pa_cons (pe_tup (pa_cons pe_int pa_nil)) pa_nil)))
      (pss_one (ps_ret (pe_and (pe_cmpR (op_eqD hr.units) (pe_slice sl_list (pv 13) po_none (po_some (pv 5))) (pv 6) (nomark _)) (pe_one (pe_cmpR (op_eqD hr.units) (pe_call G_parts (hr.mono (by decide)) (by rfl) g_parts kp_parts b_parts .nil pass0 (pa_cons (pv 10) pa_nil)) (pv 6) (nomark _)))))))))))))))))))))))))))))), ?_⟩
    refine seq_asg ?_
    refine ⟨_, rfl, a, ns, rfl, hS, hl, fun s l H1 hs hl1 s1 S1 => ?_⟩
    refine gname (seq_asg ?_)
    refine ⟨_, rfl, s, l, 4, rfl, S1, by decide, Nat.lt_of_lt_of_le (by decide) n9, fun w H2 w0 w1 _ S2 => ?_⟩
    refine gname (seq_asg ?_)
    refine ⟨_, rfl, s, l, rfl, S2, fun x0 H3 ok0 _ S3 => ?_⟩
    obtain ⟨c0, l0⟩ := chars_ok ok0
    -- the name
    refine gname (seq_via (fun σ H' => ∃ x : Str, (x.length ≤ 1760 ∧ Chars x) ∧ σ = [some (.ref a), some (.ref s), some (.int w), some (.str x), none, none, none, none, none, none, none, none, none, none] ∧ Stm H' s l) ?_ ?_)
    rotate_left
    · intro hu
      refine ⟨_, rfl, s, l, 9, rfl, S3, by decide, Nat.lt_of_lt_of_le (by decide) n9, fun z H4 z0 z1 _ S4 => ⟨rfl, _, rfl, ite2 (fun e => ?_) (fun e => ?_)⟩⟩
      · refine ⟨_, rfl, _, rfl, s, l, 45, rfl, S4, by decide, Nat.lt_of_lt_of_le (by decide) n9, fun k H5 k0 k1 _ S5 => ⟨_, _, rfl, rfl, mul_ok l0 k0 k1, ?_⟩⟩
        exact gname (hu _ _ ⟨_, mul_facts l0 c0 k0 k1, rfl, S5⟩)
      · exact hu _ _ ⟨x0, ⟨by omega, c0⟩, rfl, S4⟩
    rintro σ H4 ⟨x1, ⟨lx1, cx1⟩, rfl, S4⟩
    clear S1 S2 S3 c0 l0 ok0
    refine seq_via (fun σ H' => ∃ x : Str, (x.length ≤ 1761 ∧ Chars x) ∧ σ = [some (.ref a), some (.ref s), some (.int w), some (.str x), none, none, none, none, none, none, none, none, none, none] ∧ Stm H' s l) ?_ ?_
    rotate_left
    · intro hu
      refine ⟨_, rfl, s, l, 12, rfl, S4, by decide, Nat.lt_of_lt_of_le (by decide) n9, fun z H5 z0 z1 _ S5 => ⟨rfl, _, rfl, ite2 (fun e => ?_) (fun e => ?_)⟩⟩
      · refine ⟨_, rfl, _, _, rfl, rfl, Nat.le_of_lt (small9k (by rw [show (Str.ofString "\n").length = 1 by decide +kernel]; omega)), ?_⟩
        exact gname (hu _ _ ⟨_, ⟨by rw [len_nl]; omega, chars_nl cx1⟩, rfl, S5⟩)
      · exact hu _ _ ⟨x1, ⟨by omega, cx1⟩, rfl, S5⟩
    rintro σ H5 ⟨x, ⟨lx, cx⟩, rfl, S5⟩
    clear S4 cx1 lx1
    refine seq_asg ?_
    refine ⟨_, rfl, s, l, 7, rfl, S5, by decide, Nat.lt_of_lt_of_le (by decide) n9, fun n0 H6 _ _ _ S6 => ⟨_, _, rfl, rfl, ?_⟩⟩
    refine gname (seq_via (fun σ H' => ∃ n : Int, σ = [some (.ref a), some (.ref s), some (.int w), some (.str x), some (.int n), none, none, none, none, none, none, none, none, none] ∧ Stm H' s l) ?_ ?_)
    rotate_left
    · intro hu
      refine ⟨_, rfl, s, l, 4, rfl, S6, by decide, Nat.lt_of_lt_of_le (by decide) n9, fun z H7 z0 z1 _ S7 => ⟨rfl, _, rfl, ite2 (fun e => ?_) (fun e => ?_)⟩⟩
      · refine seq_asg ?_
        refine ⟨_, _, rfl, rfl, ⟨by decide, by decide, by decide⟩, _, _, rfl, rfl, _, rfl, s, l, 3, rfl, S7, by decide, Nat.lt_of_lt_of_le (by decide) n9, fun y H8 _ _ _ S8 => ⟨_, _, rfl, rfl, ?_⟩⟩
        refine gname ?_
        refine ⟨_, rfl, s, l, 2, rfl, S8, by decide, Nat.lt_of_lt_of_le (by decide) n9, fun z2 H9 _ _ _ S9 => ⟨rfl, _, rfl, ite2 (fun e => ?_) (fun e => ?_)⟩⟩
        · exact ⟨_, rfl, _, rfl, gname (hu _ _ ⟨_, rfl, S9⟩)⟩
        · exact hu _ _ ⟨_, rfl, S9⟩
      · exact hu _ _ ⟨_, rfl, S7⟩
    rintro σ H7 ⟨n, rfl, S7⟩
    clear S5 S6
    refine seq_asg ?_
    refine ⟨_, rfl, s, l, 10, rfl, S7, by decide, Nat.lt_of_lt_of_le (by decide) n9, fun m H8 m0 m1 _ S8 => ?_⟩
    refine gname (seq_asg ?_)
    refine ⟨_, rfl, m, rfl, by omega, by omega, fun D hD => ?_⟩
    obtain ⟨os3, hos3⟩ := S8.at_s
    obtain ⟨ol3, hol3⟩ := S8.at_l
    have sD : s ≠ D := ne_of_none hos3 hD
    have lD : l ≠ D := ne_of_none hol3 hD
    refine lc_range (fun i H' => ∃ (xs : List V) (rs : List (List PyData)), H' D = some (.lst xs) ∧ ImAll K (fun b => b ≠ s ∧ b ≠ D) H' xs (rs.map PyData.tuple) ∧ (∀ ds ∈ rs, (Cls 1 ds ∧ (∀ d ∈ ds, NdA d)) ∧ ds.length ≤ 9) ∧ xs.length = i ∧ rs.length = i ∧ Stm H' s l)
      ⟨[], [], upd_same, .nil, (fun q hq => nomatch hq), rfl, rfl, S8.put sD lD⟩ ?_ ?_
    · rintro i H4 hi ⟨xs, rs, h1, h2, h3, h4, h4', h5⟩
      refine ⟨rfl, _, rfl, _, rfl, s, l, 9, rfl, h5, by decide, Nat.lt_of_lt_of_le (by decide) n9, fun k H5 n0 n1 b5 S5 => ⟨_, _, rfl, rfl, ?_⟩⟩
      refine ⟨s, l, 1 + k, 3, rfl, S5, by omega, by omega, by decide, by decide, fun v ds H6 ht hlen b6 S6 iv => ?_⟩
      have bb := b5.trans b6
      have e6 : H6 D = some (.lst xs) := bb _ _ sD.symm h1
      have k6 : ∀ b o, (b ≠ s ∧ b ≠ D) → H6 b = some o → (upd H6 D (.lst (xs ++ [v]))) b = some o := fun b o hb e => by rw [upd_ne hb.2]; exact e
      refine ⟨xs, e6, Nat.lt_of_le_of_lt (show xs.length ≤ 1000 by omega) (by decide), xs ++ [v], rs ++ [ds], upd_same, ?_, fun ds' hd' => ?_, by rw [List.length_append, h4]; rfl, by rw [List.length_append, h4']; rfl, S6.put sD lD⟩
      · rw [List.map_append]
        refine ImAll.snoc (Im.monoAll (fun b o g x => k6 b o g (bb b o g.1 x)) (fun _ g => g) _ _ h2) (Im.mono (fun b o g e => k6 b o g e) (fun _ g => g) _ _ (Im.mono (G' := fun b => b ≠ s ∧ b ≠ D) (fun _ _ _ e => e) (fun b g => ?_) _ _ iv))
        obtain ⟨o5, ho5⟩ := S5.at_s
        exact ⟨(fun z => by rw [z, ho5] at g; cases g), (fun z => by rw [z, b5 _ _ sD.symm h1] at g; cases g)⟩
      · rcases List.mem_append.mp hd' with z | z
        · exact h3 _ z
        · rw [List.mem_singleton.mp z]
          exact ⟨⟨ht.cl, fun d hd => ⟨3, ht.nd d hd⟩⟩, by omega⟩
    rintro H9 ⟨xs, rs, h1, h2, h3, h4, h4', h5⟩
    clear S7 S8 hos3 hol3 hD
    refine gname ?_
    have hmm : (rs.length : Int) = m := by omega
    have hrow : ∀ row ∈ rs, Cls 1 row ∧ ∀ d ∈ row, NdA d := fun r hr => (h3 r hr).1
    have RG : RowsG m (decide (1 ≤ m) && decide (m ≤ 8)) (rs.map PyData.tuple) := by
      refine ⟨by rw [List.length_map]; exact hmm, fun d hd es he e hes => ?_, fun d hd => ?_, by omega, fun hg => ?_, fun hg y => ?_⟩
      · obtain ⟨row, hr, rfl⟩ := List.mem_map.mp hd
        cases he
        exact nd_okD ((hrow _ hr).2 e hes)
      · obtain ⟨row, hr, rfl⟩ := List.mem_map.mp hd
        exact (h3 row hr).2
      · rw [Bool.and_eq_true, decide_eq_true_eq, decide_eq_true_eq] at hg
        exact ⟨hg, rs, rfl, hrow⟩
      · show (isName (.str y) && (decide ((1 : Int) ≤ ((rs.map PyData.tuple).length : Int)) && decide (((rs.map PyData.tuple).length : Int) ≤ 8)) && (rs.map PyData.tuple).all isTerm) = false
        rw [List.length_map, hmm, hg, Bool.and_false, Bool.false_and]
    generalize hgg : (decide (1 ≤ m) && decide (m ≤ 8)) = g0 at RG
    refine seq_via (fun σ H' => (∃ v7, σ = [some (.ref a), some (.ref s), some (.int w), some (.str x), some (.int n), some (.int m), some (.ref D), v7, some (.bl g0), none, none, none, none, none]) ∧ H9 = H') ?_ ?_
    rotate_left
    · intro hu
      refine ⟨_, rfl, _, _, rfl, rfl, _, rfl, ite2 (fun e => ⟨_, _, rfl, rfl, ?_⟩) (fun e => ?_)⟩
      · rw [e, Bool.true_and] at hgg
        refine gname (hu _ _ ⟨⟨none, ?_⟩, rfl⟩)
        rw [← hgg]
        rfl
      · rw [Bool.eq_false_iff.mpr e, Bool.false_and] at hgg
        refine gname (hu _ _ ⟨⟨none, ?_⟩, rfl⟩)
        rw [← hgg]
        rfl
    rintro _ _ ⟨⟨v7, rfl⟩, rfl⟩
    refine seq_via (fun σ H' => ∃ (v7 v9 : Option V) (g : Bool) (xs : List V) (ds : List PyData), σ = [some (.ref a), some (.ref s), some (.int w), some (.str x), some (.int n), some (.int m), some (.ref D), v7, some (.bl g), v9, none, none, none, none] ∧ H' D = some (.lst xs) ∧ DpAll K H' xs ds ∧ RowsG m g ds) ?_ ?_
    rotate_left
    · intro hu
      have noB : ∀ H', But s H' H' → ∀ H10, But s H9 H10 → ∃ (v7' v9 : Option V) (g : Bool) (xs : List V) (ds : List PyData), [some (V.ref a), some (.ref s), some (.int w), some (.str x), some (.int n), some (.int m), some (.ref D), v7, some (.bl g0), none, none, none, none, none] = [some (.ref a), some (.ref s), some (.int w), some (.str x), some (.int n), some (.int m), some (.ref D), v7', some (.bl g), v9, none, none, none, none] ∧ H10 D = some (.lst xs) ∧ DpAll K H10 xs ds ∧ RowsG m g ds := fun _ _ H10 b => ⟨_, _, _, xs, _, rfl, b _ _ sD.symm h1, Im.dpAll _ _ (Im.monoAll (fun c o g e => b c o g.1 e) (fun _ g => g) _ _ h2), RG⟩
      refine ⟨_, rfl, _, _, rfl, rfl, _, rfl, ite2 (fun e => ?_) (fun e => hu _ _ (noB H9 (But.refl _ _) H9 (But.refl _ _)))⟩
      have hmpos : 0 < m := of_decide_eq_true e
      refine ⟨_, rfl, s, l, 8, rfl, h5, by decide, Nat.lt_of_lt_of_le (by decide) n9, fun z H10 z0 z1 b10 S10 => ⟨rfl, _, rfl, ite2 (fun e => ?_) (fun e => hu _ _ (noB H9 (But.refl _ _) H10 b10))⟩⟩
      have i10 := Im.monoAll (fun c o (g : c ≠ s ∧ c ≠ D) e => b10 c o g.1 e) (fun _ g => g) _ _ h2
      have e10 := b10 _ _ sD.symm h1
      refine seq_asg ?_
      refine lit_lst (K := K) (ds := bads) ?_ (by decide) H10 _ fun v0 H0 t0 i0 => ?_
      · unfold bads
        walk_at "lits"
      unfold bads at i0
      cases i0 with
      | @lst p0 xs0 _ g0' e0 a0 =>
      have e0D := t0 _ _ e10
      have S0 := S10.keep t0
      obtain ⟨os0, hos0⟩ := S10.at_s
      have np0 : p0 ≠ s := fun z => by rw [z, hos0] at g0'; cases g0'
      refine gname (seq_asg ?_)
      have hxl0 : xs0.length = 9 := (ImAll.len a0).trans rfl
      refine ⟨_, rfl, _, rfl, _, rfl, _, _, rfl, .inl (SqL.of e0), s, l, _, rfl, S0, by rw [hxl0]; decide, Nat.lt_of_lt_of_le (by rw [hxl0]; decide) n9, fun i H11 i0 i1 b11 S11 => ?_⟩
      obtain ⟨v, hv, iv⟩ := ImAll.get a0 (i := i.toNat) (d := bads[i.toNat]'(by show i.toNat < 9; omega)) (List.getElem?_eq_getElem _)
      have hbm : bads[i.toNat]'(by show i.toNat < 9; omega) ∈ bads := List.getElem_mem _
      generalize bads[i.toNat]'(by show i.toNat < 9; omega) = bd at iv hbm
      obtain ⟨bd1, bd2, bd3⟩ := bad_facts hbm
      refine ⟨_, _, _, _, rfl, rfl, SqL.of (b11 _ _ np0 e0), at_of (j := i.toNat) (by omega) hv, ?_⟩
      refine ⟨_, rfl, _, rfl, _, rfl, s, l, m, rfl, S11, by omega, Nat.lt_of_lt_of_le (show _ < 2 ^ 8 from by omega) n9, fun y H12 y0 y1 b12 S12 => ?_⟩
      have k12 : ∀ b o, b ≠ s → b ≠ D → H10 b = some o → (upd H12 D (.lst (xs.set y.toNat v))) b = some o := fun b o hb hd e => by
        rw [upd_ne hd]
        exact b12 _ _ hb (b11 _ _ hb (t0 _ _ e))
      refine ⟨D, xs, y, y.toNat, rfl, rfl, b12 _ _ sD.symm (b11 _ _ sD.symm e0D), ix_at y0 (by omega), ?_⟩
      refine asg1 (gname (hu _ _ ⟨_, _, false, xs.set y.toNat v, (rs.map PyData.tuple).set y.toNat bd, rfl, upd_same, dp_set ?_ ?_, rows_bad RG (by rw [List.length_map]; omega) hbm⟩))
      · exact Im.dpAll _ _ (Im.monoAll (fun c o (g : c ≠ s ∧ c ≠ D) e => k12 c o g.1 g.2 e) (fun _ g => g) _ _ i10)
      · refine Im.dp _ _ (Im.mono (fun c o g e => ?_) (fun _ g => g) _ _ iv)
        have cs : c ≠ s := fun z => by rw [z, hos0] at g; cases g
        have cD : c ≠ D := fun z => by rw [z, e10] at g; cases g
        rw [upd_ne cD]
        exact b12 _ _ cs (b11 _ _ cs e)
    rintro σ H10 ⟨v7', v9, g, xs', ds, rfl, eD, dD, RG'⟩
    clear RG hrow hmm h1 h2 h3 h4 h4' h5
    refine seq_asg (gname ?_)
    have bigS : 3 ≤ sizeLine := by decide
    refine seq_via (fun σ H' => ∃ dv, σ = [some (.ref a), some (.ref s), some (.int w), some (.str x), some (.int n), some (.int m), some (.ref D), v7', some (.bl g), v9, some dv, none, none, none] ∧ Same H10 H' ∧ Dp K H' dv (d1 w n)) ?_ ?_
    rotate_left
    · intro hu
      refine ⟨_, rfl, rfl, _, rfl, ite2 (fun e => ?_) (fun e => ?_)⟩
      · have hw : w = 0 := V.int.inj (of_decide_eq_true e)
        refine ⟨_, rfl, _, _, rfl, rfl, _, rfl, ite2 (fun e => ?_) (fun e => ?_)⟩
        · refine asg1 ⟨_, rfl, (by show 2 ≤ sizeLine; decide), fun p np => ⟨(by show 1 ≤ sizeLine; decide), fun p2 np2 => ?_⟩⟩
          have sa := same_upd (o := .tup [.str "v", .int n]) np
          have sb := same_upd (o := .tup [.ref p]) np2
          refine gname (hu _ _ ⟨_, rfl, sa.trans sb, ?_⟩)
          unfold d1
          rw [if_pos hw, if_pos (of_decide_eq_true e)]
          exact .tup (SqT.of upd_same) (.cons (.tup (SqT.of (sb _ _ upd_same)) (.cons (.str _) (.cons (.int _) .nil))) .nil)
        · refine hu _ _ ⟨_, rfl, Same.refl _, ?_⟩
          unfold d1
          rw [if_pos hw, if_neg (fun z => e (decide_eq_true z))]
          exact .non
      · refine hu _ _ ⟨_, rfl, Same.refl _, ?_⟩
        unfold d1
        rw [if_neg (fun z => e (decide_eq_true (congrArg V.int z)))]
        exact .non
    rintro σ H11 ⟨dv, rfl, s11, dd1⟩
    refine seq_via (fun σ H' => ∃ dv, σ = [some (.ref a), some (.ref s), some (.int w), some (.str x), some (.int n), some (.int m), some (.ref D), v7', some (.bl g), v9, some dv, none, none, none] ∧ Same H10 H' ∧ Dp K H' dv (d2 w n)) ?_ ?_
    rotate_left
    · intro hu
      refine ⟨_, rfl, rfl, _, rfl, ite2 (fun e => ?_) (fun e => ?_)⟩
      · have hw : w = 1 := V.int.inj (of_decide_eq_true e)
        have no : isBounded (.int n) = false → ∃ dv', [some (V.ref a), some (.ref s), some (.int w), some (.str x), some (.int n), some (.int m), some (.ref D), v7', some (.bl g), v9, some dv, none, none, none] = [some (.ref a), some (.ref s), some (.int w), some (.str x), some (.int n), some (.int m), some (.ref D), v7', some (.bl g), v9, some dv', none, none, none] ∧ Same H10 H11 ∧ Dp K H11 dv' (d2 w n) := fun hb => by
          refine ⟨_, rfl, s11, ?_⟩
          unfold d2
          rw [if_pos hw, hb, if_neg Bool.false_ne_true]
          have e1 : d1 w n = .none := by unfold d1; rw [if_neg (by omega)]
          rw [e1] at dd1
          exact dd1
        refine ⟨_, _, rfl, rfl, ⟨by decide, by decide, by decide⟩, _, rfl, _, rfl, _, _, rfl, rfl, _, rfl, ite2 (fun e2 => ?_) (fun e2 => ?_)⟩
        · refine ⟨_, _, rfl, rfl, ⟨by decide, by decide, by decide⟩, _, _, rfl, rfl, _, rfl, ite2 (fun e3 => ?_) (fun e3 => ?_)⟩
          · refine asg1 ⟨_, rfl, (by show 1 ≤ sizeLine; decide), fun p np => ?_⟩
            have sa := same_upd (o := .tup [.int n]) np
            refine gname (hu _ _ ⟨_, rfl, s11.trans sa, ?_⟩)
            unfold d2
            rw [if_pos hw, bnd n, e2, e3, Bool.true_and, if_pos rfl]
            exact .tup (SqT.of upd_same) (.cons (.int _) .nil)
          · exact hu _ _ (no (by rw [bnd n, Bool.eq_false_iff.mpr e3, Bool.and_false]))
        · exact ⟨_, rfl, iteF (hu _ _ (no (by rw [bnd n, Bool.eq_false_iff.mpr e2, Bool.false_and])))⟩
      · refine hu _ _ ⟨_, rfl, s11, ?_⟩
        unfold d2
        rw [if_neg (fun z => e (decide_eq_true (congrArg V.int z)))]
        exact dd1
    clear dd1 s11
    rintro σ H12 ⟨dv, rfl, s12, dd2⟩
    refine seq_via (fun σ H' => ∃ dv, σ = [some (.ref a), some (.ref s), some (.int w), some (.str x), some (.int n), some (.int m), some (.ref D), v7', some (.bl g), v9, some dv, none, none, none] ∧ Same H10 H' ∧ Dp K H' dv (d3 w x n)) ?_ ?_
    rotate_left
    · intro hu
      refine ⟨_, rfl, rfl, _, rfl, ite2 (fun e => ?_) (fun e => ?_)⟩
      · have hw : w = 2 := V.int.inj (of_decide_eq_true e)
        refine ⟨_, rfl, x, rfl, by omega, _, rfl, ite2 (fun e2 => ?_) (fun e2 => ?_)⟩
        · refine asg1 ⟨_, rfl, (by show 3 ≤ sizeLine; decide), fun p np => ⟨(by show 1 ≤ sizeLine; decide), fun p2 np2 => ?_⟩⟩
          have sa := same_upd (o := .tup [.str "f", .str x, .int 0]) np
          have sb := same_upd (o := .tup [.ref p]) np2
          refine gname (hu _ _ ⟨_, rfl, s12.trans (sa.trans sb), ?_⟩)
          unfold d3
          rw [if_pos hw, if_pos e2]
          exact .tup (SqT.of upd_same) (.cons (.tup (SqT.of (sb _ _ upd_same)) (.cons (.str _) (.cons (.str _) (.cons (.int _) .nil)))) .nil)
        · refine hu _ _ ⟨_, rfl, s12, ?_⟩
          unfold d3
          rw [if_pos hw, if_neg e2]
          have e1 : d2 w n = .none := by unfold d2 d1; rw [if_neg (by omega), if_neg (by omega)]
          rw [e1] at dd2
          exact dd2
      · refine hu _ _ ⟨_, rfl, s12, ?_⟩
        unfold d3
        rw [if_neg (fun z => e (decide_eq_true (congrArg V.int z)))]
        exact dd2
    clear dd2 s12
    rintro σ H13 ⟨dv, rfl, s13, dd3⟩
    refine seq_via (fun σ H' => ∃ (dv : V) (v11 : Option V), σ = [some (.ref a), some (.ref s), some (.int w), some (.str x), some (.int n), some (.int m), some (.ref D), v7', some (.bl g), v9, some dv, v11, none, none] ∧ Same H10 H' ∧ Dp K H' dv (d4 w x n g ds)) ?_ ?_
    rotate_left
    · intro hu
      refine ⟨_, rfl, rfl, _, rfl, ite2 (fun e => ?_) (fun e => ?_)⟩
      · have hw : w = 3 := V.int.inj (of_decide_eq_true e)
        have e1 : d3 w x n = .none := by unfold d3 d2 d1; rw [if_neg (by omega), if_neg (by omega), if_neg (by omega)]
        rw [e1] at dd3
        refine ⟨_, rfl, x, rfl, by omega, _, rfl, ite2 (fun e2 => ?_) (fun e2 => ?_)⟩
        · refine ⟨_, rfl, _, rfl, ite2 (fun e3 => ?_) (fun e3 => ?_)⟩
          · obtain ⟨⟨h1, h2⟩, rows, hds, hr⟩ := RG'.yes e3
            have hlen := RG'.len
            refine seq_asg ?_
            refine ⟨_, rfl, _, rfl, (by show 3 ≤ sizeLine; decide), fun p np => ⟨(by show 1 ≤ sizeLine; decide), fun p2 np2 => ?_⟩⟩
            have sa := same_upd (o := .tup [.str "f", .str x, .int m]) np
            have sb := same_upd (o := .tup [.ref p]) np2
            have dh : Dp K (upd (upd H13 p (.tup [.str "f", .str x, .int m])) p2 (.tup [.ref p])) (.ref p2) (.tuple (.tuple [.str "f", .str x, .int (ds.length : Int)] :: (ds.take 0).flatMap elems)) := by
              rw [hlen]
              exact .tup (SqT.of upd_same) (.cons (.tup (SqT.of (sb _ _ upd_same)) (.cons (.str _) (.cons (.str _) (.cons (.int _) .nil)))) .nil)
            have s14 := s13.trans (sa.trans sb)
            generalize upd (upd H13 p (.tup [.str "f", .str x, .int m])) p2 (.tup [.ref p]) = H14 at dh s14
            refine gname ?_
            have hxl := DpAll.len dD
            refine ⟨_, rfl, D, rfl, ⟨_, SqL.of (s14 _ _ eD)⟩, for_list (K := K) (a := D) (xs := xs') (fun i σ H' => ∃ (dv : V) (v11 : Option V), σ = [some (.ref a), some (.ref s), some (.int w), some (.str x), some (.int n), some (.int m), some (.ref D), v7', some (.bl g), v9, some dv, v11, none, none] ∧ Same H10 H' ∧ Dp K H' dv (.tuple (.tuple [.str "f", .str x, .int (ds.length : Int)] :: (ds.take i).flatMap elems)))
              ⟨_, none, rfl, s14, dh⟩ (fun i σ H' _ ⟨_, _, _, e, _⟩ => SqL.of (e _ _ eD)) ?_ ?_⟩
            · rintro i y σ H15 hi ⟨dv, v11, rfl, s15, d15⟩
              obtain ⟨d, hd, dy⟩ := DpAll.getV dD hi
              have hdm := List.mem_of_getElem? hd
              obtain ⟨row, hrow, hde⟩ : ∃ row, row ∈ rows ∧ PyData.tuple row = d := by
                rw [hds] at hdm
                exact List.mem_map.mp hdm
              subst hde
              have htk : ds.take (i + 1) = ds.take i ++ [.tuple row] := by rw [List.take_add_one, hd]; rfl
              have b0 := take_el RG' i
              have b1 := RG'.el _ (List.mem_of_getElem? hd)
              refine gname (asg1 ?_)
              refine ⟨_, rfl, _, rfl, cat_dpA d15 (dp_same s15 _ _ dy) (by rw [List.length_cons]; have b1 : row.length ≤ 9 := b1; omega) fun v H16 s16 d16 => ?_⟩
              refine gname ⟨_, _, rfl, s15.trans s16, ?_⟩
              rw [htk, List.flatMap_append, List.flatMap_cons, List.flatMap_nil, List.append_nil]
              exact d16
            · rintro σ H15 ⟨dv, v11, rfl, s15, d15⟩
              rw [hxl, List.take_length] at d15
              refine nxp (hu _ _ ⟨_, _, rfl, s15, ?_⟩)
              unfold d4
              rw [if_pos hw, e2, e3, Bool.true_and, if_pos rfl]
              exact d15
          · refine hu _ _ ⟨_, _, rfl, s13, ?_⟩
            unfold d4
            rw [if_pos hw, Bool.eq_false_iff.mpr e3, Bool.and_false, if_neg Bool.false_ne_true]
            exact dd3
        · refine hu _ _ ⟨_, _, rfl, s13, ?_⟩
          unfold d4
          rw [if_pos hw, Bool.eq_false_iff.mpr e2, Bool.false_and, if_neg Bool.false_ne_true]
          exact dd3
      · refine hu _ _ ⟨_, _, rfl, s13, ?_⟩
        unfold d4
        rw [if_neg (fun z => e (decide_eq_true (congrArg V.int z)))]
        exact dd3
    clear dd3 s13
    rintro σ H14 ⟨dv, v11, rfl, s14, dd⟩
    rw [d4_du x n g ds w0 w1] at dd
    have DU := due_of (n := n) cx RG' w1 w0
    have e14 := s14 _ _ eD
    have hxl := DpAll.len dD
    have hrl := RG'.len
    refine seq_asg ?_
    refine ⟨_, rfl, _, rfl, _, rfl, _, rfl, _, _, rfl, .inl (SqL.of e14), fun c nc => ?_⟩
    have sc := same_upd (o := .lst xs') nc
    have s15 := s14.trans sc
    refine ⟨w, x, n, c, xs', ds, rfl, by omega, upd_same, ⟨dp_sameAll s15 _ _ dD, RG'.ok, by have := RG'.m9; omega, take_el RG'⟩, fun v H16 s16 dv16 => ?_⟩
    rw [du_built cx RG'] at dv16
    have s17 := s15.trans s16
    have dd16 := dp_same (sc.trans s16) _ _ dd
    generalize du w x n g ds = dd0 at DU dv16 dd16 dd
    obtain ⟨sh, ev⟩ := due_shaped DU
    refine gname (seq_ifN ?_)
    refine ⟨_, rfl, _, rfl, dd0, dd0, dv16, dd16, sh, sh, _, rfl, ?_⟩
    rw [ev]
    refine iteF ?_
    refine ⟨_, rfl, _, _, _, _, _, rfl, .ty _, tyx_of dv16, kit_ty (kitI _), _, rfl, ?_⟩
    cases DU with
    | no =>
      refine iteF (seq_ifN ?_)
      cases dd16
      exact ⟨_, rfl, rfl, _, rfl, iteT (q _)⟩
    | yes d0 rows n0 ha hr hl9 hf hw3 hw4 =>
      obtain ⟨hcls, hnds⟩ := due_cls n0 ha hr
      refine iteF (seq_ifN ?_)
      cases id dd16 with
      | @tup a1 zs _ hz az =>
      have hzl := DpAll.len az
      refine ⟨_, rfl, rfl, _, rfl, iteF ?_⟩
      have okA : ∀ es : List PyData, (∀ e ∈ es, NdA e) → okT (.tuple es) := fun es he es' h e hm => by
        cases h
        exact nd_okD (he e hm)
      refine seq_via (fun σ H' => σ = [some (.ref a), some (.ref s), some (.int w), some (.str x), some (.int n), some (.int m), some (.ref D), v7', some (.bl g), v9, some (.ref a1), v11, some v, none] ∧ Same H16 H') ?_ ?_
      rotate_left
      · intro hu
        refine ⟨_, rfl, _, _, rfl, dd16, okA _ hnds, fun H17 t17 => ⟨_, rfl, ?_⟩⟩
        rw [show isTerm (.tuple (d0 :: rows.flatten)) = true from go_cls (m := 1) hnds hcls]
        refine iteF ?_
        refine ⟨_, rfl, _, rfl, cat_dpA (dp_same t17 _ _ dd16) (dp_same t17 _ _ dd16) (by rw [List.length_cons]; omega) fun v2 H18 t18 d18 => ?_⟩
        refine ⟨_, _, rfl, d18, okA _ (fun e he => by rcases List.mem_append.mp he with z | z <;> exact hnds e z), fun H19 t19 => ⟨_, rfl, ?_⟩⟩
        rw [show isTerm (.tuple ((d0 :: rows.flatten) ++ (d0 :: rows.flatten))) = false from go_more (m := 1) hnds hcls (List.cons_ne_nil _ _)]
        refine iteF ?_
        have t3 := t17.trans (t18.trans t19)
        refine ⟨_, rfl, _, _, rfl, .inr (same_sqT t3 hz), fun c2 nc2 => ?_⟩
        have t4 := t3.trans (same_upd (o := .lst zs) nc2)
        refine ⟨_, .list (d0 :: rows.flatten), rfl, .lst (SqL.of upd_same) (dp_sameAll t4 _ _ az), (fun es h => nomatch h), fun H20 t20 => ⟨_, rfl, iteF ?_⟩⟩
        have t5 := t4.trans t20
        refine ⟨_, rfl, _, rfl, nopart_of (sl_from1 (same_sqT t5 hz) fun b1 H21 t21 sq21 => ?_)⟩
        have t6 := t5.trans t21
        refine ⟨_, .tuple rows.flatten, rfl, .tup sq21 ?_, okA _ (fun e he => hnds e (List.mem_cons_of_mem _ he)), fun H22 t22 => ⟨_, rfl, ?_⟩⟩
        · have := DpAll.dropt 1 (dp_sameAll t6 _ _ az)
          exact this
        have t7 := t6.trans t22
        cases hb : isTerm (.tuple rows.flatten) with
        | false => exact iteF (hu _ _ ⟨rfl, t7⟩)
        | true =>
          refine iteT ?_
          refine ⟨_, rfl, _, _, rfl, .inr (same_sqT t7 hz), _, _, rfl, rfl, _, rfl, ?_⟩
          have hne : rows.flatten ≠ [] := fun z => by rw [z] at hb; cases hb
          have := List.length_pos_iff.mpr hne
          rw [List.length_cons] at hzl
          rw [decide_eq_false (show ¬ ((zs.length : Nat) : Int) < 2 by omega)]
          exact iteF (hu _ _ ⟨rfl, t7⟩)
      rintro σ H17 ⟨rfl, t17⟩
      have dd17 := dp_same t17 _ _ dd16
      refine seq_asg ?_
      refine ⟨_, rfl, _, d0, rows, rfl, dd17, n0, hr, hl9, by omega, fun r ys H18 t18 nr er dr => ?_⟩
      have dL : Dp K H18 (.ref r) (.list (rows.map PyData.tuple)) := .lst (SqL.of er) dr
      refine gname (seq_ifN ?_)
      refine ⟨_, rfl, _, _, _, _, _, rfl, .ty _, tyx_of dL, kit_ty (kitL _), _, rfl, iteF ?_⟩
      refine seq_ifN ?_
      refine ⟨_, rfl, _, _, rfl, rfl, _, rfl, ite2 (fun e => ?_) (fun e => ?_)⟩
      · have hr0 := hw3 (of_decide_eq_true e)
        subst hr0
        refine ⟨_, rfl, Nat.zero_le _, fun p np => ?_⟩
        have sp := same_upd (o := .lst []) np
        refine ⟨.list [], .list [], dp_same sp _ _ dL, .lst (SqL.of upd_same) .nil, rfl, rfl, ?_⟩
        have ee : PyData.eqv (.list []) (.list []) = true := by simp [PyData.eqv, PyData.eqvAll]
        rw [ee]
        exact q _
      · obtain ⟨hds, hrm⟩ := hw4 (fun z => e (decide_eq_true z))
        obtain ⟨shr, evr⟩ := rows_shaped1 hr
        have hyl := DpAll.len dr
        rw [List.length_map] at hyl
        refine seq_any ?_
        refine ⟨_, rfl, .inl ⟨rfl, _, SqL.of er⟩, (by show 1 ≤ sizeLine; decide), fun p np => ?_⟩
        have sp := same_upd (o := .tup [.int 0]) np
        have er2 := sp _ _ er
        refine ⟨_, _, _, rfl, rfl, er2, small1000 (by omega), ?_⟩
        refine nxp ?_
        have nrr : notTup (upd H18 p (.tup [.int 0])) r := .inl ⟨_, er2⟩
        have kp : ∀ b o, H17 b = some o → (upd (upd H18 p (.tup [.int 0])) r (.lst (ys ++ [.ref p]))) b = some o := fun b o h => by
          rw [upd_ne (ne_of_none h nr)]
          exact sp _ _ (t18 _ _ h)
        have rowsN : ∀ l : List (List PyData), (∀ y ∈ l, ∀ d ∈ y, NdA d) → noLA (l.map PyData.tuple) = true := by
          intro l
          induction l with
          | nil => intro _; simp [noLA]
          | cons y l ih => intro h; rw [List.map_cons, noLA, tup_noL (h y List.mem_cons_self), ih fun z hz => h z (List.mem_cons_of_mem _ hz)]; rfl
        have drF : DpAll K (upd (upd H18 p (.tup [.int 0])) r (.lst (ys ++ [.ref p]))) ys (rows.map PyData.tuple) := dp_putAll nrr _ _ (rowsN rows fun y hy => (hr y hy).2) (dp_sameAll sp _ _ dr)
        have eF : (upd (upd H18 p (.tup [.int 0])) r (.lst (ys ++ [.ref p]))) r = some (.lst (ys ++ [.ref p])) := upd_same
        generalize upd (upd H18 p (.tup [.int 0])) r (.lst (ys ++ [.ref p])) = H19 at kp drF eF
        have t1019 : Same H10 H19 := fun b o h => kp _ _ (t17 _ _ (s17 _ _ h))
        have eD19 := t1019 _ _ eD
        have dD19 := dp_sameAll t1019 _ _ dD
        rw [hds] at dD19
        refine ⟨_, rfl, nopart_of ⟨_, rfl, _, rfl, r, _, rfl, SqL.of eF, fun c nc => ?_⟩⟩
        have hcut : cutV (ys ++ [V.ref p]) Option.none (some m) = ys := by
          rw [show m = ((ys.length : Nat) : Int) by omega, cut_take _ _ (by rw [List.length_append]; omega), List.take_left' rfl]
        have sc2 := same_upd (o := .lst (cutV (ys ++ [V.ref p]) Option.none (some m))) nc
        refine ⟨_, rfl, .list (rows.map PyData.tuple), .list (rows.map PyData.tuple), .lst (SqL.of (by rw [upd_same, hcut])) (dp_sameAll sc2 _ _ drF), .lst (SqL.of (sc2 _ _ eD19)) (dp_sameAll sc2 _ _ dD19), shr, shr, _, rfl, ?_⟩
        rw [evr]
        refine iteT ?_
        have t20 : Same H17 (upd H19 c (.lst (cutV (ys ++ [V.ref p]) Option.none (some m)))) := fun b o h => sc2 _ _ (kp b o h)
        refine ⟨_, rfl, _, d0, rows, rfl, dp_same t20 _ _ dd17, n0, hr, hl9, by omega, fun r2 ys2 H21 t21 nr2 er2' dr2 => ?_⟩
        refine ⟨_, rfl, .list (rows.map PyData.tuple), .list (rows.map PyData.tuple), .lst (SqL.of er2') dr2, .lst (SqL.of (t21 _ _ (sc2 _ _ eD19))) (dp_sameAll (sc2.trans t21) _ _ dD19), shr, shr, ?_⟩
        rw [evr]
        exact q _

end
/-! ### the end -/
theorem all_mk {l : PySem.W.OpenLaw} {w : World} {K : PySem.W.Frag} {h : Heap} {mg : Str → Option Value} {fa f1 f2 f3 f4 f5 f6 f7 f8 f9 f10 f11 f12 f13 f14 f15 f16 f17 f18 f19 f20 f21 f22 f23 : Addr} (X : K.In h) (G : h.Ns mainGlobals mg) (hfa : mg "law" = some (.ref fa))
    {od1 an1 od2 an2 od3 an3 od4 an4 od5 an5 od6 an6 od7 an7 od8 an8 od9 an9 od10 an10 od11 an11 od12 an12 od13 an13 od14 an14 od15 an15 od16 an16 od17 an17 od18 an18 od19 an19 od20 an20 od21 an21 od22 an22 od23 an23 : Option Addr} {sl1 sl2 sl3 sl4 sl5 sl6 sl7 sl8 sl9 sl10 sl11 sl12 sl13 sl14 sl15 sl16 sl17 sl18 sl19 sl20 sl21 sl22 sl23 : Array (Option Value)} {oc1 kV1 dc1 pm1 cd1 ct1 oc2 kV2 dc2 pm2 cd2 ct2 oc3 kV3 dc3 pm3 cd3 ct3 oc4 kV4 dc4 pm4 cd4 ct4 oc5 kV5 dc5 pm5 cd5 ct5 oc6 kV6 dc6 pm6 cd6 ct6 oc7 kV7 dc7 pm7 cd7 ct7 oc8 kV8 dc8 pm8 cd8 ct8 oc9 kV9 dc9 pm9 cd9 ct9 oc10 kV10 dc10 pm10 cd10 ct10 oc11 kV11 dc11 pm11 cd11 ct11 oc12 kV12 dc12 pm12 cd12 ct12 oc13 kV13 dc13 pm13 cd13 ct13 oc14 kV14 dc14 pm14 cd14 ct14 oc15 kV15 dc15 pm15 cd15 ct15 oc16 kV16 dc16 pm16 cd16 ct16 oc17 kV17 dc17 pm17 cd17 ct17 oc18 kV18 dc18 pm18 cd18 ct18 oc19 kV19 dc19 pm19 cd19 ct19 oc20 kV20 dc20 pm20 cd20 ct20 oc21 kV21 dc21 pm21 cd21 ct21 oc22 kV22 dc22 pm22 cd22 ct22 oc23 kV23 dc23 pm23 cd23 ct23 : Value} {tk0 : Tok} {tk1 : Tok} {tk2 : Tok} {tk3 : Tok}

    (a1 : PySem.W.nsIn K mainGlobals "is_integer" = some (some (.ref f1))) (l1 : K.lookup f1 = some ⟨oc1, od1, .func (PySem.W.fnOf "is_integer" "is_integer" (defArgs s_is_integer) (defBody s_is_integer) (defScope s_is_integer) .none kV1 dc1 pm1 an1 cd1 ct1), sl1⟩) (c1 : PySem.W.codeIn K cd1 "is_integer" = true) (k1 : PySem.W.keepIn K (.ref f1) = true)
    (a2 : PySem.W.nsIn K mainGlobals "is_bounded" = some (some (.ref f2))) (l2 : K.lookup f2 = some ⟨oc2, od2, .func (PySem.W.fnOf "is_bounded" "is_bounded" (defArgs s_is_bounded) (defBody s_is_bounded) (defScope s_is_bounded) .none kV2 dc2 pm2 an2 cd2 ct2), sl2⟩) (c2 : PySem.W.codeIn K cd2 "is_bounded" = true) (k2 : PySem.W.keepIn K (.ref f2) = true)
    (a3 : PySem.W.nsIn K mainGlobals "is_name" = some (some (.ref f3))) (l3 : K.lookup f3 = some ⟨oc3, od3, .func (PySem.W.fnOf "is_name" "is_name" (defArgs s_is_name) (defBody s_is_name) (defScope s_is_name) .none kV3 dc3 pm3 an3 cd3 ct3), sl3⟩) (c3 : PySem.W.codeIn K cd3 "is_name" = true) (k3 : PySem.W.keepIn K (.ref f3) = true)
    (a4 : PySem.W.nsIn K mainGlobals "is_arity" = some (some (.ref f4))) (l4 : K.lookup f4 = some ⟨oc4, od4, .func (PySem.W.fnOf "is_arity" "is_arity" (defArgs s_is_arity) (defBody s_is_arity) (defScope s_is_arity) .none kV4 dc4 pm4 an4 cd4 ct4), sl4⟩) (c4 : PySem.W.codeIn K cd4 "is_arity" = true) (k4 : PySem.W.keepIn K (.ref f4) = true)
    (a5 : PySem.W.nsIn K mainGlobals "is_symbol" = some (some (.ref f5))) (l5 : K.lookup f5 = some ⟨oc5, od5, .func (PySem.W.fnOf "is_symbol" "is_symbol" (defArgs s_is_symbol) (defBody s_is_symbol) (defScope s_is_symbol) .none kV5 dc5 pm5 an5 cd5 ct5), sl5⟩) (c5 : PySem.W.codeIn K cd5 "is_symbol" = true) (k5 : PySem.W.keepIn K (.ref f5) = true)
    (a6 : PySem.W.nsIn K mainGlobals "arity_of" = some (some (.ref f6))) (l6 : K.lookup f6 = some ⟨oc6, od6, .func (PySem.W.fnOf "arity_of" "arity_of" (defArgs s_arity_of) (defBody s_arity_of) (defScope s_arity_of) .none kV6 dc6 pm6 an6 cd6 ct6), sl6⟩) (c6 : PySem.W.codeIn K cd6 "arity_of" = true) (k6 : PySem.W.keepIn K (.ref f6) = true)
    (a7 : PySem.W.nsIn K mainGlobals "is_node" = some (some (.ref f7))) (l7 : K.lookup f7 = some ⟨oc7, od7, .func (PySem.W.fnOf "is_node" "is_node" (defArgs s_is_node) (defBody s_is_node) (defScope s_is_node) .none kV7 dc7 pm7 an7 cd7 ct7), sl7⟩) (c7 : PySem.W.codeIn K cd7 "is_node" = true) (k7 : PySem.W.keepIn K (.ref f7) = true)
    (a8 : PySem.W.nsIn K mainGlobals "end_of" = some (some (.ref f8))) (l8 : K.lookup f8 = some ⟨oc8, od8, .func (PySem.W.fnOf "end_of" "end_of" (defArgs s_end_of) (defBody s_end_of) (defScope s_end_of) .none kV8 dc8 pm8 an8 cd8 ct8), sl8⟩) (c8 : PySem.W.codeIn K cd8 "end_of" = true) (k8 : PySem.W.keepIn K (.ref f8) = true)
    (a9 : PySem.W.nsIn K mainGlobals "variable" = some (some (.ref f9))) (l9 : K.lookup f9 = some ⟨oc9, od9, .func (PySem.W.fnOf "variable" "variable" (defArgs s_variable) (defBody s_variable) (defScope s_variable) .none kV9 dc9 pm9 an9 cd9 ct9), sl9⟩) (c9 : PySem.W.codeIn K cd9 "variable" = true) (k9 : PySem.W.keepIn K (.ref f9) = true)
    (a10 : PySem.W.nsIn K mainGlobals "integer" = some (some (.ref f10))) (l10 : K.lookup f10 = some ⟨oc10, od10, .func (PySem.W.fnOf "integer" "integer" (defArgs s_integer) (defBody s_integer) (defScope s_integer) .none kV10 dc10 pm10 an10 cd10 ct10), sl10⟩) (c10 : PySem.W.codeIn K cd10 "integer" = true) (k10 : PySem.W.keepIn K (.ref f10) = true)
    (a11 : PySem.W.nsIn K mainGlobals "atom" = some (some (.ref f11))) (l11 : K.lookup f11 = some ⟨oc11, od11, .func (PySem.W.fnOf "atom" "atom" (defArgs s_atom) (defBody s_atom) (defScope s_atom) .none kV11 dc11 pm11 an11 cd11 ct11), sl11⟩) (c11 : PySem.W.codeIn K cd11 "atom" = true) (k11 : PySem.W.keepIn K (.ref f11) = true)
    (a12 : PySem.W.nsIn K mainGlobals "compound" = some (some (.ref f12))) (l12 : K.lookup f12 = some ⟨oc12, od12, .func (PySem.W.fnOf "compound" "compound" (defArgs s_compound) (defBody s_compound) (defScope s_compound) .none kV12 dc12 pm12 an12 cd12 ct12), sl12⟩) (c12 : PySem.W.codeIn K cd12 "compound" = true) (k12 : PySem.W.keepIn K (.ref f12) = true)
    (a13 : PySem.W.nsIn K mainGlobals "is_term" = some (some (.ref f13))) (l13 : K.lookup f13 = some ⟨oc13, od13, .func (PySem.W.fnOf "is_term" "is_term" (defArgs s_is_term) (defBody s_is_term) (defScope s_is_term) .none kV13 dc13 pm13 an13 cd13 ct13), sl13⟩) (c13 : PySem.W.codeIn K cd13 "is_term" = true) (k13 : PySem.W.keepIn K (.ref f13) = true)
    (a14 : PySem.W.nsIn K mainGlobals "parts" = some (some (.ref f14))) (l14 : K.lookup f14 = some ⟨oc14, od14, .func (PySem.W.fnOf "parts" "parts" (defArgs s_parts) (defBody s_parts) (defScope s_parts) .none kV14 dc14 pm14 an14 cd14 ct14), sl14⟩) (c14 : PySem.W.codeIn K cd14 "parts" = true) (k14 : PySem.W.keepIn K (.ref f14) = true)
    (a15 : PySem.W.nsIn K mainGlobals "_law_stream" = some (some (.ref f15))) (l15 : K.lookup f15 = some ⟨oc15, od15, .func (PySem.W.fnOf "_law_stream" "_law_stream" (defArgs s__law_stream) (defBody s__law_stream) (defScope s__law_stream) .none kV15 dc15 pm15 an15 cd15 ct15), sl15⟩) (c15 : PySem.W.codeIn K cd15 "_law_stream" = true) (k15 : PySem.W.keepIn K (.ref f15) = true)
    (a16 : PySem.W.nsIn K mainGlobals "_law_draw" = some (some (.ref f16))) (l16 : K.lookup f16 = some ⟨oc16, od16, .func (PySem.W.fnOf "_law_draw" "_law_draw" (defArgs s__law_draw) (defBody s__law_draw) (defScope s__law_draw) .none kV16 dc16 pm16 an16 cd16 ct16), sl16⟩) (c16 : PySem.W.codeIn K cd16 "_law_draw" = true) (k16 : PySem.W.keepIn K (.ref f16) = true)
    (a17 : PySem.W.nsIn K mainGlobals "_law_name" = some (some (.ref f17))) (l17 : K.lookup f17 = some ⟨oc17, od17, .func (PySem.W.fnOf "_law_name" "_law_name" (defArgs s__law_name) (defBody s__law_name) (defScope s__law_name) .none kV17 dc17 pm17 an17 cd17 ct17), sl17⟩) (c17 : PySem.W.codeIn K cd17 "_law_name" = true) (k17 : PySem.W.keepIn K (.ref f17) = true)
    (a18 : PySem.W.nsIn K mainGlobals "_law_leaf" = some (some (.ref f18))) (l18 : K.lookup f18 = some ⟨oc18, od18, .func (PySem.W.fnOf "_law_leaf" "_law_leaf" (defArgs s__law_leaf) (defBody s__law_leaf) (defScope s__law_leaf) .none kV18 dc18 pm18 an18 cd18 ct18), sl18⟩) (c18 : PySem.W.codeIn K cd18 "_law_leaf" = true) (k18 : PySem.W.keepIn K (.ref f18) = true)
    (a19 : PySem.W.nsIn K mainGlobals "_law_term" = some (some (.ref f19))) (l19 : K.lookup f19 = some ⟨oc19, od19, .func (PySem.W.fnOf "_law_term" "_law_term" (defArgs s__law_term) (defBody s__law_term) (defScope s__law_term) .none kV19 dc19 pm19 an19 cd19 ct19), sl19⟩) (c19 : PySem.W.codeIn K cd19 "_law_term" = true) (k19 : PySem.W.keepIn K (.ref f19) = true)
    (a20 : PySem.W.nsIn K mainGlobals "_law_good_name" = some (some (.ref f20))) (l20 : K.lookup f20 = some ⟨oc20, od20, .func (PySem.W.fnOf "_law_good_name" "_law_good_name" (defArgs s__law_good_name) (defBody s__law_good_name) (defScope s__law_good_name) .none kV20 dc20 pm20 an20 cd20 ct20), sl20⟩) (c20 : PySem.W.codeIn K cd20 "_law_good_name" = true) (k20 : PySem.W.keepIn K (.ref f20) = true)
    (a21 : PySem.W.nsIn K mainGlobals "_law_compound" = some (some (.ref f21))) (l21 : K.lookup f21 = some ⟨oc21, od21, .func (PySem.W.fnOf "_law_compound" "_law_compound" (defArgs s__law_compound) (defBody s__law_compound) (defScope s__law_compound) .none kV21 dc21 pm21 an21 cd21 ct21), sl21⟩) (c21 : PySem.W.codeIn K cd21 "_law_compound" = true) (k21 : PySem.W.keepIn K (.ref f21) = true)
    (a22 : PySem.W.nsIn K mainGlobals "_law_built" = some (some (.ref f22))) (l22 : K.lookup f22 = some ⟨oc22, od22, .func (PySem.W.fnOf "_law_built" "_law_built" (defArgs s__law_built) (defBody s__law_built) (defScope s__law_built) .none kV22 dc22 pm22 an22 cd22 ct22), sl22⟩) (c22 : PySem.W.codeIn K cd22 "_law_built" = true) (k22 : PySem.W.keepIn K (.ref f22) = true)
    (a23 : PySem.W.nsIn K mainGlobals "law" = some (some (.ref f23))) (l23 : K.lookup f23 = some ⟨oc23, od23, .func (PySem.W.fnOf "law" "law" (defArgs s_law) (defBody s_law) (defScope s_law) .none kV23 dc23 pm23 an23 cd23 ct23), sl23⟩) (c23 : PySem.W.codeIn K cd23 "law" = true) (k23 : PySem.W.keepIn K (.ref f23) = true)
    {C0 : Addr} (aC0 : PySem.W.nsIn K mainGlobals "BadTerm" = some (some (.ref C0))) (xC0 : PySem.W.excIn K C0 [.type "ValueError", .type "Exception", .type "BaseException", .type "object"] "ValueError.__new__" = true) (kC0 : PySem.W.keepIn K (.ref C0) = true) (bC0 : PySem.W.subIn K (.ref C0) (.type "BaseException") = some true) (tC0 : PySem.W.typeIn K (.ref C0) = some (.type "type")) (iC0 : PySem.W.isClsIn K C0 = true)
    {C1 : Addr} (aC1 : PySem.W.nsIn K mainGlobals "HornbookError" = some (some (.ref C1))) (xC1 : PySem.W.excIn K C1 [.type "ValueError", .type "Exception", .type "BaseException", .type "object"] "ValueError.__new__" = true) (kC1 : PySem.W.keepIn K (.ref C1) = true) (bC1 : PySem.W.subIn K (.ref C1) (.type "BaseException") = some true) (tC1 : PySem.W.typeIn K (.ref C1) = some (.type "type")) (iC1 : PySem.W.isClsIn K C1 = true)
    (sC0 : PySem.W.subIn K (.ref C0) (.ref C0) = some true)
    (Ehg0 : (PySem.W.findIn K (.ref C0) "__getattribute__" = some (some (.builtin "BaseException.__getattribute__"))))
    (Ehk0 : (PySem.W.findIn K (.ref C0) "__getattr__" = some none))
    (Ehd0 : (PySem.W.hasDictIn K C0 = true))
    (Eha0 : (PySem.W.findIn K (.ref C0) "__class__" = some (some (.builtin "object.__class__"))))
    (Ehn0 : (PySem.W.specialIn K (.builtin "object.__class__") "__get__" = some (some (.builtin "getset_descriptor.__get__"))))
    (Eht0 : (PySem.W.takesIn K (.builtin "object.__class__") = some true))
    (Ehm0 : (PySem.W.mroIn K C0 (.type "object") = some true))
    (kt0 : PySem.W.kitOne K (.ref C0) (.ref C1) = some true)
    (kt1 : PySem.W.kitOne K (.ref C0) (.type "ValueError") = some true)
    (z0 : PySem.W.nsIn K mainGlobals "ValueError" = some none)
    (z1 : PySem.W.nsIn K mainGlobals "abs" = some none)
    (z2 : PySem.W.nsIn K mainGlobals "all" = some none)
    (z3 : PySem.W.nsIn K mainGlobals "bool" = some none)
    (z4 : PySem.W.nsIn K mainGlobals "int" = some none)
    (z5 : PySem.W.nsIn K mainGlobals "isinstance" = some none)
    (z6 : PySem.W.nsIn K mainGlobals "len" = some none)
    (z7 : PySem.W.nsIn K mainGlobals "list" = some none)
    (z8 : PySem.W.nsIn K mainGlobals "min" = some none)
    (z9 : PySem.W.nsIn K mainGlobals "ord" = some none)
    (z10 : PySem.W.nsIn K mainGlobals "range" = some none)
    (z11 : PySem.W.nsIn K mainGlobals "str" = some none)
    (z12 : PySem.W.nsIn K mainGlobals "tuple" = some none)
    (y0 : PySem.W.nsIn K mainGlobals "MOST_NAME" = some (some (.int 40 tk0)))
    (y1 : PySem.W.nsIn K mainGlobals "MOST_ARITY" = some (some (.int 8 tk1)))
    (y2 : PySem.W.nsIn K mainGlobals "INTEGER_BOUND" = some (some (.int 10000000000000000000000000000000000000000 tk2)))
    (y3 : PySem.W.nsIn K mainGlobals "PERCENT" = some (some (.int 37 tk3)))
    : ∃ fd : FuncData, (∀ (s : Shared) (v : Value), BindsTo s fd ⟨[v], []⟩ [("script", v)]) ∧ ∀ base : Heap, K.In base → base.Ns mainGlobals mg → FnOk l.prog w K mg base CX0 8 fa fd ["script"] (sp_law K) := by
  have e := hfa.symm.trans (PySem.W.mg_of X G a23)
  cases e
  have F1 := fun_mk (st := s_is_integer) l1 c1 k1
  have b1 := F1.binds (ps := ["value"]) fun _ _ _ _ _ _ us hl => match us, hl with | [_], _ => rfl
  have F2 := fun_mk (st := s_is_bounded) l2 c2 k2
  have b2 := F2.binds (ps := ["value"]) fun _ _ _ _ _ _ us hl => match us, hl with | [_], _ => rfl
  have F3 := fun_mk (st := s_is_name) l3 c3 k3
  have b3 := F3.binds (ps := ["value"]) fun _ _ _ _ _ _ us hl => match us, hl with | [_], _ => rfl
  have F4 := fun_mk (st := s_is_arity) l4 c4 k4
  have b4 := F4.binds (ps := ["value"]) fun _ _ _ _ _ _ us hl => match us, hl with | [_], _ => rfl
  have F5 := fun_mk (st := s_is_symbol) l5 c5 k5
  have b5 := F5.binds (ps := ["node"]) fun _ _ _ _ _ _ us hl => match us, hl with | [_], _ => rfl
  have F6 := fun_mk (st := s_arity_of) l6 c6 k6
  have b6 := F6.binds (ps := ["node"]) fun _ _ _ _ _ _ us hl => match us, hl with | [_], _ => rfl
  have F7 := fun_mk (st := s_is_node) l7 c7 k7
  have b7 := F7.binds (ps := ["value"]) fun _ _ _ _ _ _ us hl => match us, hl with | [_], _ => rfl
  have F8 := fun_mk (st := s_end_of) l8 c8 k8
  have b8 := F8.binds (ps := ["nodes", "start"]) fun _ _ _ _ _ _ us hl => match us, hl with | [_, _], _ => rfl
  have F9 := fun_mk (st := s_variable) l9 c9 k9
  have b9 := F9.binds (ps := ["number"]) fun _ _ _ _ _ _ us hl => match us, hl with | [_], _ => rfl
  have F10 := fun_mk (st := s_integer) l10 c10 k10
  have b10 := F10.binds (ps := ["value"]) fun _ _ _ _ _ _ us hl => match us, hl with | [_], _ => rfl
  have F11 := fun_mk (st := s_atom) l11 c11 k11
  have b11 := F11.binds (ps := ["name"]) fun _ _ _ _ _ _ us hl => match us, hl with | [_], _ => rfl
  have F12 := fun_mk (st := s_compound) l12 c12 k12
  have F13 := fun_mk (st := s_is_term) l13 c13 k13
  have b13 := F13.binds (ps := ["value"]) fun _ _ _ _ _ _ us hl => match us, hl with | [_], _ => rfl
  have F14 := fun_mk (st := s_parts) l14 c14 k14
  have b14 := F14.binds (ps := ["term"]) fun _ _ _ _ _ _ us hl => match us, hl with | [_], _ => rfl
  have F15 := fun_mk (st := s__law_stream) l15 c15 k15
  have b15 := F15.binds (ps := ["script"]) fun _ _ _ _ _ _ us hl => match us, hl with | [_], _ => rfl
  have F16 := fun_mk (st := s__law_draw) l16 c16 k16
  have b16 := F16.binds (ps := ["stream", "many"]) fun _ _ _ _ _ _ us hl => match us, hl with | [_, _], _ => rfl
  have F17 := fun_mk (st := s__law_name) l17 c17 k17
  have b17 := F17.binds (ps := ["stream"]) fun _ _ _ _ _ _ us hl => match us, hl with | [_], _ => rfl
  have F18 := fun_mk (st := s__law_leaf) l18 c18 k18
  have b18 := F18.binds (ps := ["stream", "widest"]) fun _ _ _ _ _ _ us hl => match us, hl with | [_, _], _ => rfl
  have F19 := fun_mk (st := s__law_term) l19 c19 k19
  have b19 := F19.binds (ps := ["stream", "size", "widest"]) fun _ _ _ _ _ _ us hl => match us, hl with | [_, _, _], _ => rfl
  have F20 := fun_mk (st := s__law_good_name) l20 c20 k20
  have b20 := F20.binds (ps := ["name"]) fun _ _ _ _ _ _ us hl => match us, hl with | [_], _ => rfl
  have F21 := fun_mk (st := s__law_compound) l21 c21 k21
  have b21 := F21.binds (ps := ["name", "rows"]) fun _ _ _ _ _ _ us hl => match us, hl with | [_, _], _ => rfl
  have F22 := fun_mk (st := s__law_built) l22 c22 k22
  have b22 := F22.binds (ps := ["which", "name", "number", "rows"]) fun _ _ _ _ _ _ us hl => match us, hl with | [_, _, _, _], _ => rfl
  have F23 := fun_mk (st := s_law) l23 c23 k23
  have E : Bi K mg := ⟨(by rw [clsA_of aC0]; exact ⟨PySem.W.mg_of X G aC0, xC0, kC0, bC0, tC0, iC0⟩), (by rw [clsA_of aC1]; exact ⟨PySem.W.mg_of X G aC1, xC1, kC1, bC1, tC1, iC1⟩), (by rw [clsA_of aC0]; exact exm_pair bC0 iC0 tC0 sC0), (by rw [clsA_of aC0]; exact ⟨Ehg0, Ehk0, bC0, Ehd0, Eha0, Ehn0, Eht0, Ehm0⟩), (by rw [clsA_of aC0, clsA_of aC1]; exact kt0), (by rw [clsA_of aC0]; exact kt1), PySem.W.mg_none_of X G z0, PySem.W.mg_none_of X G z1, PySem.W.mg_none_of X G z2, PySem.W.mg_none_of X G z3, PySem.W.mg_none_of X G z4, PySem.W.mg_none_of X G z5, PySem.W.mg_none_of X G z6, PySem.W.mg_none_of X G z7, PySem.W.mg_none_of X G z8, PySem.W.mg_none_of X G z9, PySem.W.mg_none_of X G z10, PySem.W.mg_none_of X G z11, PySem.W.mg_none_of X G z12, ⟨_, PySem.W.mg_of X G y0, ⟨_, rfl⟩⟩, ⟨_, PySem.W.mg_of X G y1, ⟨_, rfl⟩⟩, ⟨_, PySem.W.mg_of X G y2, ⟨_, rfl⟩⟩, ⟨_, PySem.W.mg_of X G y3, ⟨_, rfl⟩⟩⟩
  refine ⟨PySem.W.fnOf "law" "law" (defArgs s_law) (defBody s_law) (defScope s_law) .none kV23 dc23 pm23 an23 cd23 ct23, fun s v => .of_eq rfl, fun base _ _ => ?_⟩
  have D1 : Has l.prog w K mg base 1 "is_integer" ["value"] (sp_is_integer K) := ⟨_, _, ok_is_integer F1 E , PySem.W.mg_of X G a1, k1, b1⟩
  have D3 : Has l.prog w K mg base 1 "is_name" ["value"] (sp_is_name K) := ⟨_, _, ok_is_name F3 E , PySem.W.mg_of X G a3, k3, b3⟩
  have D5 : Has l.prog w K mg base 1 "is_symbol" ["node"] (sp_is_symbol K) := ⟨_, _, ok_is_symbol F5 E , PySem.W.mg_of X G a5, k5, b5⟩
  have D15 : Has l.prog w K mg base 1 "_law_stream" ["script"] (sp__law_stream K) := ⟨_, _, ok__law_stream F15 E , PySem.W.mg_of X G a15, k15, b15⟩
  have D16 : Has l.prog w K mg base 1 "_law_draw" ["stream", "many"] (sp__law_draw K) := ⟨_, _, ok__law_draw F16 E , PySem.W.mg_of X G a16, k16, b16⟩
  have D20 : Has l.prog w K mg base 1 "_law_good_name" ["name"] (sp__law_good_name K) := ⟨_, _, ok__law_good_name F20 E , PySem.W.mg_of X G a20, k20, b20⟩
  have D2 : Has l.prog w K mg base 2 "is_bounded" ["value"] (sp_is_bounded K) := ⟨_, _, ok_is_bounded F2 E D1, PySem.W.mg_of X G a2, k2, b2⟩
  have D4 : Has l.prog w K mg base 2 "is_arity" ["value"] (sp_is_arity K) := ⟨_, _, ok_is_arity F4 E D1, PySem.W.mg_of X G a4, k4, b4⟩
  have D6 : Has l.prog w K mg base 2 "arity_of" ["node"] (sp_arity_of K) := ⟨_, _, ok_arity_of F6 E D5, PySem.W.mg_of X G a6, k6, b6⟩
  have D9 : HasX l.prog w K mg base 2 "variable" ["number"] (sp_variable K) := ⟨_, _, ok_variable F9 E D1, PySem.W.mg_of X G a9, k9, b9⟩
  have D11 : HasX l.prog w K mg base 2 "atom" ["name"] (sp_atom K) := ⟨_, _, ok_atom F11 E D3, PySem.W.mg_of X G a11, k11, b11⟩
  have D17 : Has l.prog w K mg base 2 "_law_name" ["stream"] (sp__law_name K) := ⟨_, _, ok__law_name F17 E D16, PySem.W.mg_of X G a17, k17, b17⟩
  have D7 : Has l.prog w K mg base 3 "is_node" ["value"] (sp_is_node K) := ⟨_, _, ok_is_node F7 E D1 D2 D4 D3, PySem.W.mg_of X G a7, k7, b7⟩
  have D8 : Has l.prog w K mg base 3 "end_of" ["nodes", "start"] (sp_end_of K) := ⟨_, _, ok_end_of F8 E D6, PySem.W.mg_of X G a8, k8, b8⟩
  have D10 : HasX l.prog w K mg base 3 "integer" ["value"] (sp_integer K) := ⟨_, _, ok_integer F10 E D2, PySem.W.mg_of X G a10, k10, b10⟩
  have D18 : Has l.prog w K mg base 3 "_law_leaf" ["stream", "widest"] (sp__law_leaf K) := ⟨_, _, ok__law_leaf F18 E D16 D17, PySem.W.mg_of X G a18, k18, b18⟩
  have D13 : Has l.prog w K mg base 4 "is_term" ["value"] (sp_is_term K) := ⟨_, _, ok_is_term F13 E D7 D6, PySem.W.mg_of X G a13, k13, b13⟩
  have D14 : Has l.prog w K mg base 4 "parts" ["term"] (sp_parts K) := ⟨_, _, ok_parts F14 E D8, PySem.W.mg_of X G a14, k14, b14⟩
  have D19 : Has l.prog w K mg base 4 "_law_term" ["stream", "size", "widest"] (sp__law_term K) := ⟨_, _, ok__law_term F19 E D16 D17 D18, PySem.W.mg_of X G a19, k19, b19⟩
  have D12 : HasR l.prog w K mg base 5 "compound" 1 (sp_compound K) := ⟨_, ok_compound F12 E D3 D13, PySem.W.mg_of X G a12, k12⟩
  have D21 : HasX l.prog w K mg base 6 "_law_compound" ["name", "rows"] (sp__law_compound K) := ⟨_, _, ok__law_compound F21 E D12, PySem.W.mg_of X G a21, k21, b21⟩
  have D22 : Has l.prog w K mg base 7 "_law_built" ["which", "name", "number", "rows"] (sp__law_built K) := ⟨_, _, ok__law_built F22 E D9 D10 D11 D21, PySem.W.mg_of X G a22, k22, b22⟩
  exact ok_law F23 E D15 D16 D17 D19 D20 D22 D13 D14
end My
open PySem PySem.W PyProof.Rows
set_option maxRecDepth 100000 in
set_option maxHeartbeats 0 in
theorem PySem.Challenge.cw_hornbook_k01_build_terms_holds : PySem.Challenge.rw_hornbook_k01_build_terms.Holds := by
  w_on; o_law; k_head; (case hw => w_witness2)
  k_fill
  refine L2.walk_of (l := PySem.Challenge.rw_hornbook_k01_build_terms) (n := 63) (k := 8) (x := "script") (CX := fun _ => L2.CX0) (sp := fun w => My.sp_law _) rfl (by decide) rfl ⟨rfl, by decide, by decide⟩ (fun w h Y => PySem.W.kIn_of Y) ?F (fun _ _ a ns hl _ hS => ⟨a, ns, rfl, hS, hl, fun _ => rfl⟩) (fun _ _ _ _ _ h => h)
  case F =>
    intro w mg fa h KX G hmg
    refine' My.all_mk KX G hmg ?a1 ?l1 ?c1 ?k1 ?a2 ?l2 ?c2 ?k2 ?a3 ?l3 ?c3 ?k3 ?a4 ?l4 ?c4 ?k4 ?a5 ?l5 ?c5 ?k5 ?a6 ?l6 ?c6 ?k6 ?a7 ?l7 ?c7 ?k7 ?a8 ?l8 ?c8 ?k8 ?a9 ?l9 ?c9 ?k9 ?a10 ?l10 ?c10 ?k10 ?a11 ?l11 ?c11 ?k11 ?a12 ?l12 ?c12 ?k12 ?a13 ?l13 ?c13 ?k13 ?a14 ?l14 ?c14 ?k14 ?a15 ?l15 ?c15 ?k15 ?a16 ?l16 ?c16 ?k16 ?a17 ?l17 ?c17 ?k17 ?a18 ?l18 ?c18 ?k18 ?a19 ?l19 ?c19 ?k19 ?a20 ?l20 ?c20 ?k20 ?a21 ?l21 ?c21 ?k21 ?a22 ?l22 ?c22 ?k22 ?a23 ?l23 ?c23 ?k23 ?aC0 ?xC0 ?kC0 ?bC0 ?tC0 ?iC0 ?aC1 ?xC1 ?kC1 ?bC1 ?tC1 ?iC1 ?sC0 ?Ehg0 ?Ehk0 ?Ehd0 ?Eha0 ?Ehn0 ?Eht0 ?Ehm0 ?kt0 ?kt1 ?z0 ?z1 ?z2 ?z3 ?z4 ?z5 ?z6 ?z7 ?z8 ?z9 ?z10 ?z11 ?z12 ?y0 ?y1 ?y2 ?y3
    (case a1 => k_is)
    (case l1 => k_is)
    (case c1 => k_is)
    (case k1 => k_is)
    (case a2 => k_is)
    (case l2 => k_is)
    (case c2 => k_is)
    (case k2 => k_is)
    (case a3 => k_is)
    (case l3 => k_is)
    (case c3 => k_is)
    (case k3 => k_is)
    (case a4 => k_is)
    (case l4 => k_is)
    (case c4 => k_is)
    (case k4 => k_is)
    (case a5 => k_is)
    (case l5 => k_is)
    (case c5 => k_is)
    (case k5 => k_is)
    (case a6 => k_is)
    (case l6 => k_is)
    (case c6 => k_is)
    (case k6 => k_is)
    (case a7 => k_is)
    (case l7 => k_is)
    (case c7 => k_is)
    (case k7 => k_is)
    (case a8 => k_is)
    (case l8 => k_is)
    (case c8 => k_is)
    (case k8 => k_is)
    (case a9 => k_is)
    (case l9 => k_is)
    (case c9 => k_is)
    (case k9 => k_is)
    (case a10 => k_is)
    (case l10 => k_is)
    (case c10 => k_is)
    (case k10 => k_is)
    (case a11 => k_is)
    (case l11 => k_is)
    (case c11 => k_is)
    (case k11 => k_is)
    (case a12 => k_is)
    (case l12 => k_is)
    (case c12 => k_is)
    (case k12 => k_is)
    (case a13 => k_is)
    (case l13 => k_is)
    (case c13 => k_is)
    (case k13 => k_is)
    (case a14 => k_is)
    (case l14 => k_is)
    (case c14 => k_is)
    (case k14 => k_is)
    (case a15 => k_is)
    (case l15 => k_is)
    (case c15 => k_is)
    (case k15 => k_is)
    (case a16 => k_is)
    (case l16 => k_is)
    (case c16 => k_is)
    (case k16 => k_is)
    (case a17 => k_is)
    (case l17 => k_is)
    (case c17 => k_is)
    (case k17 => k_is)
    (case a18 => k_is)
    (case l18 => k_is)
    (case c18 => k_is)
    (case k18 => k_is)
    (case a19 => k_is)
    (case l19 => k_is)
    (case c19 => k_is)
    (case k19 => k_is)
    (case a20 => k_is)
    (case l20 => k_is)
    (case c20 => k_is)
    (case k20 => k_is)
    (case a21 => k_is)
    (case l21 => k_is)
    (case c21 => k_is)
    (case k21 => k_is)
    (case a22 => k_is)
    (case l22 => k_is)
    (case c22 => k_is)
    (case k22 => k_is)
    (case a23 => k_is)
    (case l23 => k_is)
    (case c23 => k_is)
    (case k23 => k_is)
    (case aC0 => k_is)
    (case xC0 => k_exc)
    (case kC0 => k_is)
    (case bC0 => k_is)
    (case tC0 => k_is)
    (case iC0 => k_is)
    (case aC1 => k_is)
    (case xC1 => k_exc)
    (case kC1 => k_is)
    (case bC1 => k_is)
    (case tC1 => k_is)
    (case iC1 => k_is)
    (case sC0 => first | rfl | k_is)
    (case Ehg0 => k_is)
    (case Ehk0 => k_is)
    (case Ehd0 => k_is)
    (case Eha0 => k_is)
    (case Ehn0 => k_is)
    (case Eht0 => k_is)
    (case Ehm0 => k_is)
    (case kt0 => first | rfl | k_is)
    (case kt1 => first | rfl | k_is)
    (case z0 => k_is)
    (case z1 => k_is)
    (case z2 => k_is)
    (case z3 => k_is)
    (case z4 => k_is)
    (case z5 => k_is)
    (case z6 => k_is)
    (case z7 => k_is)
    (case z8 => k_is)
    (case z9 => k_is)
    (case z10 => k_is)
    (case z11 => k_is)
    (case z12 => k_is)
    (case y0 => k_is)
    (case y1 => k_is)
    (case y2 => k_is)
    (case y3 => k_is)
