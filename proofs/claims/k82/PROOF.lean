import PyProof.Rows.All
import Wide.All
import OpenK.AllK
import Wide.FinOn
import HandS.ForMost
import HandS.IsInst
import HandS.Wide
import HandS.Codes
import HandS.Style
import HandS.TupLe
import HandS.TupAny
import HandS.EndBits
import HandS.Walk
import HandS.Zip
import KE.LtData
import HandS.ForExc
import HandS.ExcIs
import HandS.RaiseMore
import HandS.FStr
import HandS.Defaults
import HandS.SortKw
import KE.KRevSl
import HandS.SetKeys
import HandS.WordsDict
import HandS.DictComp
import HandS.More
import HandS.SortInts
import HandS.Deep
import PySem.Challenge.RW_hornbook_k82_candidates_lose_nothing
set_option Elab.async false
set_option linter.all false
set_option maxRecDepth 100000
set_option maxHeartbeats 4000000
set_option exponentiation.threshold 10000
namespace My
open PySem PySem.Spec PyProof.Rows L2
/-- a def of the text that keeps a promise, as its callers want it -/
def Has (P : Program) (w : World) (K : PySem.W.Frag) (mg : Str → Option Value) (base : Heap) (k : Nat) (x : Str) (ps : List Str) (sp : Sp) : Prop :=
  ∃ (f : Addr) (fd : FuncData), FnOk P w K mg base CX0 k f fd ps sp ∧ mg x = some (.ref f) ∧ PySem.W.keepIn K (.ref f) = true ∧ Binds K fd ps []
theorem same_upd {H : Hp} {p : Addr} {o : HO} (h : H p = none) : Same H (upd H p o) := fun b x e => by
  rw [upd_ne (ne_of_none e h)]
  exact e
/-- all but the object at s is as it was -/
def But (s : Addr) (H H' : Hp) : Prop := ∀ b o, b ≠ s → H b = some o → H' b = some o
theorem But.refl (s : Addr) (H : Hp) : But s H H := fun _ _ _ e => e
theorem But.trans {s : Addr} {H H1 H2 : Hp} (a : But s H H1) (b : But s H1 H2) : But s H H2 := fun c o hc e => b c o hc (a c o hc e)
theorem But.of {s : Addr} {H H' : Hp} (a : Same H H') : But s H H' := fun b o _ e => a b o e
theorem But.put {s : Addr} {H : Hp} {o : HO} : But s H (upd H s o) := fun b u hb e => by rw [upd_ne hb]; exact e
/-! ### what a value is -/
mutual
inductive Im (K : PySem.W.Frag) (G : Addr → Prop) (H : Hp) : V → PyData → Prop
  | non : Im K G H .non .none
  | bl (b : Bool) : Im K G H (.bl b) (.bool b)
  | int (i : Int) : Im K G H (.int i) (.int i)
  | str (x : Str) : Im K G H (.str x) (.str x)
  | lst {a : Addr} {xs : List V} {ds : List PyData} : G a → H a = some (.lst xs) → ImAll K G H xs ds → Im K G H (.ref a) (.list ds)
  | tup {a : Addr} {xs : List V} {ds : List PyData} : G a → H a = some (.tup xs) → ImAll K G H xs ds → Im K G H (.ref a) (.tuple ds)
inductive ImAll (K : PySem.W.Frag) (G : Addr → Prop) (H : Hp) : List V → List PyData → Prop
  | nil : ImAll K G H [] []
  | cons {v : V} {vs : List V} {d : PyData} {ds : List PyData} : Im K G H v d → ImAll K G H vs ds → ImAll K G H (v :: vs) (d :: ds)
end
section
variable {K : PySem.W.Frag} {G G' : Addr → Prop} {H H' : Hp}
mutual
theorem Im.mono (hH : ∀ b o, G b → H b = some o → H' b = some o) (hG : ∀ b, G b → G' b) : ∀ (d : PyData) (v : V), Im K G H v d → Im K G' H' v d
  | .none, _, h => by cases h; exact .non
  | .bool b, _, h => by cases h; exact .bl b
  | .int i, _, h => by cases h; exact .int i
  | .str x, _, h => by cases h; exact .str x
  | .list ds, _, h => by
    cases h with
    | lst g e ha => exact .lst (hG _ g) (hH _ _ g e) (Im.monoAll hH hG ds _ ha)
  | .tuple ds, _, h => by
    cases h with
    | tup g e ha => exact .tup (hG _ g) (hH _ _ g e) (Im.monoAll hH hG ds _ ha)
  | .dict _, _, h => by cases h
theorem Im.monoAll (hH : ∀ b o, G b → H b = some o → H' b = some o) (hG : ∀ b, G b → G' b) : ∀ (ds : List PyData) (vs : List V), ImAll K G H vs ds → ImAll K G' H' vs ds
  | [], _, h => by cases h; exact .nil
  | d :: ds, _, h => by
    cases h with
    | cons h1 h2 => exact .cons (Im.mono hH hG d _ h1) (Im.monoAll hH hG ds _ h2)
end
mutual
theorem Im.dp : ∀ (d : PyData) (v : V), Im K G H v d → Dp K H v d
  | .none, _, h => by cases h; exact .non
  | .bool b, _, h => by cases h; exact .bl b
  | .int i, _, h => by cases h; exact .int i
  | .str x, _, h => by cases h; exact .str x
  | .list ds, _, h => by
    cases h with
    | lst g e ha => exact .lst (SqL.of e) (Im.dpAll ds _ ha)
  | .tuple ds, _, h => by
    cases h with
    | tup g e ha => exact .tup (SqT.of e) (Im.dpAll ds _ ha)
  | .dict _, _, h => by cases h
theorem Im.dpAll : ∀ (ds : List PyData) (vs : List V), ImAll K G H vs ds → DpAll K H vs ds
  | [], _, h => by cases h; exact .nil
  | d :: ds, _, h => by
    cases h with
    | cons h1 h2 => exact .cons (Im.dp d _ h1) (Im.dpAll ds _ h2)
end
theorem ImAll.len : ∀ {vs : List V} {ds : List PyData}, ImAll K G H vs ds → vs.length = ds.length
  | _, _, .nil => rfl
  | _, _, .cons _ t => congrArg (· + 1) (ImAll.len t)
theorem ImAll.get : ∀ {vs : List V} {ds : List PyData} {i : Nat} {d : PyData}, ImAll K G H vs ds → ds[i]? = some d → ∃ v, vs[i]? = some v ∧ Im K G H v d
  | _, _, _, _, .nil, e => by simp at e
  | _, _, 0, _, .cons r _, e => by simp at e; subst e; exact ⟨_, rfl, r⟩
  | _, _, i + 1, _, .cons _ t, e => by
    obtain ⟨u, h1, h2⟩ := ImAll.get (i := i) t (by simpa using e)
    exact ⟨u, by simpa using h1, h2⟩
theorem ImAll.getV : ∀ {vs : List V} {ds : List PyData} {i : Nat} {v : V}, ImAll K G H vs ds → vs[i]? = some v → ∃ d, ds[i]? = some d ∧ Im K G H v d
  | _, _, _, _, .nil, e => by simp at e
  | _, _, 0, _, .cons r _, e => by simp at e; subst e; exact ⟨_, rfl, r⟩
  | _, _, i + 1, _, .cons _ t, e => by
    obtain ⟨u, h1, h2⟩ := ImAll.getV (i := i) t (by simpa using e)
    exact ⟨u, by simpa using h1, h2⟩
theorem ImAll.snoc : ∀ {vs : List V} {ds : List PyData} {v : V} {d : PyData}, ImAll K G H vs ds → Im K G H v d → ImAll K G H (vs ++ [v]) (ds ++ [d])
  | _, _, _, _, .nil, r => .cons r .nil
  | _, _, _, _, .cons q t, r => .cons q (ImAll.snoc t r)
theorem ImAll.app : ∀ {vs : List V} {ds : List PyData} {us : List V} {es : List PyData}, ImAll K G H vs ds → ImAll K G H us es → ImAll K G H (vs ++ us) (ds ++ es)
  | _, _, _, _, .nil, r => r
  | _, _, _, _, .cons q t, r => .cons q (ImAll.app t r)
end
section
variable {K : PySem.W.Frag} {H : Hp}
theorem DpAll.len : ∀ {vs : List V} {ds : List PyData}, DpAll K H vs ds → vs.length = ds.length
  | _, _, .nil => rfl
  | _, _, .cons _ t => congrArg (· + 1) (DpAll.len t)
theorem DpAll.get : ∀ {vs : List V} {ds : List PyData} {i : Nat} {d : PyData}, DpAll K H vs ds → ds[i]? = some d → ∃ v, vs[i]? = some v ∧ Dp K H v d
  | _, _, _, _, .nil, e => by simp at e
  | _, _, 0, _, .cons r _, e => by simp at e; subst e; exact ⟨_, rfl, r⟩
  | _, _, i + 1, _, .cons _ t, e => by
    obtain ⟨u, h1, h2⟩ := DpAll.get (i := i) t (by simpa using e)
    exact ⟨u, by simpa using h1, h2⟩
/-- the name of a value's class -/
def tyN : PyData → String
  | .none => "NoneType" | .bool _ => "bool" | .int _ => "int" | .str _ => "str" | .list _ => "list" | .tuple _ => "tuple" | .dict _ => "dict"
theorem tyx_of : ∀ {x : V} {d : PyData}, Dp K H x d → TyX K H x (.type (tyN d))
  | _, _, .non => .base .non
  | _, _, .bl b => .base (.bl b)
  | _, _, .int i => .base (.int i)
  | _, _, .str x => .base (.str x)
  | _, _, .lst h _ => by
    rcases h with (h | ⟨o, h⟩) | ⟨o, its, n, hk, hc, _⟩
    · exact .base (.lst h)
    · exact .base (.frz h)
    · exact .kList hk hc
  | _, _, .tup h _ => by
    rcases h with (h | ⟨o, h⟩) | ⟨o, its, n, hk, hc, _⟩
    · exact .base (.tup h)
    · exact .fTuple h
    · exact .kTuple hk hc
def isI : PyData → Bool
  | .int _ => true | .bool _ => true | _ => false
def isB : PyData → Bool
  | .bool _ => true | _ => false
def isS : PyData → Bool
  | .str _ => true | _ => false
def isT : PyData → Bool
  | .tuple _ => true | _ => false
def isL : PyData → Bool
  | .list _ => true | _ => false
theorem kitI (d : PyData) : kitB (tyN d) "int" = some (isI d) := by cases d <;> (show kitB _ "int" = _; simp only [tyN, isI]; decide +kernel)
theorem kitBo (d : PyData) : kitB (tyN d) "bool" = some (isB d) := by cases d <;> (show kitB _ "bool" = _; simp only [tyN, isB]; decide +kernel)
theorem kitS (d : PyData) : kitB (tyN d) "str" = some (isS d) := by cases d <;> (show kitB _ "str" = _; simp only [tyN, isS]; decide +kernel)
theorem kitT (d : PyData) : kitB (tyN d) "tuple" = some (isT d) := by cases d <;> (show kitB _ "tuple" = _; simp only [tyN, isT]; decide +kernel)
theorem kitL (d : PyData) : kitB (tyN d) "list" = some (isL d) := by cases d <;> (show kitB _ "list" = _; simp only [tyN, isL]; decide +kernel)
theorem isi_int {x : V} {d : PyData} {Q : VK} (h : Dp K H x d) (q : Q (.bl (isI d)) H) : rIsi K [x, .ty "int"] H Q := ⟨x, .ty "int", _, _, _, rfl, .ty _, tyx_of h, kit_ty (kitI d), q⟩
theorem isi_bool {x : V} {d : PyData} {Q : VK} (h : Dp K H x d) (q : Q (.bl (isB d)) H) : rIsi K [x, .ty "bool"] H Q := ⟨x, .ty "bool", _, _, _, rfl, .ty _, tyx_of h, kit_ty (kitBo d), q⟩
theorem isi_str {x : V} {d : PyData} {Q : VK} (h : Dp K H x d) (q : Q (.bl (isS d)) H) : rIsi K [x, .ty "str"] H Q := ⟨x, .ty "str", _, _, _, rfl, .ty _, tyx_of h, kit_ty (kitS d), q⟩
theorem isi_tup {x : V} {d : PyData} {Q : VK} (h : Dp K H x d) (q : Q (.bl (isT d)) H) : rIsi K [x, .ty "tuple"] H Q := ⟨x, .ty "tuple", _, _, _, rfl, .ty _, tyx_of h, kit_ty (kitT d), q⟩
theorem isi_list {x : V} {d : PyData} {Q : VK} (h : Dp K H x d) (q : Q (.bl (isL d)) H) : rIsi K [x, .ty "list"] H Q := ⟨x, .ty "list", _, _, _, rfl, .ty _, tyx_of h, kit_ty (kitL d), q⟩
end
/-! ### the stream of draws -/
structure Stm (H : Hp) (s l : Addr) : Prop where
  ex : ∃ (a b m : Int) (ns : List Int), H s = some (.lst [.ref l, .int a, .int b, .int m]) ∧ H l = some (.lst (ns.map V.int)) ∧ ns.length ≤ 63 ∧ 0 ≤ a ∧ 0 ≤ b ∧ 0 ≤ m ∧ m < 2147483647
theorem Stm.keep {H H' : Hp} {s l : Addr} (h : Stm H s l) (e : Same H H') : Stm H' s l := by
  obtain ⟨a, b, m, ns, h1, h2, r⟩ := h.ex
  exact ⟨a, b, m, ns, e _ _ h1, e _ _ h2, r⟩
/-- another object is changed -/
theorem Stm.put {H : Hp} {s l r : Addr} {o : HO} (h : Stm H s l) (h1 : s ≠ r) (h2 : l ≠ r) : Stm (upd H r o) s l := by
  obtain ⟨a, b, m, ns, e1, e2, q⟩ := h.ex
  exact ⟨a, b, m, ns, by rw [upd_ne h1]; exact e1, by rw [upd_ne h2]; exact e2, q⟩
theorem Stm.at_s {H : Hp} {s l : Addr} (h : Stm H s l) : ∃ o, H s = some o := by
  obtain ⟨a, b, m, ns, e1, e2, q⟩ := h.ex
  exact ⟨_, e1⟩
theorem Stm.at_l {H : Hp} {s l : Addr} (h : Stm H s l) : ∃ o, H l = some o := by
  obtain ⟨a, b, m, ns, e1, e2, q⟩ := h.ex
  exact ⟨_, e2⟩
/-- a constant of the module -/
def GV (mg : Str → Option Value) (x : Str) (v : V) : Prop := ∃ u, mg x = some u ∧ RelV v u
theorem pe_gC {X : Cx} {x : Str} {v : V} {pos : Pos} (hg : Gl X x) (h : GV X.mg x v) (hd : (x == ("__debug__" : Str)) = false := by decide) : PE X (.Name x pos) (tC v) := by
  obtain ⟨u, e, r⟩ := h
  exact pe_glob hg e r hd

/-! ### 'a' * 40 -/
section
variable {X : Cx}
theorem op_mulS : OpR X (binaryOp .Mult) (fun x y H Q => ∃ z i, x = .str z ∧ y = .int i ∧ MulOk z i ∧ Q (.str (Txt.mul z i)) H) := by
  intro pins s σ H x y v u Q I rx ry h
  obtain ⟨z, i, rfl, rfl, hk, q⟩ := h
  obtain ⟨t, rfl⟩ := rx
  obtain ⟨t', rfl⟩ := ry
  exact SB.mul hk fun t2 k => ⟨.str _, H, I.tok k, ⟨_, rfl⟩, q⟩
end
/-! ### data written out: each part of it is new -/
section
variable {K : PySem.W.Frag}
/-- an expression that makes data and changes nothing else -/
def Lit (K : PySem.W.Frag) (σ : L2.St) (t : TE) (d : PyData) : Prop := ∀ (H : Hp) (Q : VK), (∀ v H', Same H H' → Im K (fun b => H b = Option.none) H' v d → Q v H') → t σ H Q
def LitA (K : PySem.W.Frag) (σ : L2.St) (t : TA) (ds : List PyData) : Prop := ∀ (H : Hp) (Q : List V → Hp → Prop), (∀ vs H', Same H H' → ImAll K (fun b => H b = Option.none) H' vs ds → Q vs H') → t σ H Q
variable {σ : L2.St}
theorem lit_int {i : Int} : Lit K σ (tC (.int i)) (.int i) := fun H Q h => h _ H (Same.refl H) (.int i)
theorem lit_str {x : Str} : Lit K σ (tC (.str x)) (.str x) := fun H Q h => h _ H (Same.refl H) (.str x)
theorem lit_bl {b : Bool} : Lit K σ (tC (.bl b)) (.bool b) := fun H Q h => h _ H (Same.refl H) (.bl b)
theorem lit_non : Lit K σ (tC .non) .none := fun H Q h => h _ H (Same.refl H) .non
theorem litA_nil : LitA K σ tNil [] := fun H Q h => h _ H (Same.refl H) .nil
theorem litA_cons {t : TE} {ta : TA} {d : PyData} {ds : List PyData} (h1 : Lit K σ t d) (h2 : LitA K σ ta ds) : LitA K σ (tCons t ta) (d :: ds) := fun H Q h =>
  h1 H _ fun v H1 s1 i1 => h2 H1 _ fun vs H2 s2 i2 => h _ H2 (s1.trans s2) (.cons (Im.mono (fun b o _ e => s2 b o e) (fun _ e => e) _ _ i1) (Im.monoAll (fun _ _ _ e => e) (fun b e => s1.free e) _ _ i2))
theorem lit_tup {ta : TA} {ds : List PyData} (h1 : LitA K σ ta ds) (hz : ds.length ≤ sizeLine) : Lit K σ (tTup ta) (.tuple ds) := fun H Q h =>
  h1 H _ fun vs H1 s1 i1 => ⟨by rw [i1.len]; exact hz, fun p np => h _ _ (s1.trans (same_upd np)) (.tup (s1.free np) upd_same (Im.monoAll (fun b o _ e => same_upd np b o e) (fun _ e => e) _ _ i1))⟩
theorem lit_lst {ta : TA} {ds : List PyData} (h1 : LitA K σ ta ds) (hz : ds.length ≤ sizeLine) : Lit K σ (tLst ta) (.list ds) := fun H Q h =>
  h1 H _ fun vs H1 s1 i1 => ⟨by rw [i1.len]; exact hz, fun p np => h _ _ (s1.trans (same_upd np)) (.lst (s1.free np) upd_same (Im.monoAll (fun b o _ e => same_upd np b o e) (fun _ e => e) _ _ i1))⟩
/-- what is an int -/
theorem lit_neg {t : TE} {i : Int} (h1 : Lit K σ t (.int i)) : Lit K σ (tUn (rU fun i => .int (-i)) t) (.int (-i)) := fun H Q h =>
  h1 H _ fun v H1 s1 i1 => by
    cases i1
    exact ⟨_, rfl, h _ H1 s1 (.int _)⟩
theorem lit_sub {t u : TE} {i j : Int} (h1 : Lit K σ t (.int i)) (h2 : Lit K σ u (.int j)) : Lit K σ (tOp (rI0 fun i j => .int (i - j)) t u) (.int (i - j)) := fun H Q h =>
  h1 H _ fun v H1 s1 i1 => h2 H1 _ fun v2 H2 s2 i2 => by
    cases i1
    cases i2
    exact ⟨_, _, rfl, rfl, h _ H2 (s1.trans s2) (.int _)⟩
theorem lit_pow {t u : TE} {i j : Int} (h1 : Lit K σ t (.int i)) (h2 : Lit K σ u (.int j)) (hc : CPow i j) : Lit K σ (tOp (rI CPow fun i j => .int (i ^ j.toNat)) t u) (.int (i ^ j.toNat)) := fun H Q h =>
  h1 H _ fun v H1 s1 i1 => h2 H1 _ fun v2 H2 s2 i2 => by
    cases i1
    cases i2
    exact ⟨_, _, rfl, rfl, hc, h _ H2 (s1.trans s2) (.int _)⟩
theorem lit_mulS {t u : TE} {z : Str} {j : Int} (h1 : Lit K σ t (.str z)) (h2 : Lit K σ u (.int j)) (hc : MulOk z j) : Lit K σ (tOp (fun x y H Q => ∃ z i, x = .str z ∧ y = .int i ∧ MulOk z i ∧ Q (.str (Txt.mul z i)) H) t u) (.str (Txt.mul z j)) := fun H Q h =>
  h1 H _ fun v H1 s1 i1 => h2 H1 _ fun v2 H2 s2 i2 => by
    cases i1
    cases i2
    exact ⟨_, _, rfl, rfl, hc, h _ H2 (s1.trans s2) (.str _)⟩
end
section
variable {X : Cx} {pos : Pos}
/-- a built-in class as a value -/
theorem pe_ty {x : Str} (n : String) (hg : Gl X x) (hm : X.mg x = Option.none) (hv : bootBuiltins x = some (.type n)) (hn : x ≠ "__name__" := by decide) (hd : (x == ("__debug__" : Str)) = false := by decide) : PE X (.Name x pos) (tC (.ty n)) :=
  pe_bltn hg hm hv rfl hn hd
end
section
variable {K : PySem.W.Frag} {H H' : Hp}
theorem same_sqT {a : Addr} {xs : List V} (e : Same H H') (h : SqT K H a xs) : SqT K H' a xs := by
  rcases h with (h | ⟨o, h⟩) | h
  · exact .inl (.inl (e _ _ h))
  · exact .inl (.inr ⟨o, e _ _ h⟩)
  · exact .inr h
mutual
theorem dp_same (e : Same H H') : ∀ (d : PyData) (v : V), Dp K H v d → Dp K H' v d
  | .none, _, h => by cases h; exact .non
  | .bool b, _, h => by cases h; exact .bl b
  | .int i, _, h => by cases h; exact .int i
  | .str x, _, h => by cases h; exact .str x
  | .list ds, _, h => by
    cases h with
    | lst g ha => exact .lst (e.seq g) (dp_sameAll e ds _ ha)
  | .tuple ds, _, h => by
    cases h with
    | tup g ha => exact .tup (same_sqT e g) (dp_sameAll e ds _ ha)
  | .dict _, _, h => by cases h
theorem dp_sameAll (e : Same H H') : ∀ (ds : List PyData) (vs : List V), DpAll K H vs ds → DpAll K H' vs ds
  | [], _, h => by cases h; exact .nil
  | d :: ds, _, h => by
    cases h with
    | cons h1 h2 => exact .cons (dp_same e d _ h1) (dp_sameAll e ds _ h2)
end
end
theorem small_of {n : Nat} (h : n ≤ 1000) : n ≤ sizeLine := Nat.le_of_lt (small1000 h)
theorem seq_asg {te : TE} {g : TG} {u : TS} {D : Ends} {σ : L2.St} {H : Hp} (h : te σ H fun x H1 => g x σ H1 (u D)) : tSeq (tAsg te g) u D σ H := h
theorem gname {i : Nat} {v : V} {σ : L2.St} {H : Hp} {Q : L2.St → Hp → Prop} (h : Q (σ.set i (some v)) H) : gName i v σ H Q := h
theorem nxp {N : L2.St → Hp → Prop} {R : VK} {B C : L2.St → Hp → Prop} {σ : L2.St} {H : Hp} (h : N σ H) : ({ nx := N, rt := R, bk := B, ct := C } : Ends).nx σ H := h
theorem seq_if {c : TT} {t t2 : TS} {u : TS} {D : Ends} {σ : L2.St} {H : Hp} (h : c σ H fun b H1 => if b = true then t { D with nx := u D } σ H1 else t2 { D with nx := u D } σ H1) : tSeq (tIfS c t t2) u D σ H := h
theorem seq_ifN {c : TT} {t : TS} {u : TS} {D : Ends} {σ : L2.St} {H : Hp} (h : c σ H fun b H1 => if b = true then t { D with nx := u D } σ H1 else u D σ H1) : tSeq (tIfS c t tNext) u D σ H := h
theorem seq_any {t : TS} {u : TS} {D : Ends} {σ : L2.St} {H : Hp} (h : t { D with nx := u D } σ H) : tSeq t u D σ H := h
theorem asg1 {te : TE} {g : TG} {D : Ends} {σ : L2.St} {H : Hp} (h : te σ H fun x H1 => g x σ H1 D.nx) : tAsg te g D σ H := h
section
variable {K : PySem.W.Frag} {G G' : Addr → Prop} {H H' : Hp}
mutual
theorem Im.mono2 (hH : ∀ b o, G b → H b = some o → H' b = some o) (hG : ∀ b o, H b = some o → G b → G' b) : ∀ (d : PyData) (v : V), Im K G H v d → Im K G' H' v d
  | .none, _, h => by cases h; exact .non
  | .bool b, _, h => by cases h; exact .bl b
  | .int i, _, h => by cases h; exact .int i
  | .str x, _, h => by cases h; exact .str x
  | .list ds, _, h => by
    cases h with
    | lst g e ha => exact .lst (hG _ _ e g) (hH _ _ g e) (Im.mono2All hH hG ds _ ha)
  | .tuple ds, _, h => by
    cases h with
    | tup g e ha => exact .tup (hG _ _ e g) (hH _ _ g e) (Im.mono2All hH hG ds _ ha)
  | .dict _, _, h => by cases h
theorem Im.mono2All (hH : ∀ b o, G b → H b = some o → H' b = some o) (hG : ∀ b o, H b = some o → G b → G' b) : ∀ (ds : List PyData) (vs : List V), ImAll K G H vs ds → ImAll K G' H' vs ds
  | [], _, h => by cases h; exact .nil
  | d :: ds, _, h => by
    cases h with
    | cons h1 h2 => exact .cons (Im.mono2 hH hG d _ h1) (Im.mono2All hH hG ds _ h2)
end
end
theorem join_set {c : Prop} [Decidable c] {v : V} {i : Nat} {u : TS} {D : Ends} {σ : L2.St} {H : Hp} (P : L2.St → Prop) (h : ∀ σ2, P σ2 → u D σ2 H) (h1 : c → P (σ.set i (some v))) (h2 : ¬ c → P σ) :
    if c then tAsg (tC v) (gName i) { D with nx := u D } σ H else u D σ H := by
  by_cases hc : c
  · rw [if_pos hc]
    exact h _ (h1 hc)
  · rw [if_neg hc]
    exact h _ (h2 hc)
/-- a constant tuple of the module, by its data -/
def GC (K : PySem.W.Frag) (mg : Str → Option Value) (x : Str) (d : PyData) : Prop := ∃ (u : Value) (v : V), mg x = some u ∧ RelV v u ∧ Dp K (fun _ => Option.none) v d
theorem none_same (H : Hp) : Same (fun _ => Option.none) H := fun _ _ e => nomatch e
theorem kt_of {K : PySem.W.Frag} {a : Addr} {its : Array Value} {n : Nat} {dd : Option Addr} {sl : Array (Option Value)} {xs : List V} {ds : List PyData} (h : K.lookup a = some ⟨.type "tuple", dd, .seq its n, sl⟩) (hz : its.size ≤ 1000) (hv : Vals xs its.toList) (ha : DpAll K (fun _ => Option.none) xs ds) :
    Dp K (fun _ => Option.none) (.ref a) (.tuple ds) := .tup (.inr ⟨_, its, n, h, rfl, rfl, Nat.le_trans hz (by decide), hv⟩) ha
/-! ### list.extend(tuple) -/
section
open Builtin
theorem extT (l b : Addr) (xs ys : Array Value) (n k : Nat) (dd : Option Addr) (sl : Array (Option Value)) (hlong : ¬(!xs.isEmpty && Builtin.List.listTooLong (xs.size + ys.size)) = true) (h1 : xs.size ≤ sizeLine) (h2 : xs.size + ys.size ≤ sizeLine + 1) :
    Meets (Builtin.«list.extend» ⟨[.ref l, .ref b], []⟩) (fun _ R s => s.heap.get? l = some { cls := .type "list", dict := none, data := .seq xs n, slots := #[] } ∧ s.heap.get? b = some { cls := .type "tuple", dict := dd, data := .seq ys k, slots := sl } ∧ R (.ok (.ret Value.none)) { s with heap := s.heap.update l (Obj.mapSeq fun x => x ++ ys), toks := s.toks }) := by
  refine .of_wp fun prog w A R s h => ?_
  obtain ⟨hp, g, d, tk, os⟩ := s
  obtain ⟨ea, eb, q⟩ := h
  have i1 := AutoSeq1.idx_int
  have i2 := AutoSeq1.sub_tuple_tuple
  have i3 := AutoSeq1.sub_list_list
  have i4 := AutoSeq1.sub_tuple_list
  have i5 := AutoSeq1.sub_list_tuple
  have hz : (xs ++ ys).size ≤ sizeLine + 1 := by rw [Array.size_append]; exact h2
  wp_walk using (wpAny_updateSeq ea rfl (hz := h1) (_hz' := hz)), AutoSeq1.wpAny_loadPart' ea, AutoSeq1.wpAny_loadPart' eb
  exact ⟨_, rfl, q⟩
end
section
variable {X : Cx}
def rExtT (K : PySem.W.Frag) : V → List V → Hp → VK → Prop := fun x vs H Q => ∃ l b xs zs, x = .ref l ∧ vs = [.ref b] ∧ H l = some (.lst xs) ∧ SqT K H b zs ∧ xs.length + zs.length ≤ sizeLine ∧ Q .non (upd H l (.lst (xs ++ zs)))
theorem mt_extT : MtR X "list.extend" (rExtT X.K) := by
  intro pins s σ H x vs v us Q I rx rv h
  obtain ⟨l, b, xs, zs, rfl, rfl, hH, hB, hz, q⟩ := h
  cases rx
  obtain ⟨u, rfl, ru⟩ := rv.one
  cases ru
  obtain ⟨z, its, n, r, hl, e⟩ := I.lstM hH
  obtain ⟨its2, r2, ⟨⟨oc, od, dt, sl⟩, e2, ec, k2, ed⟩, _⟩ := I.tuple hB
  simp only at ec ed
  subst ec ed
  have z1 := r.length
  have z2 := r2.length
  have hsz : its.toArray.size + its2.toArray.size ≤ sizeLine := by rw [List.size_toArray, List.size_toArray]; omega
  have nl : ¬ (!its.toArray.isEmpty && Builtin.List.listTooLong (its.toArray.size + its2.toArray.size)) = true := by
    rw [notLongL hsz, Bool.and_false]
    exact Bool.false_ne_true
  refine call_meets F.slot_list_extend ⟨_, e, rfl⟩ F.entry_list_extend (F.args_list_extend_2 _ _) (extT l b its.toArray its2.toArray n k2 od sl nl (by rw [List.size_toArray]; omega) (by omega)) ⟨e, e2, ?_⟩
  refine ⟨.non, _, I.lset (its' := its ++ its2) hH e (by simp) (r.append r2) ?_, rfl, q⟩
  rw [List.length_append]
  omega
/-! ### x in (a, b, ..), data of any depth -/
def rInT (K : PySem.W.Frag) : R2 := fun x y H Q => ∃ d ds, Dp K H x d ∧ Dp K H y (.tuple ds) ∧ SeqAt.shaped d = true ∧ SeqAt.shaped (.tuple ds) = true ∧ Q (.bl (ds.any fun z => PyData.eqv z d)) H
def rNotInT (K : PySem.W.Frag) : R2 := fun x y H Q => ∃ d ds, Dp K H x d ∧ Dp K H y (.tuple ds) ∧ SeqAt.shaped d = true ∧ SeqAt.shaped (.tuple ds) = true ∧ Q (.bl (!ds.any fun z => PyData.eqv z d)) H
theorem op_inT (hu : X.A.units + 65 < cLine) : OpR X (compareOp .In) (rInT X.K) := by
  intro pins s σ H x y v u Q I rx ry h
  obtain ⟨d, ds, hd, he, sd, se, q⟩ := h
  obtain ⟨as, r1⟩ := Dp.reads I d x v hd rx
  obtain ⟨bs, r2⟩ := Dp.reads I (.tuple ds) y u he ry
  exact SeqAt.in_tuple_reads r2 r1 (SeqAt.canLay_of_shaped se) (SeqAt.canLay_of_shaped sd) (room_in_shaped sd hu) ⟨.bl _, H, I, rfl, q⟩
theorem op_notInT (hu : X.A.units + 65 < cLine) : OpR X (compareOp .NotIn) (rNotInT X.K) := by
  intro pins s σ H x y v u Q I rx ry h
  obtain ⟨d, ds, hd, he, sd, se, q⟩ := h
  obtain ⟨as, r1⟩ := Dp.reads I d x v hd rx
  obtain ⟨bs, r2⟩ := Dp.reads I (.tuple ds) y u he ry
  exact SeqAt.notIn_tuple_reads r2 r1 (SeqAt.canLay_of_shaped se) (SeqAt.canLay_of_shaped sd) (room_in_shaped sd hu) ⟨.bl _, H, I, rfl, q⟩
theorem units65 {k : Nat} {A : Around} (r : Room k A) : A.units + 65 < cLine := by
  have := r.un
  omega
end
section
variable {K : PySem.W.Frag} {H : Hp}
theorem DpAll.dropt : ∀ {xs : List V} {ds : List PyData} (n : Nat), DpAll K H xs ds → DpAll K H (xs.drop n) (ds.drop n)
  | _, _, 0, r => r
  | _, _, _ + 1, .nil => .nil
  | _, _, n + 1, .cons _ t => DpAll.dropt n t
theorem DpAll.taket : ∀ {xs : List V} {ds : List PyData} (n : Nat), DpAll K H xs ds → DpAll K H (xs.take n) (ds.take n)
  | _, _, 0, _ => .nil
  | _, _, _ + 1, .nil => .nil
  | _, _, n + 1, .cons r t => .cons r (DpAll.taket n t)
theorem DpAll.app : ∀ {xs ys : List V} {ds es : List PyData}, DpAll K H xs ds → DpAll K H ys es → DpAll K H (xs ++ ys) (ds ++ es)
  | _, _, _, _, .nil, r => r
  | _, _, _, _, .cons q t, r => .cons q (DpAll.app t r)
theorem DpAll.getV : ∀ {vs : List V} {ds : List PyData} {i : Nat} {v : V}, DpAll K H vs ds → vs[i]? = some v → ∃ d, ds[i]? = some d ∧ Dp K H v d
  | _, _, _, _, .nil, e => by simp at e
  | _, _, 0, _, .cons r _, e => by simp at e; subst e; exact ⟨_, rfl, r⟩
  | _, _, i + 1, _, .cons _ t, e => by
    obtain ⟨u, h1, h2⟩ := DpAll.getV (i := i) t (by simpa using e)
    exact ⟨u, by simpa using h1, h2⟩
end
/-- a part of a tuple, also the whole -/
theorem cut_nat (xs : List V) (i j : Nat) (h1 : i ≤ xs.length) (h2 : j ≤ xs.length) : cutV xs (some (i : Int)) (some (j : Int)) = (xs.drop i).take (j - i) := by
  unfold cutV
  rw [HT.sIx_nat, HT.sIx_nat, Nat.min_eq_left h1, Nat.min_eq_left h2]
theorem slA_nat {K : PySem.W.Frag} {H : Hp} {a : Addr} {xs : List V} {i j : Nat} {Q : VK} (hs : SqT K H a xs) (h1 : i ≤ xs.length) (h2 : j ≤ xs.length) (h : ∀ b H', Same H H' → SqT K H' b ((xs.drop i).take (j - i)) → (∀ c, H c = Option.none → c ≠ b → H' c = Option.none) → Q (.ref b) H') :
    rSlA K (.ref a) (some (i : Int)) (some (j : Int)) H Q := by
  refine ⟨a, xs, rfl, hs, fun z => ?_, fun z p np => ?_⟩
  · rw [HT.sIx_nat, HT.sIx_nat, Nat.min_eq_left h1, Nat.min_eq_left h2] at z
    refine h a H (Same.refl H) ?_ fun _ e _ => e
    rw [z.1, z.2, List.drop_zero, Nat.sub_zero, List.take_length]
    exact hs
  · rw [cut_nat xs i j h1 h2]
    exact h p _ (same_upd np) (SqT.of upd_same) fun c e hc => by rw [upd_ne hc]; exact e
theorem cat_dp {K : PySem.W.Frag} {H : Hp} {x y : V} {ds es : List PyData} {Q : VK} (hx : Dp K H x (.tuple ds)) (hy : Dp K H y (.tuple es)) (hne : ds ≠ []) (hz : ds.length + es.length ≤ 1000) (h : ∀ v H', Same H H' → Dp K H' v (.tuple (ds ++ es)) → Q v H') : rCatT K x y H Q := by
  cases hx with
  | @tup a xs _ sx ax =>
  cases hy with
  | @tup b ys _ sy ay =>
  have lx := DpAll.len ax
  have ly := DpAll.len ay
  refine ⟨a, b, xs, ys, rfl, rfl, sx, sy, fun z => ?_, small_of (by omega), fun z => ?_, fun z p np => ?_⟩
  · rw [z] at lx
    exact hne (List.eq_nil_of_length_eq_zero lx.symm)
  · subst z
    cases ay
    rw [List.append_nil] at h
    exact h _ H (Same.refl H) (.tup sx ax)
  · exact h _ _ (same_upd np) (.tup (SqT.of upd_same) (dp_sameAll (same_upd np) _ _ (DpAll.app ax ay)))
theorem cut_from1 (v : V) (xs : List V) : cutV (v :: xs) (some 1) Option.none = xs := by
  unfold cutV
  rw [show (some (1 : Int)) = some ((1 : Nat) : Int) from rfl, HT.sIx_nat, HT.sIx_none, List.length_cons, Nat.min_eq_left (by omega), List.drop_succ_cons, List.drop_zero, Nat.add_sub_cancel]
  exact List.take_length
section
variable {σ : L2.St} {H : Hp}
theorem args1 {t : TE} {ta : TA} {Q : List V → Hp → Prop} (h : t σ H fun x H1 => ta σ H1 fun xs H2 => Q (x :: xs) H2) : tCons t ta σ H Q := h
theorem tup_of {ta : TA} {Q : VK} (h : ta σ H fun xs H1 => xs.length ≤ sizeLine ∧ ∀ p, H1 p = Option.none → Q (.ref p) (upd H1 p (.tup xs))) : tTup ta σ H Q := h
theorem const_of {v : V} {Q : VK} (h : Q v H) : tC v σ H Q := h
theorem op_of {r : R2} {ta tb : TE} {Q : VK} (h : ta σ H fun x H1 => tb σ H1 fun y H2 => r x y H2 Q) : tOp r ta tb σ H Q := h
theorem nil_of {Q : List V → Hp → Prop} (h : Q [] H) : tNil σ H Q := h
end
section
variable {σ : L2.St} {H : Hp}
theorem call_of {sp : Sp} {dvs : List V} {E : XK} {t : TA} {Q : VK} (h : t σ H fun vs H1 => sp (vs ++ dvs) H1 Q E) : tCall sp dvs E t σ H Q := h
theorem args_and {r : R2} {sp : Sp} {dvs : List V} {E : XK} {t : TA} {tb tc : TE} {D : Ends} (h : t σ H fun vs H1 => sp (vs ++ dvs) H1 (fun x H1 => tb σ H1 fun y H2 => r x y H2 fun x H1 => ∃ c, x = .bl c ∧ if c = true then tc σ H1 D.rt else D.rt (.bl false) H1) E) : tRet (tAndV (tOp r (tCall sp dvs E t) tb) tc) D σ H := h
end
theorem relStr (x : Str) (t : Tok) : RelV (.str x) (.str x t) := ⟨_, rfl⟩
theorem relInt (i : Int) (t : Tok) : RelV (.int i) (.int i t) := ⟨_, rfl⟩
theorem relRef (a : Addr) : RelV (.ref a) (.ref a) := rfl
/-! ### a < b of data whose places are alike -/
section
variable {X : Cx}
def rLtD (K : PySem.W.Frag) : R2 := fun x y H Q => ∃ d e, Dp K H x d ∧ Dp K H y e ∧ PySem.W.alike d e = true ∧ d ≠ .none ∧ d.depth ≤ 8 ∧ Q (.bl (PySem.W.dataLt d e)) H
theorem op_ltD (hu : X.A.units + 64 < cLine) : OpR X (compareOp .Lt) (rLtD X.K) := by
  intro pins s σ H x y v u Q I rx ry h
  obtain ⟨d, e, hd, he, ha, hn, hz, q⟩ := h
  obtain ⟨as, r1⟩ := Dp.reads I d x v hd rx
  obtain ⟨bs, r2⟩ := Dp.reads I e y u he ry
  have R := PySem.W.rcLt_alike d e X.A s v u as bs r1 r2 ha hn (Nat.lt_of_le_of_lt (Nat.add_le_add_left (Nat.le_trans (Nat.min_le_left _ _) (Nat.le_trans hz (by decide : 8 ≤ 64))) _) hu)
  have z : wpAny (model X.prog X.w) X.A (compareOp .Lt v u) (EP X pins σ Q) X.xe s := R X.prog X.w X.xe (EP X pins σ Q) ⟨.bl _, H, I, rfl, q⟩
  exact z
end
/-! ### zip of two tuples -/
theorem walk_zipT {K : PySem.W.Frag} {a b : Addr} {xs ys : List V} {n : Nat} (hn : n = min xs.length ys.length) : Walk (RZ.ItzT K a b) n (fun H => SqT K H a xs ∧ SqT K H b ys) (YPair (fun i => xs[i]?) (fun i => ys[i]?)) := by
  subst hn
  refine ⟨fun i H hi q => ?_, fun H q => ⟨xs, ys, q.1, q.2, by omega⟩, fun i H v H' hi q y => ?_⟩
  · have h1 : i < xs.length := by omega
    have h2 : i < ys.length := by omega
    exact ⟨xs, ys, _, _, q.1, q.2, List.getElem?_eq_getElem h1, List.getElem?_eq_getElem h2⟩
  · obtain ⟨T, x, y, e1, e2, e3, e4, e5⟩ := y
    exact ⟨T, x, y, e1, e2, e3, e4 xs q.1, e5 ys q.2⟩
/-! ### () + t -/
section
open Builtin
theorem addE (l b : Addr) (xs ys : Array Value) (n k : Nat) (dd dd2 : Option Addr) (sl sl2 : Array (Option Value)) (he : xs.isEmpty = true) :
    Meets (Builtin.«tuple.__add__» ⟨[.ref l, .ref b], []⟩) (fun _ R s => s.heap.get? l = some { cls := .type "tuple", dict := dd, data := .seq xs n, slots := sl } ∧ s.heap.get? b = some { cls := .type "tuple", dict := dd2, data := .seq ys k, slots := sl2 } ∧ R (.ok (.ret (Value.ref b))) s) := by
  refine .of_wp fun prog w A R s h => ?_
  obtain ⟨hp, g, d, tk, os⟩ := s
  obtain ⟨ea, eb, q⟩ := h
  have i1 := AutoSeq1.idx_int
  have i2 := AutoSeq1.sub_tuple_tuple
  have i3 := AutoSeq1.sub_list_list
  have i4 := AutoSeq1.sub_tuple_list
  have i5 := AutoSeq1.sub_list_tuple
  wp_walk using AutoSeq1.wpAny_loadPart' ea, AutoSeq1.wpAny_loadPart' eb
  exact ⟨_, rfl, q⟩
end
section
variable {X : Cx}
def rCatA (K : PySem.W.Frag) : R2 := fun x y H Q => ∃ a b xs ys, x = .ref a ∧ y = .ref b ∧ SqT K H a xs ∧ SqT K H b ys ∧ xs.length + ys.length ≤ sizeLine ∧ (xs = [] → Q (.ref b) H) ∧ (ys = [] → Q (.ref a) H) ∧ ∀ p, H p = Option.none → Q (.ref p) (upd H p (.tup (xs ++ ys)))
theorem op_catA : OpR X (binaryOp .Add) (rCatA X.K) := by
  intro pins s σ H x y v u Q I rx ry h
  obtain ⟨a, b, xs, ys, rfl, rfl, ha, hb, hz, q1, q2, q3⟩ := h
  by_cases hx : xs = []
  · subst hx
    cases rx
    cases ry
    obtain ⟨its, r1, p1, _⟩ := I.tuple ha
    obtain ⟨its2, r2, p2, _⟩ := I.tuple hb
    cases r1
    obtain ⟨⟨oc, od, dt, sl⟩, e1, c1, n, d1⟩ := p1
    obtain ⟨⟨oc2, od2, dt2, sl2⟩, e2, c2, n2, d2⟩ := p2
    simp only at c1 d1 c2 d2
    subst c1 d1 c2 d2
    exact concat_meets ⟨_, e1, rfl⟩ ⟨_, e2, rfl⟩ noFill_tuple_add seq_tuple_add PySem.F.slot_tuple_add PySem.F.entry_tuple_add (PySem.F.args_tuple_add_2 _ _)
      (addE a b #[] its2.toArray n n2 od od2 sl sl2 rfl) ⟨e1, e2, ⟨.ref b, H, I, rfl, q1 rfl⟩⟩
  · exact op_catT pins s σ H (.ref a) (.ref b) v u Q I rx ry ⟨a, b, xs, ys, rfl, rfl, ha, hb, hx, hz, q2, fun _ p np => q3 p np⟩
end
section
variable {K : PySem.W.Frag} {G : Addr → Prop} {H : Hp}
theorem ImAll.dropt : ∀ {xs : List V} {ds : List PyData} (n : Nat), ImAll K G H xs ds → ImAll K G H (xs.drop n) (ds.drop n)
  | _, _, 0, r => r
  | _, _, _ + 1, .nil => .nil
  | _, _, n + 1, .cons _ t => ImAll.dropt n t
theorem ImAll.taket : ∀ {xs : List V} {ds : List PyData} (n : Nat), ImAll K G H xs ds → ImAll K G H (xs.take n) (ds.take n)
  | _, _, 0, _ => .nil
  | _, _, _ + 1, .nil => .nil
  | _, _, n + 1, .cons r t => .cons r (ImAll.taket n t)
theorem im_new {xs : List V} {ds : List PyData} {p : Addr} (np : H p = Option.none) (ia : ImAll K G H xs ds) : Im K (fun b => G b ∨ H b = Option.none) (upd H p (.tup xs)) (.ref p) (.tuple ds) :=
  .tup (.inr np) upd_same (Im.monoAll (fun b o _ e => same_upd np b o e) (fun _ g => .inl g) _ _ ia)
theorem im_cut {x : V} {ds es : List PyData} {lo hi : Option Int} {Q : VK} (iv : Im K G H x (.tuple ds)) (hc : ∀ xs : List V, ImAll K G H xs ds → ImAll K G H (cutV xs lo hi) es) (h : ∀ v H', Same H H' → (∀ b, G b ∨ H b = Option.none → G b ∨ H b = Option.none) → Im K (fun b => G b ∨ H b = Option.none) H' v (.tuple es) → Q v H') : rSlA K x lo hi H Q := by
  cases iv with
  | @tup a xs _ g e ia =>
  refine ⟨a, xs, rfl, SqT.of e, fun z => ?_, fun z p np => ?_⟩
  · have hw : cutV xs lo hi = xs := by
      unfold cutV
      rw [z.1, z.2, List.drop_zero, Nat.sub_zero, List.take_length]
    have := hc xs ia
    rw [hw] at this
    exact h _ H (Same.refl H) (fun _ q => q) (.tup (.inl g) e (Im.monoAll (fun _ _ _ e => e) (fun _ g => .inl g) _ _ this))
  · exact h _ _ (same_upd np) (fun _ q => q) (im_new np (hc xs ia))
theorem im_take {x : V} {ds : List PyData} {k : Nat} {Q : VK} (iv : Im K G H x (.tuple ds)) (hk : k ≤ ds.length) (h : ∀ v H', Same H H' → Im K (fun b => G b ∨ H b = Option.none) H' v (.tuple (ds.take k)) → Q v H') : rSlA K x Option.none (some (k : Int)) H Q :=
  im_cut iv (fun xs ia => by
    unfold cutV
    rw [HT.sIx_none, HT.sIx_nat, Nat.min_eq_left (by rw [ia.len]; exact hk), List.drop_zero, Nat.sub_zero]
    exact ImAll.taket _ ia) fun v H' s _ i => h v H' s i
theorem im_drop {x : V} {ds : List PyData} {k : Nat} {Q : VK} (iv : Im K G H x (.tuple ds)) (hk : k ≤ ds.length) (h : ∀ v H', Same H H' → Im K (fun b => G b ∨ H b = Option.none) H' v (.tuple (ds.drop k)) → Q v H') : rSlA K x (some (k : Int)) Option.none H Q :=
  im_cut iv (fun xs ia => by
    unfold cutV
    rw [HT.sIx_none, HT.sIx_nat, Nat.min_eq_left (by rw [ia.len]; exact hk), List.take_of_length_le (by rw [List.length_drop]; exact Nat.le_refl _)]
    exact ImAll.dropt _ ia) fun v H' s _ i => h v H' s i
theorem im_cat {x y : V} {ds es : List PyData} {Q : VK} (iv : Im K G H x (.tuple ds)) (iw : Im K G H y (.tuple es)) (hz : ds.length + es.length ≤ 1000) (h : ∀ v H', Same H H' → Im K (fun b => G b ∨ H b = Option.none) H' v (.tuple (ds ++ es)) → Q v H') : rCatA K x y H Q := by
  have w1 := Im.mono (G' := fun b => G b ∨ H b = Option.none) (fun _ _ _ e => e) (fun _ g => .inl g) _ _ iv
  have w2 := Im.mono (G' := fun b => G b ∨ H b = Option.none) (fun _ _ _ e => e) (fun _ g => .inl g) _ _ iw
  cases iv with
  | @tup a xs _ g e ia =>
  cases iw with
  | @tup b ys _ g2 e2 ib =>
  have l1 := ia.len
  have l2 := ib.len
  refine ⟨a, b, xs, ys, rfl, rfl, SqT.of e, SqT.of e2, small_of (by omega), fun z => ?_, fun z => ?_, fun p np => ?_⟩
  · subst z
    cases ia
    exact h _ H (Same.refl H) w2
  · subst z
    cases ib
    rw [List.append_nil] at h
    exact h _ H (Same.refl H) w1
  · exact h _ _ (same_upd np) (im_new np (ImAll.app ia ib))
end
end My
namespace My
open PySem PySem.Spec PyProof.Rows L2 SkE
/-! ### defs that may raise, and the program's own error classes -/
def HasX (P : Program) (w : World) (K : PySem.W.Frag) (mg : Str → Option Value) (base : Heap) (k : Nat) (x : Str) (ps : List Str) (sp : Sp) : Prop :=
  ∃ (f : Addr) (fd : FuncData), FnOk P w K mg base (L2.CX P w) k f fd ps sp ∧ mg x = some (.ref f) ∧ PySem.W.keepIn K (.ref f) = true ∧ Binds K fd ps []
/-- where the class of this name stands -/
def clsA (K : PySem.W.Frag) (x : Str) : Addr := match PySem.W.nsIn K mainGlobals x with
  | some (some (.ref C)) => C | _ => 0
theorem clsA_of {K : PySem.W.Frag} {x : Str} {C : Addr} (h : PySem.W.nsIn K mainGlobals x = some (some (.ref C))) : clsA K x = C := by
  unfold clsA
  rw [h]
structure Xc (K : PySem.W.Frag) (mg : Str → Option Value) (x : Str) (C : Addr) : Prop where
  gC : mg x = some (.ref C)
  xC : PySem.W.excIn K C [.type "ValueError", .type "Exception", .type "BaseException", .type "object"] "ValueError.__new__" = true
  kC : PySem.W.keepIn K (.ref C) = true
  bC : PySem.W.subIn K (.ref C) (.type "BaseException") = some true
  tC : PySem.W.typeIn K (.ref C) = some (.type "type")
  iC : PySem.W.isClsIn K C = true
theorem exm_pair {K : PySem.W.Frag} {T S : Addr} {b : Bool} (h1 : PySem.W.subIn K (.ref S) (.type "BaseException") = some true) (h2 : PySem.W.isClsIn K S = true) (h3 : PySem.W.typeIn K (.ref S) = some (.type "type")) (h4 : PySem.W.subIn K (.ref T) (.ref S) = some b) :
    PySem.W.exmOne K (.ref T) (.ref S) = some b := by
  have e1 : (PySem.W.subIn K (.ref S) (.type "BaseException") == some true) = true := by rw [h1] <;> rfl
  have e2 : ((PySem.W.clsIn K S).isSome && PySem.W.typeIn K (.ref S) == some (.type "type")) = true := by
    have h2' : (PySem.W.clsIn K S).isSome = true := h2
    rw [h2', h3] <;> rfl
  show (if (PySem.W.subIn K (.ref S) (.type "BaseException") == some true) = true then (if ((PySem.W.clsIn K S).isSome && PySem.W.typeIn K (.ref S) == some (.type "type")) = true then PySem.W.subIn K (.ref T) (.ref S) else none) else none) = some b
  rw [if_pos e1, if_pos e2]
  exact h4
theorem pss_under {X : Cx} {b : List Stmt} {t : TS} {P : Prop} (h : P → PSs X b t) : PSs X b (fun D σ H => P ∧ t D σ H) := ⟨fun pins s σ H D I ⟨p, q⟩ => (h p).run pins s σ H D I q⟩
end My
namespace My
open PySem PySem.Spec PyProof.Rows L2
/-! ### one step of a reading each -/
section
variable {σ : L2.St} {H : Hp} {Q : VK} {QA : List V → Hp → Prop} {QT : Bool → Hp → Prop} {te ta tb : TE} {tr tk : TA} {t u : TS} {c d : TT} {D : Ends} {v x y : V} {i j : Int} {g : TG} {K : PySem.W.Frag}
theorem st_of {N : List Str} {vs : List V} (e : L2.start N vs = σ) (h : t D σ H) : t D (L2.start N vs) H := e ▸ h
theorem g_var {n : Nat} (e : σ[n]? = some (some v)) (h : Q v H) : tVar n σ H Q := ⟨v, e, h⟩
theorem g_c (h : Q v H) : tC v σ H Q := h
theorem g_nil (h : QA [] H) : tNil σ H QA := h
theorem g_cons (h : ta σ H fun x H1 => tr σ H1 fun xs H2 => QA (x :: xs) H2) : tCons ta tr σ H QA := h
theorem g_op {r : R2} (h : ta σ H fun x H1 => tb σ H1 fun y H2 => r x y H2 Q) : tOp r ta tb σ H Q := h
theorem g_un {r : V → Hp → VK → Prop} (h : ta σ H fun x H1 => r x H1 Q) : tUn r ta σ H Q := h
theorem g_i0 {f : Int → Int → V} (h : Q (f i j) H) : rI0 f (.int i) (.int j) H Q := ⟨i, j, rfl, rfl, h⟩
theorem g_i1 {C : Int → Int → Prop} {f : Int → Int → V} (hc : C i j) (h : Q (f i j) H) : rI C f (.int i) (.int j) H Q := ⟨i, j, rfl, rfl, hc, h⟩
theorem g_iu {f : Int → V} (h : Q (f i) H) : rU f (.int i) H Q := ⟨i, rfl, h⟩
theorem dec_i : decide (V.int i = V.int j) = decide (i = j) := by
  by_cases e : i = j
  · rw [e]; simp
  · rw [decide_eq_false e, decide_eq_false fun z => e (V.int.inj z)]
theorem dec_s {a b : Str} : decide (V.str a = V.str b) = decide (a = b) := by
  by_cases e : a = b
  · rw [e]; simp
  · rw [decide_eq_false e, decide_eq_false fun z => e (V.str.inj z)]
theorem g_eqi (h : Q (.bl (decide (i = j))) H) : rEq (.int i) (.int j) H Q := ⟨rfl, by rw [dec_i]; exact h⟩
theorem g_nei (h : Q (.bl (!decide (i = j))) H) : rNe (.int i) (.int j) H Q := ⟨rfl, by rw [dec_i]; exact h⟩
theorem g_eqs {a b : Str} (h : Q (.bl (decide (a = b))) H) : rEq (.str a) (.str b) H Q := ⟨rfl, by rw [dec_s]; exact h⟩
theorem g_nes {a b : Str} (h : Q (.bl (!decide (a = b))) H) : rNe (.str a) (.str b) H Q := ⟨rfl, by rw [dec_s]; exact h⟩
theorem g_bl {b : Bool} {P : Bool → Prop} (h : P b) : ∃ k, V.bl b = V.bl k ∧ P k := ⟨b, rfl, h⟩
theorem g_in {P : Int → Prop} (h : P i) : ∃ k, V.int i = V.int k ∧ P k := ⟨i, rfl, h⟩
theorem g_test (h : te σ H fun x H' => ∃ k, x = .bl k ∧ QT k H') : tTest te σ H QT := h
theorem g_b (h : te σ H fun x H' => ∃ k, x = .bl k ∧ QT k H') : tB te σ H QT := h
theorem g_not (h : c σ H fun b H1 => QT (!b) H1) : tNot c σ H QT := h
theorem g_and (h : c σ H fun b H1 => if b = true then d σ H1 QT else QT false H1) : tAnd c d σ H QT := h
theorem g_or (h : c σ H fun b H1 => if b = true then QT true H1 else d σ H1 QT) : tOr c d σ H QT := h
theorem g_andV (h : ta σ H fun x H1 => ∃ k, x = .bl k ∧ if k = true then tb σ H1 Q else Q (.bl false) H1) : tAndV ta tb σ H Q := h
theorem g_orV (h : ta σ H fun x H1 => ∃ k, x = .bl k ∧ if k = true then Q (.bl true) H1 else tb σ H1 Q) : tOrV ta tb σ H Q := h
theorem g_notV (h : ta σ H fun x H1 => ∃ k, x = .bl k ∧ Q (.bl (!k)) H1) : tNotV ta σ H Q := h
theorem g_if (h : c σ H fun b H1 => if b = true then ta σ H1 Q else tb σ H1 Q) : tIf c ta tb σ H Q := h
theorem g_next (h : D.nx σ H) : tNext D σ H := h
theorem g_seq (h : t { D with nx := u D } σ H) : tSeq t u D σ H := h
theorem g_brk (h : D.bk σ H) : tBreak D σ H := h
theorem g_cont (h : D.ct σ H) : tCont D σ H := h
theorem g_drop (h : te σ H fun _ H1 => D.nx σ H1) : tDrop te D σ H := h
theorem g_ret (h : te σ H D.rt) : tRet te D σ H := h
theorem g_retN (h : D.rt .non H) : tRetN D σ H := h
theorem g_ifS (h : c σ H fun b H1 => if b = true then t D σ H1 else u D σ H1) : tIfS c t u D σ H := h
theorem g_asg (h : te σ H fun x H1 => g x σ H1 D.nx) : tAsg te g D σ H := h
theorem g_par {m n : Nat} (h : tr σ H fun vs H1 => ∃ v w, vs = [v, w] ∧ D.nx ((σ.set m (some v)).set n (some w)) H1) : tPar m n tr D σ H := h
theorem g_two {P : V → V → Prop} (h : P x y) : ∃ a b, [x, y] = [a, b] ∧ P a b := ⟨x, y, rfl, h⟩
theorem g_aug {n : Nat} {ti : TIp} (e : σ[n]? = some (some x)) (h : te σ H fun y H1 => ti x y H1 fun z H2 => D.nx (σ.set n (some z)) H2) : tAug n te ti D σ H := ⟨x, e, h⟩
theorem g_call {sp : Sp} {dvs : List V} {E : XK} (h : tr σ H fun vs H1 => sp (vs ++ dvs) H1 Q E) : tCall sp dvs E tr σ H Q := h
theorem g_callN {n m : Nat} {sp : Sp} {gV : List V → List V → List V} {E : XK} (h : tr σ H fun vs H1 => tk σ H1 fun zs H2 => vs.length = n ∧ zs.length = m ∧ sp (gV vs zs) H2 Q E) : tCallN n m sp gV E tr tk σ H Q := h
theorem g_kw {r : List V → List V → Hp → VK → Prop} (h : tr σ H fun vs H1 => tk σ H1 fun zs H2 => r vs zs H2 Q) : tCKw r tr tk σ H Q := h
theorem g_cb {r : List V → Hp → VK → Prop} (h : tr σ H fun vs H1 => r vs H1 Q) : tCB r tr σ H Q := h
theorem g_tup (h : tr σ H fun xs H1 => xs.length ≤ sizeLine ∧ ∀ p, H1 p = Option.none → Q (.ref p) (upd H1 p (.tup xs))) : tTup tr σ H Q := h
theorem g_lst (h : tr σ H fun xs H1 => xs.length ≤ sizeLine ∧ ∀ p, H1 p = Option.none → Q (.ref p) (upd H1 p (.lst xs))) : tLst tr σ H Q := h
theorem g_sl {r : V → Option Int → Option Int → Hp → VK → Prop} {tl th : TO} (h : te σ H fun x H1 => tl σ H1 fun l H2 => th σ H2 fun u H3 => r x l u H3 Q) : tSl r te tl th σ H Q := h
theorem g_np {QO : Option Int → Hp → Prop} (h : QO Option.none H) : tNoPart σ H QO := h
theorem g_part {QO : Option Int → Hp → Prop} (h : te σ H fun x H1 => ∃ i, x = .int i ∧ QO (some i) H1) : tPart te σ H QO := h
theorem g_bm {T : String} {r : V → List V → Hp → VK → Prop} (h : te σ H fun x H1 => tyV K T x H1 ∧ tr σ H1 fun xs H2 => r x xs H2 Q) : tBM K T r te tr σ H Q := h
theorem g_bm0 {T : String} {r : V → List V → Hp → VK → Prop} (h : te σ H fun x H1 => tyV K T x H1 ∧ r x [] H1 Q) : tBM0 K T r te σ H Q := h
theorem g_rt {N : L2.St → Hp → Prop} {R : VK} {B C : L2.St → Hp → Prop} (h : R v H) : ({ nx := N, rt := R, bk := B, ct := C } : Ends).rt v H := h
theorem g_bk {N : L2.St → Hp → Prop} {R : VK} {B C : L2.St → Hp → Prop} (h : B σ H) : ({ nx := N, rt := R, bk := B, ct := C } : Ends).bk σ H := h
theorem g_ct {N : L2.St → Hp → Prop} {R : VK} {B C : L2.St → Hp → Prop} (h : C σ H) : ({ nx := N, rt := R, bk := B, ct := C } : Ends).ct σ H := h
theorem g_sub {to ti : TE} {ts : TSet} {QS : L2.St → Hp → Prop} (h : to σ H fun o H1 => ti σ H1 fun i H2 => ts o i v H2 fun H3 => QS σ H3) : gSub to ti ts v σ H QS := h
theorem g_isN {P : Bool → Prop} (h : P true) : P (decide (V.non = V.non)) := by rw [decide_eq_true rfl]; exact h
theorem ifv (P : Hp → Prop) (hu : ∀ H, P H → u D σ H) (hc : (∀ H, P H → u D σ H) → c σ H fun b H1 => if b = true then t D σ H1 else u D σ H1) : tIfS c t u D σ H := hc hu
theorem ifc (b : Bool) (hc : ∀ QT : Bool → Hp → Prop, QT b H → c σ H QT) (ht : b = true → t D σ H) (hu : b = false → u D σ H) : tIfS c t u D σ H := hc _ (by cases b with | true => exact iteT (ht rfl) | false => exact iteF (hu rfl))
theorem nx_via {t : TS} {N : L2.St → Hp → Prop} {R : VK} {B C : L2.St → Hp → Prop} (P : L2.St → Hp → Prop) (hu : ∀ σ H, P σ H → N σ H) (ht : (∀ σ H, P σ H → N σ H) → t { nx := N, rt := R, bk := B, ct := C } σ H) : t { nx := N, rt := R, bk := B, ct := C } σ H := ht hu
theorem iteNf {A B : Prop} (h : A) : if (!false) = true then A else B := h
theorem iteSs {α : Type} {u : α} {A B : Prop} (h : A) : if (some u).isSome = true then A else B := h
theorem iteSn {α : Type} {A B : Prop} (h : B) : if (Option.none : Option α).isSome = true then A else B := iteF h
theorem iteNt {A B : Prop} (h : B) : if (!true) = true then A else B := iteF h
theorem g_yes {QT : Bool → Hp → Prop} (h : QT true H) : tYes σ H QT := h
theorem nine {n : Int} (h0 : 0 ≤ n) (h : n ≤ 10 ^ 41) : n.natAbs < 2 ^ 9000 := Nat.lt_of_lt_of_le (show n.natAbs < 2 ^ 140 from Nat.lt_of_le_of_lt (show n.natAbs ≤ 10 ^ 41 by omega) (by decide)) (Nat.pow_le_pow_right (by decide) (by decide))
/-- a while by a measure -/
theorem while_m {tb : TS} (W : Nat → L2.St → Hp → Prop) (h0 : ∃ m, W m σ H) (hs : ∀ m σ H, W m σ H → c σ H fun b H1 => if b = true then ∃ N : L2.St → Hp → Prop, (∀ σ' H', N σ' H' → ∃ m', m' < m ∧ W m' σ' H') ∧ tb { D with nx := N, ct := N, bk := D.nx } σ H1 else D.nx σ H1) : tWhile c tb D σ H := ⟨W, h0, hs⟩
theorem while_n {tb : TS} {W : Nat → L2.St → Hp → Prop} {m : Nat} (h : tb { D with nx := fun σ' H' => ∃ m', m' < m ∧ W m' σ' H', ct := fun σ' H' => ∃ m', m' < m ∧ W m' σ' H', bk := D.nx } σ H) :
    ∃ N : L2.St → Hp → Prop, (∀ σ' H', N σ' H' → ∃ m', m' < m ∧ W m' σ' H') ∧ tb { D with nx := N, ct := N, bk := D.nx } σ H := ⟨_, fun _ _ z => z, h⟩
end
section
variable {K : PySem.W.Frag} {a p : Addr} {xs ys : List V} {H : Hp} {Q : VK} {v y : V} {j : Nat} {P : Prop} {D : Ends} {σ : L2.St} {g : TG} {tb : TS}
theorem ixL (hs : SqL K H p xs) (e : xs[j]? = some v) (q : Q v H) : rIxL K (.ref p) (.int (j : Int)) H Q := ⟨p, xs, _, v, rfl, rfl, hs, atI_nat e, q⟩
theorem ixT (hs : SqT K H p xs) (e : xs[j]? = some v) (q : Q v H) : rIxT K (.ref p) (.int (j : Int)) H Q := ⟨p, xs, _, v, rfl, rfl, hs, atI_nat e, q⟩
theorem tyl (hs : SqL K H p xs) (q : P) : tyV K "list" (.ref p) H ∧ P := ⟨.inl ⟨rfl, _, hs⟩, q⟩
theorem rap (e : H p = some (.lst xs)) (l : xs.length ≤ 10000000) (q : Q .non (upd H p (.lst (xs ++ [y])))) : rAppend (.ref p) [y] H Q := ⟨p, xs, y, rfl, rfl, e, Nat.lt_of_le_of_lt l (by decide), q⟩
theorem lenL (hs : SqL K H p xs) (q : Q (.int (xs.length : Nat)) H) : ∃ p' ys, [V.ref p] = [V.ref p'] ∧ (SqL K H p' ys ∨ SqT K H p' ys) ∧ Q (.int (ys.length : Nat)) H := ⟨p, xs, rfl, .inl hs, q⟩
theorem lenT (hs : SqT K H p xs) (q : Q (.int (xs.length : Nat)) H) : ∃ p' ys, [V.ref p] = [V.ref p'] ∧ (SqL K H p' ys ∨ SqT K H p' ys) ∧ Q (.int (ys.length : Nat)) H := ⟨p, xs, rfl, .inr hs, q⟩
theorem slL {lo hi : Option Int} (hs : SqL K H p xs) (q : ∀ b, H b = Option.none → Q (.ref b) (upd H b (.lst (cutV xs lo hi)))) : rSlL K (.ref p) lo hi H Q := ⟨p, xs, rfl, hs, q⟩
theorem newN {ws : List V} {n : Nat} (e : ws.length = n) (l : n ≤ 100000) {P : Addr → Prop} (q : ∀ b, H b = Option.none → P b) : ws.length ≤ sizeLine ∧ ∀ b, H b = Option.none → P b := ⟨Nat.le_trans (Nat.le_of_eq e) (Nat.le_trans l (by decide)), q⟩
end
section
variable {σ : L2.St} {H : Hp} {D : Ends} {K : PySem.W.Frag} {wi : TI} {g : TG} {tb : TS} {tl : TE} {ta : TA} {R : It → Hp → Prop}
theorem g_for (h : wi σ H fun J H1 => ∃ W : Nat → Nat → L2.St → Hp → Prop, (∃ m, W 0 m σ H1) ∧ ∀ i m σ H, W i m σ H →
    (J.stop i H ∧ D.nx σ H) ∨ (J.go i H ∧ ∃ N : L2.St → Hp → Prop, (∀ σ' H', N σ' H' → ∃ m', m' < m ∧ W (i + 1) m' σ' H') ∧ ∀ x H', J.yld i H x H' → g x σ H' fun σ2 H2 => tb { D with nx := N, ct := N, bk := D.nx } σ2 H2)) : tFor wi g tb D σ H := h
theorem g_iL (h : tl σ H fun x H1 => ∃ a, x = .ref a ∧ (∃ xs, SqL K H1 a xs) ∧ R (Itl K a) H1) : iList K tl σ H R := h
theorem g_iT (h : tl σ H fun x H1 => ∃ a, x = .ref a ∧ (∃ xs, SqT K H1 a xs) ∧ R (Itt K a) H1) : iTup K tl σ H R := h
theorem g_iR1 (h : ta σ H fun vs H1 => ∃ j : Int, vs = [.int j] ∧ -(2 ^ 62) ≤ j ∧ j < 2 ^ 62 ∧ R (Itr 0 j.toNat) H1) : iRng1 ta σ H R := h
theorem g_iR2 (h : ta σ H fun vs H1 => ∃ i j : Int, vs = [.int i, .int j] ∧ (-(2 ^ 62) ≤ i ∧ i < 2 ^ 62 ∧ -(2 ^ 62) ≤ j ∧ j < 2 ^ 62) ∧ R (Itr i (j - i).toNat) H1) : iRng2 ta σ H R := h
theorem itR {j : Int} {n : Nat} (e : j.toNat = n) (l : n ≤ 1000000) (h0 : 0 ≤ j) (q : R (Itr 0 n) H) : ∃ j' : Int, [V.int j] = [V.int j'] ∧ -(2 ^ 62) ≤ j' ∧ j' < 2 ^ 62 ∧ R (Itr 0 j'.toNat) H := ⟨j, rfl, by omega, by omega, by rw [e]; exact q⟩
theorem itRn {j : Int} (h0 : j ≤ 0) (l : -1000000 ≤ j) (q : R (Itr 0 0) H) : ∃ j' : Int, [V.int j] = [V.int j'] ∧ -(2 ^ 62) ≤ j' ∧ j' < 2 ^ 62 ∧ R (Itr 0 j'.toNat) H := ⟨j, rfl, by omega, by omega, by rw [Int.toNat_of_nonpos h0]; exact q⟩
theorem itL {a : Addr} {xs : List V} (hs : SqL K H a xs) (q : R (Itl K a) H) : ∃ a', V.ref a = .ref a' ∧ (∃ xs, SqL K H a' xs) ∧ R (Itl K a') H := ⟨a, rfl, ⟨xs, hs⟩, q⟩
theorem itT {a : Addr} {xs : List V} (hs : SqT K H a xs) (q : R (Itt K a) H) : ∃ a', V.ref a = .ref a' ∧ (∃ xs, SqT K H a' xs) ∧ R (Itt K a') H := ⟨a, rfl, ⟨xs, hs⟩, q⟩
theorem g_iZ (h : ta σ H fun vs H1 => ∃ a b xs ys, vs = [.ref a, .ref b] ∧ ((SqL K H1 a xs ∧ SqL K H1 b ys ∧ R (Itz K a b) H1) ∨ (SqT K H1 a xs ∧ SqT K H1 b ys ∧ R (RZ.ItzT K a b) H1))) : RZ.iZipA K ta σ H R := h
theorem itZ {a b : Addr} {xs ys : List V} (h1 : SqL K H a xs) (h2 : SqL K H b ys) (q : R (Itz K a b) H) : ∃ a' b' xs ys, [V.ref a, V.ref b] = [V.ref a', .ref b'] ∧ ((SqL K H a' xs ∧ SqL K H b' ys ∧ R (Itz K a' b') H) ∨ (SqT K H a' xs ∧ SqT K H b' ys ∧ R (RZ.ItzT K a' b') H)) := ⟨a, b, xs, ys, rfl, .inl ⟨h1, h2, q⟩⟩
theorem cutV_to (xs : List V) (n : Nat) : cutV xs Option.none (some (n : Int)) = xs.take n := by
  unfold cutV
  rw [HT.sIx_none, HT.sIx_nat, List.drop_zero, Nat.sub_zero]
  rcases Nat.le_total n xs.length with h | h
  · rw [Nat.min_eq_left h]
  · rw [Nat.min_eq_right h, List.take_length, List.take_of_length_le h]
theorem cutV_from (xs : List V) (n : Nat) : cutV xs (some (n : Int)) Option.none = xs.drop n := by
  unfold cutV
  rw [HT.sIx_none, HT.sIx_nat, List.take_of_length_le (by rw [List.length_drop]; exact Nat.le_refl _)]
  rcases Nat.le_total n xs.length with h | h
  · rw [Nat.min_eq_left h]
  · rw [Nat.min_eq_right h, List.drop_length, List.drop_of_length_le h]
theorem cutV_last (xs : List V) : cutV xs Option.none (some (-1)) = xs.dropLast := by
  unfold cutV
  rw [HT.sIx_none, show HT.sIx xs.length xs.length (some (-1)) = xs.length - 1 from by
    show (if (-1 : Int) < 0 then ((-1 : Int) + (xs.length : Int)).toNat else min (-1 : Int).toNat xs.length) = _
    rw [if_pos (by decide)]
    omega, List.drop_zero, Nat.sub_zero, List.dropLast_eq_take]
theorem g_gtup {n : Nat} {gs : TGs} {QS : L2.St → Hp → Prop} {a : Addr} {xs : List V} (hs : SqT K H a xs) (l : xs.length = n) (q : gs xs σ H QS) : gTup K n gs (.ref a) σ H QS := ⟨a, xs, rfl, hs, l, q⟩
theorem g_gnil {QS : L2.St → Hp → Prop} (q : QS σ H) : gNil [] σ H QS := ⟨rfl, q⟩
theorem g_gcons {gs : TGs} {v : V} {r : List V} {QS : L2.St → Hp → Prop} (q : g v σ H fun σ' H' => gs r σ' H' QS) : gCons g gs (v :: r) σ H QS := ⟨v, r, rfl, q⟩
theorem g_lc {tt : TT} {te : TE} {vs : List Nat} {Q : VK} (h : wi σ H fun J H1 => ∀ D, H1 D = Option.none → ∃ W : Nat → Nat → Hp → Prop, (∃ m, W 0 m (upd H1 D (.lst []))) ∧ ∀ i m H, W i m H →
  (J.stop i H ∧ Q (.ref D) H) ∨ (J.go i H ∧ ∃ Nx : Hp → Prop, (∀ H', Nx H' → ∃ m', m' < m ∧ W (i + 1) m' H') ∧ ∀ x H', J.yld i H x H' → g x (wipe σ vs) H' fun σ2 H2 => wipe σ2 vs = wipe σ vs ∧ tt σ2 H2 fun b H3 =>
    if b = true then te σ2 H3 fun y H4 => ∃ acc, H4 D = some (.lst acc) ∧ acc.length < sizeLine ∧ Nx (upd H4 D (.lst (acc ++ [y]))) else Nx H3)) : tLc wi g tt te vs σ H Q := h
end
/-! ### data without lists stay where a list is changed -/
mutual
def nL : PyData → Bool
  | .list _ => false
  | .tuple ds => nLs ds
  | _ => true
def nLs : List PyData → Bool
  | [] => true
  | d :: ds => nL d && nLs ds
end
section
variable {K : PySem.W.Frag} {H H' : Hp} {D : Addr}
/-- all but the object at D, which is no tuple -/
structure ButL (D : Addr) (H H' : Hp) : Prop where
  keep : ∀ b o, b ≠ D → H b = some o → H' b = some o
  list : ∃ o, H D = some o ∧ (∀ xs, o ≠ .tup xs) ∧ ∀ u xs, o ≠ .frz u (.tup xs)
theorem ButL.sqT (h : ButL D H H') {a : Addr} {xs : List V} (q : SqT K H a xs) : SqT K H' a xs := by
  obtain ⟨o, e, n1, n2⟩ := h.list
  rcases q with (q | ⟨u, q⟩) | q
  · exact .inl (.inl (h.keep _ _ (fun z => by rw [z, e] at q; exact n1 _ (Option.some.inj q)) q))
  · exact .inl (.inr ⟨u, h.keep _ _ (fun z => by rw [z, e] at q; exact n2 _ _ (Option.some.inj q)) q⟩)
  · exact .inr q
theorem ButL.put {zs : List V} {o : HO} (e : H D = some (.lst zs)) : ButL D H (upd H D o) :=
  ⟨fun b u hb g => by rw [upd_ne hb]; exact g, ⟨_, e, (fun _ z => by cases z), (fun _ _ z => by cases z)⟩⟩
mutual
theorem dp_nL (h : ButL D H H') : ∀ (d : PyData) (v : V), nL d = true → Dp K H v d → Dp K H' v d
  | .none, _, _, r => by cases r; exact .non
  | .bool b, _, _, r => by cases r; exact .bl b
  | .int i, _, _, r => by cases r; exact .int i
  | .str x, _, _, r => by cases r; exact .str x
  | .list ds, _, n, _ => by simp [nL] at n
  | .tuple ds, _, n, r => by
    cases r with
    | tup g ha => exact .tup (h.sqT g) (dp_nLs h ds _ (by simpa [nL] using n) ha)
  | .dict _, _, _, r => by cases r
theorem dp_nLs (h : ButL D H H') : ∀ (ds : List PyData) (vs : List V), nLs ds = true → DpAll K H vs ds → DpAll K H' vs ds
  | [], _, _, r => by cases r; exact .nil
  | d :: ds, _, n, r => by
    cases r with
    | cons r1 r2 =>
      simp only [nLs, Bool.and_eq_true] at n
      exact .cons (dp_nL h d _ n.1 r1) (dp_nLs h ds _ n.2 r2)
end
theorem nLs_of {ds : List PyData} (h : ∀ d ∈ ds, nL d = true) : nLs ds = true := by
  induction ds with
  | nil => simp [nLs]
  | cons d ds ih => simp only [nLs, h d (.head _), ih fun e he => h e (.tail _ he), Bool.and_self]
theorem nLs_mem {ds : List PyData} (h : nLs ds = true) : ∀ d ∈ ds, nL d = true := by
  induction ds with
  | nil => exact fun d hd => nomatch hd
  | cons d ds ih =>
    simp only [nLs, Bool.and_eq_true] at h
    intro e he
    rcases List.mem_cons.mp he with rfl | he
    · exact h.1
    · exact ih h.2 e he
theorem dpAll_end : ∀ {vs : List V} {ds : List PyData} {v : V} {d : PyData}, DpAll K H vs ds → Dp K H v d → DpAll K H (vs ++ [v]) (ds ++ [d])
  | _, _, _, _, .nil, r => .cons r .nil
  | _, _, _, _, .cons q t, r => .cons q (dpAll_end t r)
end
section
variable {v : V} {H : Hp} {QS : L2.St → Hp → Prop} {s : L2.St}
theorem g_n0 {a0 : Option V} (h : QS (some v :: s) H) : gName 0 v (a0 :: s) H QS := h
theorem g_n1 {a0 a1 : Option V} (h : QS (a0 :: some v :: s) H) : gName 1 v (a0 :: a1 :: s) H QS := h
theorem g_n2 {a0 a1 a2 : Option V} (h : QS (a0 :: a1 :: some v :: s) H) : gName 2 v (a0 :: a1 :: a2 :: s) H QS := h
theorem g_n3 {a0 a1 a2 a3 : Option V} (h : QS (a0 :: a1 :: a2 :: some v :: s) H) : gName 3 v (a0 :: a1 :: a2 :: a3 :: s) H QS := h
theorem g_n4 {a0 a1 a2 a3 a4 : Option V} (h : QS (a0 :: a1 :: a2 :: a3 :: some v :: s) H) : gName 4 v (a0 :: a1 :: a2 :: a3 :: a4 :: s) H QS := h
theorem g_n5 {a0 a1 a2 a3 a4 a5 : Option V} (h : QS (a0 :: a1 :: a2 :: a3 :: a4 :: some v :: s) H) : gName 5 v (a0 :: a1 :: a2 :: a3 :: a4 :: a5 :: s) H QS := h
theorem g_n6 {a0 a1 a2 a3 a4 a5 a6 : Option V} (h : QS (a0 :: a1 :: a2 :: a3 :: a4 :: a5 :: some v :: s) H) : gName 6 v (a0 :: a1 :: a2 :: a3 :: a4 :: a5 :: a6 :: s) H QS := h
theorem g_n7 {a0 a1 a2 a3 a4 a5 a6 a7 : Option V} (h : QS (a0 :: a1 :: a2 :: a3 :: a4 :: a5 :: a6 :: some v :: s) H) : gName 7 v (a0 :: a1 :: a2 :: a3 :: a4 :: a5 :: a6 :: a7 :: s) H QS := h
theorem g_n8 {a0 a1 a2 a3 a4 a5 a6 a7 a8 : Option V} (h : QS (a0 :: a1 :: a2 :: a3 :: a4 :: a5 :: a6 :: a7 :: some v :: s) H) : gName 8 v (a0 :: a1 :: a2 :: a3 :: a4 :: a5 :: a6 :: a7 :: a8 :: s) H QS := h
theorem g_n9 {a0 a1 a2 a3 a4 a5 a6 a7 a8 a9 : Option V} (h : QS (a0 :: a1 :: a2 :: a3 :: a4 :: a5 :: a6 :: a7 :: a8 :: some v :: s) H) : gName 9 v (a0 :: a1 :: a2 :: a3 :: a4 :: a5 :: a6 :: a7 :: a8 :: a9 :: s) H QS := h
theorem g_n10 {a0 a1 a2 a3 a4 a5 a6 a7 a8 a9 a10 : Option V} (h : QS (a0 :: a1 :: a2 :: a3 :: a4 :: a5 :: a6 :: a7 :: a8 :: a9 :: some v :: s) H) : gName 10 v (a0 :: a1 :: a2 :: a3 :: a4 :: a5 :: a6 :: a7 :: a8 :: a9 :: a10 :: s) H QS := h
theorem g_n11 {a0 a1 a2 a3 a4 a5 a6 a7 a8 a9 a10 a11 : Option V} (h : QS (a0 :: a1 :: a2 :: a3 :: a4 :: a5 :: a6 :: a7 :: a8 :: a9 :: a10 :: some v :: s) H) : gName 11 v (a0 :: a1 :: a2 :: a3 :: a4 :: a5 :: a6 :: a7 :: a8 :: a9 :: a10 :: a11 :: s) H QS := h
theorem g_n12 {a0 a1 a2 a3 a4 a5 a6 a7 a8 a9 a10 a11 a12 : Option V} (h : QS (a0 :: a1 :: a2 :: a3 :: a4 :: a5 :: a6 :: a7 :: a8 :: a9 :: a10 :: a11 :: some v :: s) H) : gName 12 v (a0 :: a1 :: a2 :: a3 :: a4 :: a5 :: a6 :: a7 :: a8 :: a9 :: a10 :: a11 :: a12 :: s) H QS := h
theorem g_n13 {a0 a1 a2 a3 a4 a5 a6 a7 a8 a9 a10 a11 a12 a13 : Option V} (h : QS (a0 :: a1 :: a2 :: a3 :: a4 :: a5 :: a6 :: a7 :: a8 :: a9 :: a10 :: a11 :: a12 :: some v :: s) H) : gName 13 v (a0 :: a1 :: a2 :: a3 :: a4 :: a5 :: a6 :: a7 :: a8 :: a9 :: a10 :: a11 :: a12 :: a13 :: s) H QS := h
theorem g_n14 {a0 a1 a2 a3 a4 a5 a6 a7 a8 a9 a10 a11 a12 a13 a14 : Option V} (h : QS (a0 :: a1 :: a2 :: a3 :: a4 :: a5 :: a6 :: a7 :: a8 :: a9 :: a10 :: a11 :: a12 :: a13 :: some v :: s) H) : gName 14 v (a0 :: a1 :: a2 :: a3 :: a4 :: a5 :: a6 :: a7 :: a8 :: a9 :: a10 :: a11 :: a12 :: a13 :: a14 :: s) H QS := h
theorem g_n15 {a0 a1 a2 a3 a4 a5 a6 a7 a8 a9 a10 a11 a12 a13 a14 a15 : Option V} (h : QS (a0 :: a1 :: a2 :: a3 :: a4 :: a5 :: a6 :: a7 :: a8 :: a9 :: a10 :: a11 :: a12 :: a13 :: a14 :: some v :: s) H) : gName 15 v (a0 :: a1 :: a2 :: a3 :: a4 :: a5 :: a6 :: a7 :: a8 :: a9 :: a10 :: a11 :: a12 :: a13 :: a14 :: a15 :: s) H QS := h
theorem g_n16 {a0 a1 a2 a3 a4 a5 a6 a7 a8 a9 a10 a11 a12 a13 a14 a15 a16 : Option V} (h : QS (a0 :: a1 :: a2 :: a3 :: a4 :: a5 :: a6 :: a7 :: a8 :: a9 :: a10 :: a11 :: a12 :: a13 :: a14 :: a15 :: some v :: s) H) : gName 16 v (a0 :: a1 :: a2 :: a3 :: a4 :: a5 :: a6 :: a7 :: a8 :: a9 :: a10 :: a11 :: a12 :: a13 :: a14 :: a15 :: a16 :: s) H QS := h
theorem g_n17 {a0 a1 a2 a3 a4 a5 a6 a7 a8 a9 a10 a11 a12 a13 a14 a15 a16 a17 : Option V} (h : QS (a0 :: a1 :: a2 :: a3 :: a4 :: a5 :: a6 :: a7 :: a8 :: a9 :: a10 :: a11 :: a12 :: a13 :: a14 :: a15 :: a16 :: some v :: s) H) : gName 17 v (a0 :: a1 :: a2 :: a3 :: a4 :: a5 :: a6 :: a7 :: a8 :: a9 :: a10 :: a11 :: a12 :: a13 :: a14 :: a15 :: a16 :: a17 :: s) H QS := h
theorem g_n18 {a0 a1 a2 a3 a4 a5 a6 a7 a8 a9 a10 a11 a12 a13 a14 a15 a16 a17 a18 : Option V} (h : QS (a0 :: a1 :: a2 :: a3 :: a4 :: a5 :: a6 :: a7 :: a8 :: a9 :: a10 :: a11 :: a12 :: a13 :: a14 :: a15 :: a16 :: a17 :: some v :: s) H) : gName 18 v (a0 :: a1 :: a2 :: a3 :: a4 :: a5 :: a6 :: a7 :: a8 :: a9 :: a10 :: a11 :: a12 :: a13 :: a14 :: a15 :: a16 :: a17 :: a18 :: s) H QS := h
theorem g_n19 {a0 a1 a2 a3 a4 a5 a6 a7 a8 a9 a10 a11 a12 a13 a14 a15 a16 a17 a18 a19 : Option V} (h : QS (a0 :: a1 :: a2 :: a3 :: a4 :: a5 :: a6 :: a7 :: a8 :: a9 :: a10 :: a11 :: a12 :: a13 :: a14 :: a15 :: a16 :: a17 :: a18 :: some v :: s) H) : gName 19 v (a0 :: a1 :: a2 :: a3 :: a4 :: a5 :: a6 :: a7 :: a8 :: a9 :: a10 :: a11 :: a12 :: a13 :: a14 :: a15 :: a16 :: a17 :: a18 :: a19 :: s) H QS := h
theorem g_n20 {a0 a1 a2 a3 a4 a5 a6 a7 a8 a9 a10 a11 a12 a13 a14 a15 a16 a17 a18 a19 a20 : Option V} (h : QS (a0 :: a1 :: a2 :: a3 :: a4 :: a5 :: a6 :: a7 :: a8 :: a9 :: a10 :: a11 :: a12 :: a13 :: a14 :: a15 :: a16 :: a17 :: a18 :: a19 :: some v :: s) H) : gName 20 v (a0 :: a1 :: a2 :: a3 :: a4 :: a5 :: a6 :: a7 :: a8 :: a9 :: a10 :: a11 :: a12 :: a13 :: a14 :: a15 :: a16 :: a17 :: a18 :: a19 :: a20 :: s) H QS := h
theorem g_n21 {a0 a1 a2 a3 a4 a5 a6 a7 a8 a9 a10 a11 a12 a13 a14 a15 a16 a17 a18 a19 a20 a21 : Option V} (h : QS (a0 :: a1 :: a2 :: a3 :: a4 :: a5 :: a6 :: a7 :: a8 :: a9 :: a10 :: a11 :: a12 :: a13 :: a14 :: a15 :: a16 :: a17 :: a18 :: a19 :: a20 :: some v :: s) H) : gName 21 v (a0 :: a1 :: a2 :: a3 :: a4 :: a5 :: a6 :: a7 :: a8 :: a9 :: a10 :: a11 :: a12 :: a13 :: a14 :: a15 :: a16 :: a17 :: a18 :: a19 :: a20 :: a21 :: s) H QS := h
theorem g_n22 {a0 a1 a2 a3 a4 a5 a6 a7 a8 a9 a10 a11 a12 a13 a14 a15 a16 a17 a18 a19 a20 a21 a22 : Option V} (h : QS (a0 :: a1 :: a2 :: a3 :: a4 :: a5 :: a6 :: a7 :: a8 :: a9 :: a10 :: a11 :: a12 :: a13 :: a14 :: a15 :: a16 :: a17 :: a18 :: a19 :: a20 :: a21 :: some v :: s) H) : gName 22 v (a0 :: a1 :: a2 :: a3 :: a4 :: a5 :: a6 :: a7 :: a8 :: a9 :: a10 :: a11 :: a12 :: a13 :: a14 :: a15 :: a16 :: a17 :: a18 :: a19 :: a20 :: a21 :: a22 :: s) H QS := h
theorem g_n23 {a0 a1 a2 a3 a4 a5 a6 a7 a8 a9 a10 a11 a12 a13 a14 a15 a16 a17 a18 a19 a20 a21 a22 a23 : Option V} (h : QS (a0 :: a1 :: a2 :: a3 :: a4 :: a5 :: a6 :: a7 :: a8 :: a9 :: a10 :: a11 :: a12 :: a13 :: a14 :: a15 :: a16 :: a17 :: a18 :: a19 :: a20 :: a21 :: a22 :: some v :: s) H) : gName 23 v (a0 :: a1 :: a2 :: a3 :: a4 :: a5 :: a6 :: a7 :: a8 :: a9 :: a10 :: a11 :: a12 :: a13 :: a14 :: a15 :: a16 :: a17 :: a18 :: a19 :: a20 :: a21 :: a22 :: a23 :: s) H QS := h
theorem g_n24 {a0 a1 a2 a3 a4 a5 a6 a7 a8 a9 a10 a11 a12 a13 a14 a15 a16 a17 a18 a19 a20 a21 a22 a23 a24 : Option V} (h : QS (a0 :: a1 :: a2 :: a3 :: a4 :: a5 :: a6 :: a7 :: a8 :: a9 :: a10 :: a11 :: a12 :: a13 :: a14 :: a15 :: a16 :: a17 :: a18 :: a19 :: a20 :: a21 :: a22 :: a23 :: some v :: s) H) : gName 24 v (a0 :: a1 :: a2 :: a3 :: a4 :: a5 :: a6 :: a7 :: a8 :: a9 :: a10 :: a11 :: a12 :: a13 :: a14 :: a15 :: a16 :: a17 :: a18 :: a19 :: a20 :: a21 :: a22 :: a23 :: a24 :: s) H QS := h
theorem g_n25 {a0 a1 a2 a3 a4 a5 a6 a7 a8 a9 a10 a11 a12 a13 a14 a15 a16 a17 a18 a19 a20 a21 a22 a23 a24 a25 : Option V} (h : QS (a0 :: a1 :: a2 :: a3 :: a4 :: a5 :: a6 :: a7 :: a8 :: a9 :: a10 :: a11 :: a12 :: a13 :: a14 :: a15 :: a16 :: a17 :: a18 :: a19 :: a20 :: a21 :: a22 :: a23 :: a24 :: some v :: s) H) : gName 25 v (a0 :: a1 :: a2 :: a3 :: a4 :: a5 :: a6 :: a7 :: a8 :: a9 :: a10 :: a11 :: a12 :: a13 :: a14 :: a15 :: a16 :: a17 :: a18 :: a19 :: a20 :: a21 :: a22 :: a23 :: a24 :: a25 :: s) H QS := h
end
end My
namespace My
open PySem PySem.Spec PyProof.Rows L2
/-! ### classes of the program: methods, attributes -/
def HasM (P : Program) (w : World) (K : PySem.W.Frag) (mg : Str → Option Value) (base : Heap) (k : Nat) (C m : Str) (ps : List Str) (sp : Sp) : Prop :=
  ∃ (f : Addr) (fd : FuncData), FnOk P w K mg base CX0 k f fd ps sp ∧ Meth K (clsA K C) m f ∧ Binds K fd ps []
def HasI (P : Program) (w : World) (K : PySem.W.Frag) (mg : Str → Option Value) (base : Heap) (k : Nat) (C : Str) (ps : List Str) (sp : Sp) : Prop :=
  ∃ (f : Addr) (fd : FuncData), FnOk P w K mg base CX0 k f fd ps sp ∧ Mk K (clsA K C) f ∧ mg C = some (.ref (clsA K C)) ∧ Binds K fd ps []
theorem lk_nil {k : Str} : List.lookup k ([] : List (Str × V)) = Option.none := rfl
theorem lk_hit {k : Str} {v : V} {r : List (Str × V)} : List.lookup k ((k, v) :: r) = some v := by
  show (match k == k with | true => some v | false => List.lookup k r) = some v
  rw [beq_self_eq_true]
theorem lk_miss {k j : Str} {v : V} {r : List (Str × V)} {o : Option V} (h : (k == j) = false) (e : List.lookup k r = o) : List.lookup k ((j, v) :: r) = o := by
  show (match k == j with | true => some v | false => List.lookup k r) = o
  rw [h]
  exact e
theorem pf_nil {k : Str} {v : V} : putF k v [] = [(k, v)] := rfl
theorem pf_hit {k : Str} {v x : V} {r : List (Str × V)} : putF k v ((k, x) :: r) = (k, v) :: r := by
  show (if k = k then (k, v) :: r else _) = _
  rw [if_pos rfl]
theorem pf_miss {k j : Str} {v x : V} {r s : List (Str × V)} (h : (j == k) = false) (e : putF k v r = s) : putF k v ((j, x) :: r) = (j, x) :: s := by
  show (if j = k then _ else (j, x) :: putF k v r) = _
  rw [if_neg (by simpa using h), e]
section
variable {σ : L2.St} {H : Hp} {Q : VK} {K : PySem.W.Frag} {ta tv : TE} {f : Str} {D : Ends} {tr : TA} {m : Str} {sp : Sp} {dvs : List V} {E : XK} {C p dx : Addr} {fs : List (Str × V)} {v : V} {rd : V → V → Hp → VK → Prop}
theorem g_fld (h : ta σ H fun x H1 => ∃ a C dx fs v, x = .ref a ∧ H1 a = some (.ins C dx fs) ∧ Cls K C ∧ NoAttr K C f ∧ fs.lookup f = some v ∧ Q v H1) : tFld K ta f σ H Q := h
theorem g_sfld (h : tv σ H fun y H1 => ta σ H1 fun x H2 => ∃ a C dx fs, x = .ref a ∧ H2 a = some (.ins C dx fs) ∧ Cls K C ∧ NoAttr K C f ∧ fs.length < 1000 ∧ D.nx σ (upd H2 a (.ins C dx (putF f y fs)))) : sFld K ta tv f D σ H := h
theorem g_afld (h : ta σ H fun x H1 => ∃ a C dx fs v, x = .ref a ∧ H1 a = some (.ins C dx fs) ∧ Cls K C ∧ NoAttr K C f ∧ fs.lookup f = some v ∧
  tv σ H1 fun y H2 => rd v y H2 fun z H3 => ∃ dx' fs', H3 a = some (.ins C dx' fs') ∧ fs'.length < 1000 ∧ D.nx σ (upd H3 a (.ins C dx' (putF f z fs')))) : sFldAug K ta tv rd f D σ H := h
theorem g_meth (h : ta σ H fun x H1 => ∃ a dx fs, x = .ref a ∧ H1 a = some (.ins C dx fs) ∧ fs.lookup m = Option.none ∧ tr σ H1 fun vs H2 => sp (x :: (vs ++ dvs)) H2 Q E) : tMeth C m sp dvs E ta tr σ H Q := h
theorem g_make (h : tr σ H fun vs H1 => ∀ x dx, H1 x = Option.none → H1 dx = Option.none → dx ≠ x → sp (.ref x :: (vs ++ dvs)) (upd (upd H1 dx (.own x)) x (.ins C dx [])) (fun v H2 => v = .non ∧ Q (.ref x) H2) E) : tMake C sp dvs E tr σ H Q := h
end
/-! ### t[::-1] of a tuple -/
theorem back_places (n : Nat) : Builtin.Slice.sliceAdjust Option.none Option.none (-1) (n : Int) = ((n : Int) - 1, -1) := rfl
theorem back_many (n : Nat) : Builtin.Slice.slicePlaces ((n : Int) - 1) (-1) (-1) = n := by
  unfold Builtin.Slice.slicePlaces
  rw [if_neg (by decide)]
  by_cases h : (n : Int) - 1 > -1
  · rw [if_pos h, show (-(-1) : Int) = 1 by decide, Int.ediv_one]
    omega
  · rw [if_neg h]
    omega
theorem back_items (xs : Array Value) : ((List.range xs.size).filterMap fun (k : Nat) => xs[((xs.size : Int) - 1 + (k : Int) * (-1)).toNat]?).toArray = xs.toList.reverse.toArray := by
  have e := PySem.W.krv_pick xs
  unfold slicePick at e
  rw [PySem.W.krv_bounds] at e
  have e2 : ((sliceRange ((xs.size : Int) - 1) (-1) (-1)).filterMap (xs[·]?)).toArray = xs.toList.reverse.toArray := e
  rw [PySem.W.krv_sliceRange, List.filterMap_map] at e2
  rw [← e2]
  have e3 : (fun (k : Nat) => xs[((xs.size : Int) - 1 + (k : Int) * (-1)).toNat]?) = ((xs[·]?) ∘ fun k => xs.size - 1 - k) := by
    funext k
    show xs[((xs.size : Int) - 1 + (k : Int) * (-1)).toNat]? = xs[xs.size - 1 - k]?
    congr 1
    omega
  rw [e3]
section
variable {prog : Program} {w : World} {A : Around} {E : Value → Shared → Prop} {s : Shared}
theorem applied_back {sl : Addr} {n : Nat} {t : Tok} {Q : Int × Int × Nat → Shared → Prop} (hs : s.heap.IsSliceOf sl .none .none (.int (-1) t)) (h : Q ((n : Int) - 1, -1, n) s) :
    wpAny (model prog w) A (Builtin.Slice.sliceApplied (.ref sl) (pure (n : Int))) Q E s := by
  obtain ⟨os, hos, hcs, hds⟩ := id hs
  unfold Builtin.Slice.sliceApplied Builtin.Slice.sliceFields
  refine wpAny_bind (wpAny_bind (wpAny_field hos hds (x := .none) rfl (wpAny_bind (wpAny_field hos hds (x := .none) rfl (wpAny_bind (wpAny_field hos hds (x := .int (-1) t) rfl (wpAny_pure ?_)))))))
  refine wpAny_bind (slicePart_int ?_)
  show wpAny _ _ (if ((-1 : Int) == 0) = true then _ else _) _ _ s
  rw [if_neg (by decide)]
  refine wpAny_bind (slicePart_none (wpAny_bind (slicePart_none (wpAny_bind (wpAny_pure ?_)))))
  show wpAny _ _ (match Builtin.Slice.sliceAdjust Option.none Option.none (-1) (n : Int) with | (lo, hi) => pure (lo, (-1 : Int), Builtin.Slice.slicePlaces lo hi (-1))) _ _ s
  rw [back_places]
  show wpAny _ _ (pure ((n : Int) - 1, (-1 : Int), Builtin.Slice.slicePlaces ((n : Int) - 1) (-1) (-1))) _ _ s
  rw [back_many]
  exact wpAny_pure h
theorem item_back {t sl : Addr} {items : Array Value} {tk : Tok} {Q : Value → Shared → Prop} (ht : IsTup s.heap t items) (hs : s.heap.IsSliceOf sl .none .none (.int (-1) tk)) (hsz : items.size ≤ sizeLine)
    (h : Q (.ref s.heap.objs.size) { s with heap := s.heap.push { cls := .type "tuple", data := .seq items.toList.reverse.toArray } }) : wpAny (model prog w) A (getItem (.ref t) (.ref sl)) Q E s := by
  have hz : sizeOk (.seq items.toList.reverse.toArray) := by
    show items.toList.reverse.toArray.size ≤ sizeLine
    rw [List.size_toArray, List.length_reverse, Array.length_toList]
    exact hsz
  obtain ⟨os, hos, hcs, hds⟩ := id hs
  have hTs : s.TypeIs (.ref sl) "slice" := ⟨os, hos, hcs⟩
  unfold getItem
  try with_reducible refine wpAny_holding ?_
  first | refine wpAny_bind (wpAny_pure ?_) | skip
  refine wpAny_bind (wpAny_sequenceKey ht.typeIs (by decide) ?_)
  refine wpAny_bind (wpAny_callSpecial?_slot (name := Str.ofString "__getitem__") ht.typeIs PyProof.Rows.slot_tuple_getitem (wpAny_call_entry PyProof.Rows.slot_tuple_getitem ht.typeIs entry_tuple_getitem ?_ (args_tuple_getitem _ _)))
  show wpAny _ _ (Builtin.Tuple.tupleItemsOf (.ref t) >>= _) _ _ s
  refine wpAny_bind (tupleItemsOf_ ht (wpAny_bind (wpAny_typeOf hTs ?_)))
  rw [if_pos (by decide)]
  refine wpAny_bind (applied_back hs ?_)
  show wpAny _ _ (if (((items.size : Int) - 1 == 0 && (-1 : Int) == 1 && items.size == items.size)) = true then _ else _) _ _ s
  rw [if_neg (by rw [show ((-1 : Int) == 1) = false from rfl, Bool.and_false, Bool.false_and]; exact Bool.false_ne_true), back_items]
  first
    | exact wpAny_bind (m := Builtin.Tuple.tupleExact _) (wpAny_newObj_type (wpAny_pure ⟨_, rfl, wpAny_pure h⟩) hz)
    | exact wpAny_bind (m := Builtin.Tuple.tupleExact _) (wpAny_newObj_type (wpAny_bind (wpAny_pure (wpAny_pure ⟨_, rfl, wpAny_pure h⟩))) hz)
    | exact wpAny_bind (wpAny_bind (m := Builtin.Tuple.tupleExact _) (wpAny_newObj_type (wpAny_pure (wpAny_pure ⟨_, rfl, wpAny_pure h⟩)) hz))
    | exact wpAny_bind (wpAny_bind (m := Builtin.Tuple.tupleExact _) (wpAny_newObj_type (wpAny_pure ⟨_, rfl, wpAny_pure h⟩) hz))
end
def tRevT (K : PySem.W.Frag) (te : TE) : TE := fun σ H Q => te σ H fun x H1 => ∃ a xs, x = .ref a ∧ SqT K H1 a xs ∧ ∀ p, H1 p = Option.none → Q (.ref p) (upd H1 p (.tup xs.reverse))
theorem pe_revT {X : Cx} {e : Expr} {te : TE} {k : Nat} {p1 p2 p3 pos : Pos} (he : PE X e te) : PE X (.Subscript e (.Slice Option.none Option.none (some (.UnaryOp .USub (.Constant (.int 1) k p1) p2)) p3) pos) (tRevT X.K te) := by
  refine ⟨fun pins s σ H Q I h => ?_⟩
  refine Subscript_ (thn (he.run pins s σ H _ I h) fun v s1 ⟨x, H1, I1, r1, q1⟩ => ?_)
  obtain ⟨a, xs, ex, hx, q⟩ := q1
  subst ex
  cases r1
  have hst : PO X (some (.UnaryOp .USub (.Constant (.int 1) k p1) p2)) (tPart (tUn (rU fun i => .int (-i)) (tC (.int 1)))) := po_some (pe_un un_neg pe_int)
  refine wpAny_Slice (thn (po_none.run pins s1 σ H1 (fun o H2 => o = Option.none ∧ H2 = H1) I1 ⟨rfl, rfl⟩) fun vl s2 ⟨l, H2, I2, pl, el, e2⟩ => ?_)
  subst el e2
  refine thn (po_none.run pins s2 σ H2 (fun o H3 => o = Option.none ∧ H3 = H2) I2 ⟨rfl, rfl⟩) fun vu s3 ⟨u, H3, I3, pu, eu, e3⟩ => ?_
  subst eu e3
  refine thn (hst.run pins s3 σ H3 (fun o H4 => o = some (-1) ∧ H4 = H3) I3 ⟨1, rfl, -1, rfl, rfl, rfl⟩) fun vs s4 ⟨o, H4, I4, ps, eo, e4⟩ => ?_
  subst eo e4
  have I5 : Inv X pins σ H4 { s4 with heap := s4.heap.push { cls := .type "slice", data := .fields #[vl, vu, vs] } } := I4.kept (t' := s4.toks) fun b ob q => Heap.get?_push_of_some _ q
  obtain ⟨its, r, ht, hz⟩ := I5.tuple hx
  have hlen := r.length
  cases pl
  cases pu
  cases ps with
  | int i tk =>
  show wpAny (model X.prog X.w) X.A (subscriptTail e (.Slice Option.none Option.none (some (.UnaryOp .USub (.Constant (.int 1) k p1) p2)) p3) (.ref a) (.ref s4.heap.objs.size)) (EP X pins σ Q) X.xe { s4 with heap := s4.heap.push { cls := .type "slice", data := .fields #[.none, .none, .int (-1) tk] } }
  refine tail_any (ops := [.ref a, .ref s4.heap.objs.size]) ht.typeIs PyProof.Rows.slot_tuple_getitem.lookup ?_ (by with_unfolding_all rfl)
  refine item_back ht (Heap.IsSliceOf.new _ .none .none (.int (-1) tk)) (by rw [List.size_toArray]; omega) ?_
  refine ⟨.ref _, _, I5.laid (t' := s4.toks) (o := .tup xs.reverse) (fun b ob q => Heap.get?_push_of_some _ q) (Nat.le_refl _) ?_, rfl, q _ (I5.hok.fresh (Nat.le_refl _))⟩
  exact ⟨by rw [List.length_reverse]; exact hz, its.reverse, r.reverse, IsTup.new _ _⟩
theorem g_revT {σ : L2.St} {H : Hp} {Q : VK} {K : PySem.W.Frag} {te : TE} (h : te σ H fun x H1 => ∃ a xs, x = .ref a ∧ SqT K H1 a xs ∧ ∀ p, H1 p = Option.none → Q (.ref p) (upd H1 p (.tup xs.reverse))) : tRevT K te σ H Q := h
theorem g_revL {σ : L2.St} {H : Hp} {Q : VK} {K : PySem.W.Frag} {te : TE} (h : te σ H fun x H1 => ∃ a xs, x = .ref a ∧ SqL K H1 a xs ∧ ∀ p, H1 p = Option.none → Q (.ref p) (upd H1 p (.lst xs.reverse))) : tRevL K te σ H Q := h
section
variable {σ : L2.St} {H : Hp} {Q : VK} {td ty tx tv : TE} {D : Ends} {ta : TA} {K : PySem.W.Frag} {R : It → Hp → Prop}
theorem g_din (h : ty σ H fun y H1 => td σ H1 fun x H2 => ∃ a o, x = .ref a ∧ DGet H2 a y o ∧ Q (.bl o.isSome) H2) : tDIn ty td σ H Q := h
theorem g_dnin (h : ty σ H fun y H1 => td σ H1 fun x H2 => ∃ a o, x = .ref a ∧ DGet H2 a y o ∧ Q (.bl (!o.isSome)) H2) : tDNotIn ty td σ H Q := h
theorem g_dget (h : td σ H fun x H1 => ty σ H1 fun y H2 => ∃ a v, x = .ref a ∧ DGet H2 a y (some v) ∧ Q v H2) : tDGet td ty σ H Q := h
theorem g_dget2 (h : td σ H fun x H1 => ∃ a, x = .ref a ∧ IsD H1 a ∧ ty σ H1 fun y H2 => tx σ H2 fun z H3 => ∃ o, DGet H3 a y o ∧ Q (o.getD z) H3) : tDGet2 td ty tx σ H Q := h
theorem g_dpop2 (h : td σ H fun x H1 => ∃ a, x = .ref a ∧ IsD H1 a ∧ ty σ H1 fun y H2 => tx σ H2 fun z H3 => ∃ kvs k, H3 a = some (.dK kvs) ∧ y = kV k ∧ (∀ v, valV kvs k = some v → Q v (upd H3 a (.dK (dropK kvs k)))) ∧ (valV kvs k = Option.none → Q z H3)) : tDPop2 td ty tx σ H Q := h
theorem g_dput (h : tv σ H fun v H1 => td σ H1 fun x H2 => ty σ H2 fun y H3 => ∃ a H4, x = .ref a ∧ DPut H3 a y v H4 ∧ D.nx σ H4) : sDPut td ty tv D σ H := h
theorem g_rev (h : ta σ H fun vs H1 => ∃ (a : Addr) (xs : List V), vs = [.ref a] ∧ SqL K H1 a xs ∧ R (Itv K a xs.length) H1) : iRev K ta σ H R := h
theorem g_dnew (h : ∀ p, H p = Option.none → Q (.ref p) (upd H p (.dK []))) : tDNewK σ H Q := h
end
section
variable {σ : L2.St} {H : Hp} {Q : VK} {sp : Sp} {E : L2.St → XK} {t : TA}
theorem g_callS (h : t σ H fun vs H1 => sp vs H1 Q (E σ)) : tCallS sp E t σ H Q := h
end
theorem dpAll_last {K : PySem.W.Frag} {H : Hp} : ∀ {l : List PyData} {xs : List V} {d : PyData}, DpAll K H xs (l ++ [d]) → ∃ ys v, xs = ys ++ [v] ∧ DpAll K H ys l ∧ Dp K H v d
  | [], _, d, h => by
    have h' : DpAll K H _ [d] := h
    cases h' with
    | cons a b => cases b; exact ⟨[], _, rfl, .nil, a⟩
  | e :: l, _, d, h => by
    have h' : DpAll K H _ (e :: (l ++ [d])) := h
    cases h' with
    | cons a b =>
      obtain ⟨ys, v, rfl, h1, h2⟩ := dpAll_last b
      exact ⟨_ :: ys, v, rfl, .cons a h1, h2⟩
theorem last_at {ys : List V} {v : V} : (ys ++ [v])[(ys ++ [v]).length - 1]? = some v := by simp
theorem dpAll_rev {K : PySem.W.Frag} {H : Hp} : ∀ {xs : List V} {ds : List PyData}, DpAll K H xs ds → DpAll K H xs.reverse ds.reverse
  | _, _, .nil => .nil
  | _, _, .cons a b => by
    rw [List.reverse_cons, List.reverse_cons]
    exact dpAll_end (dpAll_rev b) a
theorem nL_app {a b : List PyData} : nLs (a ++ b) = (nLs a && nLs b) := by
  induction a with
  | nil => simp [nLs]
  | cons d a ih => simp only [List.cons_append, nLs, ih, Bool.and_assoc]
theorem nL_rev {a : List PyData} (h : nLs a = true) : nLs a.reverse = true := nLs_of fun d hd => nLs_mem h d (List.mem_reverse.mp hd)
theorem valV_dropK (kvs : List (Key × V)) (k j : Key) : valV (dropK kvs k) j = if j = k then Option.none else valV kvs j := by
  induction kvs with
  | nil => simp [dropK, valV_nil]
  | cons p r ih =>
    unfold dropK at ih ⊢
    rw [List.filter_cons]
    by_cases e : p.1 = k
    · rw [if_neg (by simp [e]), ih]
      by_cases z : j = k
      · rw [if_pos z, if_pos z]
      · rw [if_neg z, if_neg z, valV_neg (by rw [e]; exact fun w => z w.symm)]
    · rw [if_pos (by simp [e])]
      by_cases f : p.1 = j
      · rw [valV_pos f, valV_pos f, if_neg (by rw [← f]; exact e)]
      · rw [valV_neg f, valV_neg f, ih]
end My

namespace My
open PySem PySem.Spec PyProof.Rows L2 SkE
/-! ### the text -/
def topS (i : Nat) : Stmt := PySem.Challenge.pw_hornbook_k82_candidates_lose_nothing.main.body.getD i (.Pass ⟨0, 0, 0, 0⟩)
abbrev s_is_variable : Stmt := topS 1
abbrev N_is_variable : List Str := ["node"]
theorem sc_is_variable : FnScope N_is_variable ["node"] (defScope s_is_variable) := ⟨rfl, rfl, rfl, by decide +kernel, rfl, by decide +kernel, by decide +kernel⟩
abbrev s_is_symbol : Stmt := topS 2
abbrev N_is_symbol : List Str := ["node"]
theorem sc_is_symbol : FnScope N_is_symbol ["node"] (defScope s_is_symbol) := ⟨rfl, rfl, rfl, by decide +kernel, rfl, by decide +kernel, by decide +kernel⟩
abbrev s_arity_of : Stmt := topS 3
abbrev N_arity_of : List Str := ["node"]
theorem sc_arity_of : FnScope N_arity_of ["node"] (defScope s_arity_of) := ⟨rfl, rfl, rfl, by decide +kernel, rfl, by decide +kernel, by decide +kernel⟩
abbrev s_end_of : Stmt := topS 4
abbrev N_end_of : List Str := ["nodes", "start", "missing", "at"]
theorem sc_end_of : FnScope N_end_of ["nodes", "start"] (defScope s_end_of) := ⟨rfl, rfl, rfl, by decide +kernel, rfl, by decide +kernel, by decide +kernel⟩
abbrev s_parts : Stmt := topS 5
abbrev N_parts : List Str := ["term", "found", "at", "end"]
theorem sc_parts : FnScope N_parts ["term"] (defScope s_parts) := ⟨rfl, rfl, rfl, by decide +kernel, rfl, by decide +kernel, by decide +kernel⟩
abbrev s_key : Stmt := topS 7
abbrev N_key : List Str := ["term"]
theorem sc_key : FnScope N_key ["term"] (defScope s_key) := ⟨rfl, rfl, rfl, by decide +kernel, rfl, by decide +kernel, by decide +kernel⟩
abbrev s_conflict : Stmt := topS 8
abbrev N_conflict : List Str := ["one", "other"]
theorem sc_conflict : FnScope N_conflict ["one", "other"] (defScope s_conflict) := ⟨rfl, rfl, rfl, by decide +kernel, rfl, by decide +kernel, by decide +kernel⟩
abbrev s_head_keys : Stmt := topS 9
abbrev N_head_keys : List Str := ["head", "part"]
theorem sc_head_keys : FnScope N_head_keys ["head"] (defScope s_head_keys) := ⟨rfl, rfl, rfl, by decide +kernel, rfl, by decide +kernel, by decide +kernel⟩
abbrev s_is_candidate : Stmt := topS 10
abbrev N_is_candidate : List Str := ["keys", "wanted", "index", "node"]
theorem sc_is_candidate : FnScope N_is_candidate ["keys", "wanted"] (defScope s_is_candidate) := ⟨rfl, rfl, rfl, by decide +kernel, rfl, by decide +kernel, by decide +kernel⟩
abbrev s_candidates : Stmt := topS 11
abbrev N_candidates : List Str := ["clauses", "arguments", "plan", "wanted", "index", "position", "head", "_"]
theorem sc_candidates : FnScope N_candidates ["clauses", "arguments", "plan"] (defScope s_candidates) := ⟨rfl, rfl, rfl, by decide +kernel, rfl, by decide +kernel, by decide +kernel⟩
abbrev s__law_stream : Stmt := topS 13
abbrev N__law_stream : List Str := ["script", "mixed", "cell"]
theorem sc__law_stream : FnScope N__law_stream ["script"] (defScope s__law_stream) := ⟨rfl, rfl, rfl, by decide +kernel, rfl, by decide +kernel, by decide +kernel⟩
abbrev s__law_draw : Stmt := topS 14
abbrev N__law_draw : List Str := ["stream", "many", "value"]
theorem sc__law_draw : FnScope N__law_draw ["stream", "many"] (defScope s__law_draw) := ⟨rfl, rfl, rfl, by decide +kernel, rfl, by decide +kernel, by decide +kernel⟩
abbrev s__law_end : Stmt := topS 15
abbrev N__law_end : List Str := ["term", "at", "missing", "node"]
theorem sc__law_end : FnScope N__law_end ["term", "at"] (defScope s__law_end) := ⟨rfl, rfl, rfl, by decide +kernel, rfl, by decide +kernel, by decide +kernel⟩
abbrev s__law_leaf : Stmt := topS 17
abbrev N__law_leaf : List Str := ["stream", "widest", "pick"]
theorem sc__law_leaf : FnScope N__law_leaf ["stream", "widest"] (defScope s__law_leaf) := ⟨rfl, rfl, rfl, by decide +kernel, rfl, by decide +kernel, by decide +kernel⟩
abbrev s__law_term : Stmt := topS 18
abbrev N__law_term : List Str := ["stream", "size", "widest", "nodes", "missing", "room", "arity", "name"]
theorem sc__law_term : FnScope N__law_term ["stream", "size", "widest"] (defScope s__law_term) := ⟨rfl, rfl, rfl, by decide +kernel, rfl, by decide +kernel, by decide +kernel⟩
abbrev s__law_nest : Stmt := topS 19
abbrev N__law_nest : List Str := ["term", "at", "node", "rows", "k"]
theorem sc__law_nest : FnScope N__law_nest ["term", "at"] (defScope s__law_nest) := ⟨rfl, rfl, rfl, by decide +kernel, rfl, by decide +kernel, by decide +kernel⟩
abbrev s__law_walk : Stmt := topS 20
abbrev N__law_walk : List Str := ["table", "value", "k"]
theorem sc__law_walk : FnScope N__law_walk ["table", "value"] (defScope s__law_walk) := ⟨rfl, rfl, rfl, by decide +kernel, rfl, by decide +kernel, by decide +kernel⟩
abbrev s__law_occurs : Stmt := topS 21
abbrev N__law_occurs : List Str := ["table", "number", "value", "row"]
theorem sc__law_occurs : FnScope N__law_occurs ["table", "number", "value"] (defScope s__law_occurs) := ⟨rfl, rfl, rfl, by decide +kernel, rfl, by decide +kernel, by decide +kernel⟩
abbrev s__law_unify : Stmt := topS 22
abbrev N__law_unify : List Str := ["table", "left", "right", "k"]
theorem sc__law_unify : FnScope N__law_unify ["table", "left", "right"] (defScope s__law_unify) := ⟨rfl, rfl, rfl, by decide +kernel, rfl, by decide +kernel, by decide +kernel⟩
abbrev s__law_clauses : Stmt := topS 24
abbrev N__law_clauses : List Str := ["stream", "arity", "many", "clauses", "k", "head", "n"]
theorem sc__law_clauses : FnScope N__law_clauses ["stream", "arity", "many"] (defScope s__law_clauses) := ⟨rfl, rfl, rfl, by decide +kernel, rfl, by decide +kernel, by decide +kernel⟩
abbrev s__law_apart : Stmt := topS 27
abbrev N__law_apart : List Str := ["node"]
theorem sc__law_apart : FnScope N__law_apart ["node"] (defScope s__law_apart) := ⟨rfl, rfl, rfl, by decide +kernel, rfl, by decide +kernel, by decide +kernel⟩
abbrev s_law : Stmt := topS 28
abbrev N_law : List Str := ["script", "stream", "arity", "clauses", "arguments", "k", "call", "argument", "node", "plan", "less", "more", "position"]
theorem sc_law : FnScope N_law ["script"] (defScope s_law) := ⟨rfl, rfl, rfl, by decide +kernel, rfl, by decide +kernel, by decide +kernel⟩
/-- names that the top leaves to the built-ins, and its constants -/
structure Bi (K : PySem.W.Frag) (mg : Str → Option Value) : Prop where
  b_abs : mg "abs" = Option.none
  b_all : mg "all" = Option.none
  b_any : mg "any" = Option.none
  b_enumerate : mg "enumerate" = Option.none
  b_int : mg "int" = Option.none
  b_isinstance : mg "isinstance" = Option.none
  b_len : mg "len" = Option.none
  b_list : mg "list" = Option.none
  b_min : mg "min" = Option.none
  b_range : mg "range" = Option.none
  b_tuple : mg "tuple" = Option.none

/-! ### names, nodes, terms -/
def okSign (c : Nat) : Bool := decide (32 ≤ c) && decide (c ≤ 126) && !decide (c = 37)
def okName (x : Str) : Bool := decide (1 ≤ x.length) && decide (x.length ≤ 40) && x.cps.toList.all okSign
def names20 : List Str := ["a", "b", "f", "g", "hello", "[]", "+", "-", ",", "it's", "X", "a b", "{}", ".", "=", "'", "aB_1", "!", "0", "lvjkuwnd"]
def signs : Str := (Str.ofString " !\"#$&'()*+,-./0123456789:;<=>?@ABCDEFGHIJKLMNOPQRSTUVWXYZ[\\]^_`") ++ (Str.ofString "abcdefghijklmnopqrstuvwxyz{|}~")
theorem names20_ok : names20.all okName = true := by decide +kernel
theorem signs_ok : signs.cps.toList.all okSign = true := by decide +kernel
theorem signs_len : signs.length = 94 := by decide +kernel
theorem join_ones (e : Str) (he : e.cps = #[]) : ∀ cs : List Nat, (Str.join e (cs.map fun c => ⟨#[c]⟩)).cps.toList = cs
  | [] => rfl
  | [c] => rfl
  | c :: d :: r => by
    have ih := join_ones e he (d :: r)
    show ((⟨#[c]⟩ : Str) ++ e ++ Str.join e ((d :: r).map fun c => (⟨#[c]⟩ : Str))).cps.toList = c :: d :: r
    show (#[c] ++ e.cps ++ (Str.join e ((d :: r).map fun c => (⟨#[c]⟩ : Str))).cps).toList = c :: d :: r
    rw [he, Array.toList_append, ih]
    rfl
inductive Nd (wd : Int) : PyData → Prop
  | v (n : Int) : 0 ≤ n → n < wd → Nd wd (.tuple [.str "v", .int n])
  | i (n : Int) : -(10 ^ 40) < n → n < 10 ^ 40 → Nd wd (.int n)
  | f (x : Str) (n : Int) : okName x = true → 0 ≤ n → n ≤ 8 → Nd wd (.tuple [.str "f", .str x, .int n])
def arN : PyData → Nat
  | .tuple [_, _, c] => (match c with | .int n => n.toNat | _ => 0) | _ => 0
/-- from m missing terms on, the nodes are just these terms -/
def Cls : Nat → List PyData → Prop
  | m, [] => m = 0
  | m, d :: r => 0 < m ∧ Cls (m - 1 + arN d) r
structure Term (wd : Int) (ds : List PyData) : Prop where
  cl : Cls 1 ds
  nd : ∀ d ∈ ds, Nd wd d
/-! ### the promises -/
def sp__law_stream (K : PySem.W.Frag) : Sp := fun vs H Q _ => ∃ (a : Addr) (ns : List Int), vs = [.ref a] ∧ SqL K H a (ns.map V.int) ∧ ns.length ≤ 63 ∧ ∀ s l H', H s = Option.none → H l = Option.none → Same H H' → Stm H' s l → Q (.ref s) H'
def sp__law_draw (K : PySem.W.Frag) : Sp := fun vs H Q _ => ∃ (s l : Addr) (n : Int), vs = [.ref s, .int n] ∧ Stm H s l ∧ 0 < n ∧ n.natAbs < 2 ^ 9000 ∧ ∀ r H', 0 ≤ r → r < n → But s H H' → Stm H' s l → Q (.int r) H'
/-! ### nodes -/
def isSymN : PyData → Bool
  | .tuple [_, _, _] => true | _ => false
def NdA (d : PyData) : Prop := ∃ wd, Nd wd d
/-- how many nodes m terms take -/
def tk : Nat → List PyData → Nat
  | _, [] => 0
  | m, d :: r => if m = 0 then 0 else 1 + tk (m - 1 + arN d) r
theorem tk_zero (l : List PyData) : tk 0 l = 0 := by
  cases l with
  | nil => rfl
  | cons d r => exact if_pos rfl
theorem tk_cons {m : Nat} (h : 0 < m) (d : PyData) (r : List PyData) : tk m (d :: r) = 1 + tk (m - 1 + arN d) r := if_neg (by omega)
theorem arN_nsym {d : PyData} (h : isSymN d = false) : arN d = 0 := by
  cases d with
  | tuple ds =>
    rcases ds with _ | ⟨a, _ | ⟨b, _ | ⟨c, _ | ⟨e, r⟩⟩⟩⟩
    · rfl
    · rfl
    · rfl
    · cases h
    · rfl
  | _ => rfl
theorem tk_le : ∀ (l : List PyData) (m : Nat), tk m l ≤ l.length
  | [], _ => Nat.le_refl 0
  | d :: r, m => by
    by_cases h : m = 0
    · subst h; rw [tk_zero]; exact Nat.zero_le _
    · rw [tk_cons (by omega)]
      have := tk_le r (m - 1 + arN d)
      rw [List.length_cons]
      omega
theorem tk_add : ∀ (l : List PyData) (j m : Nat), tk (j + m) l = tk j l + tk m (l.drop (tk j l))
  | [], j, m => by simp [tk]
  | d :: r, j, m => by
    by_cases h : j = 0
    · subst h
      rw [tk_zero, Nat.zero_add, Nat.zero_add, List.drop_zero]
    · rw [tk_cons (by omega), tk_cons (m := j) (by omega), show j + m - 1 + arN d = (j - 1 + arN d) + m by omega, tk_add r (j - 1 + arN d) m]
      rw [show 1 + tk (j - 1 + arN d) r = tk (j - 1 + arN d) r + 1 by omega, List.drop_succ_cons]
      omega
/-- the rest of what is closed is closed -/
theorem cls_drop : ∀ (l : List PyData) (k j : Nat), Cls k l → j ≤ k → Cls (k - j) (l.drop (tk j l))
  | [], k, j, h, hj => by
    have hk : k = 0 := h
    rw [List.drop_nil]
    show k - j = 0
    omega
  | d :: r, k, j, h, hj => by
    by_cases z : j = 0
    · subst z
      rw [tk_zero]
      exact h
    · rw [tk_cons (by omega), show 1 + tk (j - 1 + arN d) r = tk (j - 1 + arN d) r + 1 by omega, List.drop_succ_cons]
      have := cls_drop r (k - 1 + arN d) (j - 1 + arN d) h.2 (by omega)
      rwa [show k - 1 + arN d - (j - 1 + arN d) = k - j by omega] at this
theorem cls_take : ∀ (l : List PyData) (k j : Nat), Cls k l → j ≤ k → Cls j (l.take (tk j l))
  | [], k, j, h, hj => by
    have hk : k = 0 := h
    rw [List.take_nil]
    show j = 0
    omega
  | d :: r, k, j, h, hj => by
    by_cases z : j = 0
    · subst z
      rw [tk_zero]
      rfl
    · rw [tk_cons (by omega), show 1 + tk (j - 1 + arN d) r = tk (j - 1 + arN d) r + 1 by omega, List.take_succ_cons]
      exact ⟨by omega, cls_take r (k - 1 + arN d) (j - 1 + arN d) h.2 (by omega)⟩
theorem tk_take : ∀ (l : List PyData) (i j : Nat), i ≤ j → tk i (l.take (tk j l)) = tk i l
  | [], i, j, _ => by rw [List.take_nil]
  | d :: r, i, j, h => by
    by_cases z : i = 0
    · subst z
      rw [tk_zero, tk_zero]
    · rw [tk_cons (m := j) (by omega), show 1 + tk (j - 1 + arN d) r = tk (j - 1 + arN d) r + 1 by omega, List.take_succ_cons, tk_cons (by omega), tk_cons (by omega), tk_take r _ _ (by omega)]
theorem take_full : ∀ (l : List PyData) (k : Nat), Cls k l → l.take (tk k l) = l
  | [], _, _ => List.take_nil
  | d :: r, k, h => by
    rw [tk_cons h.1, show 1 + tk (k - 1 + arN d) r = tk (k - 1 + arN d) r + 1 by omega, List.take_succ_cons, take_full r _ h.2]
theorem cls_map : ∀ (ds es : List PyData) (m : Nat), es.map arN = ds.map arN → Cls m ds → Cls m es
  | [], [], m, _, h => h
  | [], e :: es, m, h, _ => by cases h
  | d :: ds, [], m, h, _ => by cases h
  | d :: ds, e :: es, m, h, hc => by
    rw [List.map_cons, List.map_cons] at h
    obtain ⟨h1, h2⟩ := List.cons.inj h
    exact ⟨hc.1, by rw [h1]; exact cls_map ds es _ h2 hc.2⟩
/-! ### nodes can be compared -/
theorem okName_cps {x : Str} (h : okName x = true) : PyData.strOk x = true := by
  unfold okName at h
  rw [Bool.and_eq_true] at h
  unfold PyData.strOk
  rw [← Array.all_toList]
  refine List.all_eq_true.mpr fun c hc => ?_
  have := List.all_eq_true.mp h.2 c hc
  unfold okSign at this
  simp only [Bool.and_eq_true, decide_eq_true_eq] at this
  exact decide_eq_true (by omega)
theorem nd_lay {d : PyData} (h : NdA d) : d.canLay0 = true ∧ d.depth ≤ 1 ∧ d.eqv d = true := by
  obtain ⟨wd, h⟩ := h
  cases h with
  | v n _ _ => exact ⟨by simp only [PyData.canLay0, PyData.canLayAll0]; decide +kernel, by simp [PyData.depth, PyData.depthAll], by simp only [PyData.eqv, PyData.eqvAll, beq_self_eq_true, Bool.and_self]⟩
  | i n _ _ => exact ⟨by simp only [PyData.canLay0], by simp [PyData.depth], by simp only [PyData.eqv, beq_self_eq_true]⟩
  | f x n hx _ _ => exact ⟨by simp only [PyData.canLay0, PyData.canLayAll0]; rw [okName_cps hx]; decide +kernel, by simp [PyData.depth, PyData.depthAll], by simp only [PyData.eqv, PyData.eqvAll, beq_self_eq_true, Bool.and_self]⟩
theorem nds_lay : ∀ {ds : List PyData}, (∀ d ∈ ds, NdA d) → PyData.canLayAll0 ds = true ∧ PyData.depthAll ds ≤ 1 ∧ PyData.eqvAll ds ds = true
  | [], _ => ⟨by simp only [PyData.canLayAll0], by simp [PyData.depthAll], by simp only [PyData.eqvAll]⟩
  | d :: r, h => by
    obtain ⟨a1, a2, a3⟩ := nd_lay (h d List.mem_cons_self)
    obtain ⟨b1, b2, b3⟩ := nds_lay (ds := r) fun e he => h e (List.mem_cons_of_mem _ he)
    refine ⟨by simp only [PyData.canLayAll0, a1, b1, Bool.and_self], ?_, by simp only [PyData.eqvAll, a3, b3, Bool.and_self]⟩
    simp only [PyData.depthAll]
    omega
theorem nd_shaped {d : PyData} (h : NdA d) : SeqAt.shaped d = true := by
  obtain ⟨a1, a2, _⟩ := nd_lay h
  show (d.canLay0 && decide (d.depth ≤ 64)) = true
  rw [a1, decide_eq_true (by omega)]
  rfl
theorem tup_shaped {ds : List PyData} (h : ∀ d ∈ ds, NdA d) : SeqAt.shaped (.tuple ds) = true := by
  obtain ⟨a1, a2, _⟩ := nds_lay h
  have hd : (PyData.tuple ds).depth ≤ 64 := by
    simp only [PyData.depth]
    omega
  have hc : (PyData.tuple ds).canLay0 = true := by
    simp only [PyData.canLay0]
    exact a1
  show ((PyData.tuple ds).canLay0 && decide ((PyData.tuple ds).depth ≤ 64)) = true
  rw [hc, decide_eq_true hd]
  rfl
theorem tup_eqv {ds : List PyData} (h : ∀ d ∈ ds, NdA d) : PyData.eqv (.tuple ds) (.tuple ds) = true := by
  simp only [PyData.eqv]
  exact (nds_lay h).2.2
/-- name = {k: v for ..} on one line, the name a local -/
theorem ps_setDc {X : Cx} {i : Nat} {y : Str} {py : Pos} {kx vx tg iter : Expr} {ifs : List Expr} {scope : Scope} {own : List (Str × Nat)} {pos spos : Pos} {wi : TI} {g : TG} {tt : TT} {tk tv : TE} (c1 : X.calm = true) (c2 : X.N.Nodup) (c3 : X.N[i]? = some y) (c4 : X.env.scope.names.lookup y = some .local)
    (c5 : swapsWith (.DictComp kx vx [⟨tg, iter, ifs, 0⟩] scope pos) (some (.Name y py)) spos.line X.env = pure true) (c6 : PI X tg iter wi) (c7 : BlkOk X.N X.env.scope scope own)
    (c8 : ∀ (z : Shared) (H : Hp) (C : Addr) (cl : List (Str × Addr)) (fp : List Addr), PG (X.blk z H scope (compEnvC scope cl C X.env) fp) tg g) (c9 : ∀ (z : Shared) (H : Hp) (C : Addr) (cl : List (Str × Addr)) (fp : List Addr), PTs (X.blk z H scope (compEnvC scope cl C X.env) fp) ifs tt)
    (d1 : ∀ (z : Shared) (H : Hp) (C : Addr) (cl : List (Str × Addr)) (fp : List Addr), PE (X.blk z H scope (compEnvC scope cl C X.env) fp) kx tk)
    (d2 : ∀ (z : Shared) (H : Hp) (C : Addr) (cl : List (Str × Addr)) (fp : List Addr), PE (X.blk z H scope (compEnvC scope cl C X.env) fp) vx tv) (d3 : ∀ x, foldedSetIterable iter X.env x = pure x := by intro _; rfl) :
    PS X (.Assign [.Name y py] (.DictComp kx vx [⟨tg, iter, ifs, 0⟩] scope pos) spos) (tAsg (tDc wi g tt tk tv (own.map (·.2))) (gName i)) := by
  refine ⟨fun pins st0 σ H D inv hyp => ?_⟩
  have hyp' : tDc wi g tt tk tv (own.map (·.2)) σ H (fun v Hq => gName i v σ Hq D.nx) := hyp
  rw [exec_Assign_Name_used _ _ _ _ c5]
  refine wpAny_bind <| wpAny_standAt <| wpAny_bind ?_
  show wpAny _ X.A (do let _ ← comprehension (.DictComp kx vx [⟨tg, iter, ifs, 0⟩] scope pos) scope X.env (firstIterPos [⟨tg, iter, ifs, 0⟩] pos) newDict false (eval iter X.env) (some (assign (.Name y py) X.env))) _ _ st0
  have core := dc_core (Qf := fun _ fin => SP X pins D .next fin) (pos := pos) (pos' := firstIterPos [⟨tg, iter, ifs, 0⟩] pos) (use := some (assign (.Name y py) X.env)) c1 c2 inv c6 c7 c8 c9 d1 d2 d3 hyp' fun L C fin mm Hf inv' qf nsC fp => by
    show wpAny _ _ (assign (.Name y py) X.env (.ref L)) _ _ _
    obtain ⟨e0, e1, e2, e3, e4, e5⟩ := fp
    refine wpAny_assign_Name (store_ok2 (v := V.ref L) inv' c2 c3 (.inl c4) rfl (fun fin2 inv2 ⟨w, same, hw⟩ => ?_) (.inr c4))
    have cw : C ≠ w := by
      intro z
      cases hw with
      | inl hw => exact e1 (z.trans hw)
      | inr hw => exact e4 y w hw z.symm
    exact ⟨mm, nsC.sameBut same cw, fun h3 sb3 => ⟨_, Hf, inv2.turned (t' := fin2.toks) (fun b o hb e => (sb3.2 b hb).trans e) e0 e1 e3 e4 e5, qf⟩⟩
  exact wpAny_bind (thn core fun _ fin hq => wpAny_pure (wpAny_pure hq))
theorem seq_via {t u : TS} {D : Ends} {σ : L2.St} {H : Hp} (P : L2.St → Hp → Prop) (hu : ∀ σ H, P σ H → u D σ H) (ht : (∀ σ H, P σ H → u D σ H) → t { D with nx := u D } σ H) : tSeq t u D σ H := ht hu
def isVarN : PyData → Bool
  | .tuple [_, _] => true | _ => false
def numN : PyData → Int
  | .tuple [_, .int n] => n | _ => 0
theorem var_arN {d : PyData} (h : isVarN d = true) : arN d = 0 := by
  cases d with
  | tuple ds =>
    rcases ds with _ | ⟨a, _ | ⟨b, _ | ⟨c, r⟩⟩⟩
    · rfl
    · rfl
    · rfl
    · cases h
  | _ => rfl
theorem nd_eq {d e : PyData} (h : NdA d) (h2 : NdA e) (q : PyData.eqv d e = true) : d = e := by
  obtain ⟨wd, h⟩ := h
  obtain ⟨we, h2⟩ := h2
  cases h with
  | v n _ _ =>
    cases h2 with
    | v m _ _ =>
      simp only [PyData.eqv, PyData.eqvAll, Bool.and_eq_true, beq_iff_eq] at q
      rw [q.2.1]
    | i m _ _ => simp [PyData.eqv] at q
    | f x m _ _ _ => simp [PyData.eqv, PyData.eqvAll] at q
  | i n _ _ =>
    cases h2 with
    | v m _ _ => simp [PyData.eqv] at q
    | i m _ _ =>
      simp only [PyData.eqv, beq_iff_eq] at q
      rw [q]
    | f x m _ _ _ => simp [PyData.eqv] at q
  | f x n _ _ _ =>
    cases h2 with
    | v m _ _ => simp [PyData.eqv, PyData.eqvAll] at q
    | i m _ _ => simp [PyData.eqv] at q
    | f y m _ _ _ =>
      simp only [PyData.eqv, PyData.eqvAll, Bool.and_eq_true, beq_iff_eq] at q
      rw [q.2.1, q.2.2.1]
theorem nds_eq : ∀ {ds es : List PyData}, (∀ d ∈ ds, NdA d) → (∀ e ∈ es, NdA e) → PyData.eqvAll ds es = true → ds = es
  | [], [], _, _, _ => rfl
  | [], _ :: _, _, _, h => by simp [PyData.eqvAll] at h
  | _ :: _, [], _, _, h => by simp [PyData.eqvAll] at h
  | d :: ds, e :: es, h1, h2, h => by
    simp only [PyData.eqvAll, Bool.and_eq_true] at h
    rw [nd_eq (h1 d List.mem_cons_self) (h2 e List.mem_cons_self) h.1, nds_eq (fun x hx => h1 x (List.mem_cons_of_mem _ hx)) (fun x hx => h2 x (List.mem_cons_of_mem _ hx)) h.2]
theorem tup_eq {ds es : List PyData} (h1 : ∀ d ∈ ds, NdA d) (h2 : ∀ e ∈ es, NdA e) (h : PyData.eqv (.tuple ds) (.tuple es) = true) : ds = es := by
  simp only [PyData.eqv] at h
  exact nds_eq h1 h2 h
theorem cls_app : ∀ (l r : List PyData) (j k : Nat), Cls j l → Cls k r → Cls (j + k) (l ++ r)
  | [], r, j, k, h, h2 => by
    have e : j = 0 := h
    rw [e, Nat.zero_add]
    exact h2
  | d :: l, r, j, k, h, h2 => by
    refine ⟨by have := h.1; omega, ?_⟩
    have := cls_app l r (j - 1 + arN d) k h.2 h2
    have e := h.1
    rwa [show j - 1 + arN d + k = j + k - 1 + arN d by omega] at this
/-- at each place of what is closed so many terms are missing -/
theorem cls_split : ∀ (ds : List PyData) (m i : Nat), Cls m ds → i ≤ ds.length → ∃ k, Cls k (ds.drop i) ∧ ∀ t, Cls k t → Cls m (ds.take i ++ t)
  | ds, m, 0, h, _ => ⟨m, h, fun t ht => ht⟩
  | [], m, i + 1, h, hi => absurd hi (by simp)
  | d :: ds, m, i + 1, h, hi => by
    obtain ⟨k, h1, h2⟩ := cls_split ds (m - 1 + arN d) i h.2 (by simpa using hi)
    exact ⟨k, h1, fun t ht => ⟨h.1, h2 t ht⟩⟩
abbrev Tab := List (Int × List PyData)
def valT (t : Tab) (n : Int) : Option (List PyData) := (t.find? fun p => decide (p.1 = n)).map (·.2)
/-- a dict with this table -/
def TabK (K : PySem.W.Frag) (H : Hp) : List (Key × V) → Tab → Prop
  | [], [] => True
  | p :: kvs, q :: t => p.1 = Sum.inl q.1 ∧ Dp K H p.2 (.tuple q.2) ∧ TabK K H kvs t
  | _, _ => False
def TabN (t : Tab) : Prop := ∀ p ∈ t, (∀ d ∈ p.2, NdA d)
theorem TabK.len {K : PySem.W.Frag} {H : Hp} : ∀ {kvs : List (Key × V)} {t : Tab}, TabK K H kvs t → kvs.length = t.length
  | [], [], _ => rfl
  | [], _ :: _, h => h.elim
  | _ :: _, [], h => h.elim
  | p :: kvs, q :: t, h => congrArg (· + 1) (TabK.len h.2.2)
theorem TabK.mono {K : PySem.W.Frag} {H H' : Hp} (f : ∀ v ds, (∀ d ∈ ds, NdA d) → Dp K H v (.tuple ds) → Dp K H' v (.tuple ds)) : ∀ {kvs : List (Key × V)} {t : Tab}, TabN t → TabK K H kvs t → TabK K H' kvs t
  | [], [], _, _ => True.intro
  | [], _ :: _, _, h => h.elim
  | _ :: _, [], _, h => h.elim
  | p :: kvs, q :: t, n, h => ⟨h.1, f _ _ (n q List.mem_cons_self) h.2.1, TabK.mono f (fun x hx => n x (List.mem_cons_of_mem _ hx)) h.2.2⟩
theorem TabK.val {K : PySem.W.Frag} {H : Hp} (n : Int) : ∀ {kvs : List (Key × V)} {t : Tab}, TabK K H kvs t → (valV kvs (Sum.inl n) = none ∧ valT t n = none) ∨ ∃ v ds, valV kvs (Sum.inl n) = some v ∧ valT t n = some ds ∧ Dp K H v (.tuple ds)
  | [], [], _ => .inl ⟨rfl, rfl⟩
  | [], _ :: _, h => h.elim
  | _ :: _, [], h => h.elim
  | p :: kvs, q :: t, h => by
    by_cases e : q.1 = n
    · refine .inr ⟨p.2, q.2, valV_pos (by rw [h.1, e]), ?_, h.2.1⟩
      unfold valT
      rw [List.find?_cons, decide_eq_true e]
      rfl
    · have e1 : ¬ p.1 = Sum.inl n := fun z => e (Sum.inl.inj (h.1.symm.trans z))
      have e2 : valT (q :: t) n = valT t n := by
        unfold valT
        rw [List.find?_cons, decide_eq_false e]
      rw [valV_neg e1, e2]
      exact TabK.val n h.2.2
theorem TabK.snoc {K : PySem.W.Frag} {H : Hp} {n : Int} {v : V} {ds : List PyData} (hd : Dp K H v (.tuple ds)) : ∀ {kvs : List (Key × V)} {t : Tab}, TabK K H kvs t → TabK K H (kvs ++ [(Sum.inl n, v)]) (t ++ [(n, ds)])
  | [], [], _ => ⟨rfl, hd, True.intro⟩
  | [], _ :: _, h => h.elim
  | _ :: _, [], h => h.elim
  | p :: kvs, q :: t, h => ⟨h.1, h.2.1, TabK.snoc hd h.2.2⟩
theorem valT_snoc (t : Tab) (n m : Int) (ds : List PyData) (h : valT t n = none) : valT (t ++ [(n, ds)]) m = if m = n then some ds else valT t m := by
  unfold valT at *
  rw [List.find?_append]
  cases e : t.find? fun p => decide (p.1 = m) with
  | some p =>
    have hm : ¬ m = n := fun z => by rw [z] at e; rw [e] at h; cases h
    rw [if_neg hm]
    rfl
  | none =>
    by_cases hm : m = n
    · rw [if_pos hm, Option.none_or]
      rw [List.find?_cons, decide_eq_true hm.symm]
      rfl
    · rw [if_neg hm, Option.none_or]
      rw [List.find?_cons, decide_eq_false (fun z => hm z.symm)]
      rfl
theorem valT_none {t : Tab} {n : Int} (h : valT t n = none) : ∀ q ∈ t, q.1 ≠ n := by
  intro q hq e
  unfold valT at h
  rw [Option.map_eq_none_iff, List.find?_eq_none] at h
  exact h q hq (decide_eq_true e)
mutual
def noL : PyData → Bool
  | .none => true
  | .bool _ => true
  | .int _ => true
  | .str _ => true
  | .tuple ds => noLA ds
  | .list _ => false
  | .dict _ => false
def noLA : List PyData → Bool
  | [] => true
  | d :: ds => noL d && noLA ds
end
def notTup (H : Hp) (p : Addr) : Prop := (∃ ys, H p = some (.lst ys)) ∨ (∃ kvs, H p = some (.dK kvs)) ∨ ∃ o kvs, H p = some (.frz o (.dK kvs))
theorem sqT_put {K : PySem.W.Frag} {H : Hp} {p b : Addr} {o : HO} {xs : List V} (hp : notTup H p) (h : SqT K H b xs) : SqT K (upd H p o) b xs := by
  rcases h with (h | ⟨q, h⟩) | h
  · exact .inl (.inl (by rw [upd_ne (fun z => by rw [z] at h; rcases hp with ⟨_, hp⟩ | ⟨_, hp⟩ | ⟨_, _, hp⟩ <;> (rw [hp] at h; cases h))]; exact h))
  · exact .inl (.inr ⟨q, by rw [upd_ne (fun z => by rw [z] at h; rcases hp with ⟨_, hp⟩ | ⟨_, hp⟩ | ⟨_, _, hp⟩ <;> (rw [hp] at h; cases h))]; exact h⟩)
  · exact .inr h
section
variable {K : PySem.W.Frag} {H : Hp} {p : Addr} {o : HO}
mutual
theorem dp_put (hp : notTup H p) : ∀ (d : PyData) (v : V), noL d = true → Dp K H v d → Dp K (upd H p o) v d
  | .none, _, _, h => by cases h; exact .non
  | .bool b, _, _, h => by cases h; exact .bl b
  | .int i, _, _, h => by cases h; exact .int i
  | .str x, _, _, h => by cases h; exact .str x
  | .list ds, _, n, h => by simp [noL] at n
  | .tuple ds, _, n, h => by
    cases h with
    | tup g ha => exact .tup (sqT_put hp g) (dp_putAll hp ds _ (by simpa [noL] using n) ha)
  | .dict _, _, n, h => by cases h
theorem dp_putAll (hp : notTup H p) : ∀ (ds : List PyData) (vs : List V), noLA ds = true → DpAll K H vs ds → DpAll K (upd H p o) vs ds
  | [], _, _, h => by cases h; exact .nil
  | d :: ds, _, n, h => by
    rw [noLA, Bool.and_eq_true] at n
    cases h with
    | cons h1 h2 => exact .cons (dp_put hp d _ n.1 h1) (dp_putAll hp ds _ n.2 h2)
end
end
theorem nd_noL {d : PyData} (h : NdA d) : noL d = true := by
  obtain ⟨wd, h⟩ := h
  cases h <;> simp [noL, noLA]
theorem nds_noL : ∀ {ds : List PyData}, (∀ d ∈ ds, NdA d) → noLA ds = true
  | [], _ => by simp [noLA]
  | d :: r, h => by rw [noLA, nd_noL (h d List.mem_cons_self), nds_noL fun e he => h e (List.mem_cons_of_mem _ he)]; rfl
theorem tup_noL {ds : List PyData} (h : ∀ d ∈ ds, NdA d) : noL (.tuple ds) = true := by rw [noL]; exact nds_noL h
theorem tab_put {K : PySem.W.Frag} {H : Hp} {p : Addr} {o : HO} {kvs : List (Key × V)} {t : Tab} (hp : notTup H p) (n : TabN t) (h : TabK K H kvs t) : TabK K (upd H p o) kvs t := TabK.mono (fun v ds hn hd => dp_put hp _ _ (tup_noL hn) hd) n h
theorem tab_same {K : PySem.W.Frag} {H H' : Hp} {kvs : List (Key × V)} {t : Tab} (s : Same H H') (n : TabN t) (h : TabK K H kvs t) : TabK K H' kvs t := TabK.mono (fun v ds _ hd => dp_same s _ _ hd) n h
section
variable {K : PySem.W.Frag} {H H' : Hp}
mutual
theorem dp_map (f : ∀ b xs, SqT K H b xs → SqT K H' b xs) : ∀ (d : PyData) (v : V), noL d = true → Dp K H v d → Dp K H' v d
  | .none, _, _, h => by cases h; exact .non
  | .bool b, _, _, h => by cases h; exact .bl b
  | .int i, _, _, h => by cases h; exact .int i
  | .str x, _, _, h => by cases h; exact .str x
  | .list ds, _, n, h => by simp [noL] at n
  | .tuple ds, _, n, h => by
    cases h with
    | tup g ha => exact .tup (f _ _ g) (dp_mapAll f ds _ (by simpa [noL] using n) ha)
  | .dict _, _, n, h => by cases h
theorem dp_mapAll (f : ∀ b xs, SqT K H b xs → SqT K H' b xs) : ∀ (ds : List PyData) (vs : List V), noLA ds = true → DpAll K H vs ds → DpAll K H' vs ds
  | [], _, _, h => by cases h; exact .nil
  | d :: ds, _, n, h => by
    rw [noLA, Bool.and_eq_true] at n
    cases h with
    | cons h1 h2 => exact .cons (dp_map f d _ n.1 h1) (dp_mapAll f ds _ n.2 h2)
end
theorem sqT_but {p b : Addr} {xs : List V} (hp : notTup H p) (hb : But p H H') (h : SqT K H b xs) : SqT K H' b xs := by
  rcases h with (h | ⟨q, h⟩) | h
  · exact .inl (.inl (hb _ _ (fun z => by rw [z] at h; rcases hp with ⟨_, hp⟩ | ⟨_, hp⟩ | ⟨_, _, hp⟩ <;> (rw [hp] at h; cases h)) h))
  · exact .inl (.inr ⟨q, hb _ _ (fun z => by rw [z] at h; rcases hp with ⟨_, hp⟩ | ⟨_, hp⟩ | ⟨_, _, hp⟩ <;> (rw [hp] at h; cases h)) h⟩)
  · exact .inr h
/-- draws change the stream alone -/
theorem dp_but {s l : Addr} {v : V} {ds : List PyData} (S : Stm H s l) (b : But s H H') (n : ∀ d ∈ ds, NdA d) (h : Dp K H v (.tuple ds)) : Dp K H' v (.tuple ds) := by
  obtain ⟨x, y, m, ns, e, _⟩ := S.ex
  exact dp_map (fun c xs g => sqT_but (.inl ⟨_, e⟩) b g) _ _ (tup_noL n) h
end
theorem TabK.rep {K : PySem.W.Frag} {H : Hp} {n : Int} {v : V} {ds : List PyData} (hd : Dp K H v (.tuple ds)) : ∀ {kvs : List (Key × V)} {t : Tab}, TabK K H kvs t → TabK K H (kvs.map fun kv => if kv.1 = Sum.inl n then (kv.1, v) else kv) (t.map fun q => if q.1 = n then (q.1, ds) else q)
  | [], [], _ => True.intro
  | [], _ :: _, h => h.elim
  | _ :: _, [], h => h.elim
  | p :: kvs, q :: t, h => by
    have i : p.1 = Sum.inl n ↔ q.1 = n := by rw [h.1]; exact ⟨fun z => Sum.inl.inj z, fun z => congrArg _ z⟩
    refine ⟨?_, ?_, TabK.rep hd h.2.2⟩
    · by_cases e : q.1 = n
      · simp only [if_pos e, if_pos (i.mpr e)]; exact h.1
      · simp only [if_neg e, if_neg (fun z => e (i.mp z))]; exact h.1
    · by_cases e : q.1 = n
      · simp only [if_pos e, if_pos (i.mpr e)]; exact hd
      · simp only [if_neg e, if_neg (fun z => e (i.mp z))]; exact h.2.1
theorem TabK.put {K : PySem.W.Frag} {H : Hp} {n : Int} {v : V} {ds : List PyData} (hd : Dp K H v (.tuple ds)) {kvs : List (Key × V)} {t : Tab} (h : TabK K H kvs t) : ∃ t', TabK K H (putK kvs (Sum.inl n) v) t' ∧ (∀ q ∈ t', q ∈ t ∨ q.2 = ds) ∧ t'.length ≤ t.length + 1 := by
  unfold putK
  split
  · refine ⟨_, TabK.rep hd h, fun q hq => ?_, by rw [List.length_map]; exact Nat.le_succ _⟩
    obtain ⟨q', h1, h2⟩ := List.mem_map.mp hq
    split at h2
    · right; rw [← h2]
    · left; rw [← h2]; exact h1
  · refine ⟨_, TabK.snoc hd h, fun q hq => ?_, by rw [List.length_append]; exact Nat.le_refl _⟩
    rcases List.mem_append.mp hq with z | z
    · exact .inl z
    · right; rw [List.mem_singleton.mp z]
theorem TabK.at_ {K : PySem.W.Frag} {H : Hp} : ∀ {kvs : List (Key × V)} {t : Tab} {i : Nat} {k : Key} {v : V}, TabK K H kvs t → kvs[i]? = some (k, v) → ∃ q, q ∈ t ∧ k = Sum.inl q.1
  | [], [], i, k, v, _, h => by simp at h
  | [], _ :: _, _, _, _, h, _ => h.elim
  | _ :: _, [], _, _, _, h, _ => h.elim
  | p :: kvs, q :: t, 0, k, v, h, e => by
    rw [List.getElem?_cons_zero] at e
    cases e
    exact ⟨q, List.mem_cons_self, h.1⟩
  | p :: kvs, q :: t, i + 1, k, v, h, e => by
    rw [List.getElem?_cons_succ] at e
    obtain ⟨q', h1, h2⟩ := TabK.at_ h.2.2 e
    exact ⟨q', List.mem_cons_of_mem _ h1, h2⟩
theorem valT_of {t : Tab} {q : Int × List PyData} (h : q ∈ t) : ∃ ds, valT t q.1 = some ds := by
  cases e : valT t q.1 with
  | some ds => exact ⟨ds, rfl⟩
  | none => exact absurd rfl (valT_none e q h)
theorem putK_old {kvs : List (Key × V)} {k : Key} {v w : V} (h : valV kvs k = some w) : putK kvs k v = kvs.map fun kv => if kv.1 = k then (kv.1, v) else kv := by
  unfold putK
  rw [if_pos (by rw [valV_any, h]; rfl)]
theorem valT_mem {t : Tab} {n : Int} {ds : List PyData} (h : valT t n = some ds) : ∃ q ∈ t, q.2 = ds := by
  unfold valT at h
  cases e : t.find? fun p => decide (p.1 = n) with
  | none => rw [e] at h; cases h
  | some p =>
    rw [e] at h
    exact ⟨p, List.mem_of_find?_eq_some e, Option.some.inj h⟩
/-- a dict comprehension over what is walked -/
theorem dc_it {J : It} {n : Nat} {G : Hp → Prop} {Y : Nat → Hp → V → Hp → Prop} (wk : Walk J n G Y) {g : TG} {tt : TT} {tk tv : TE} {vs : List Nat} {σ : L2.St} {H1 : Hp} {D : Addr} {Qd : Hp → Prop} (Pv : Nat → Hp → Prop) (p0 : Pv 0 (upd H1 D (.dK []))) (pG : ∀ i H, i ≤ n → Pv i H → G H)
    (turn : ∀ i x H H', i < n → Pv i H → Y i H x H' → g x (wipe σ vs) H' fun σ2 H2 => wipe σ2 vs = wipe σ vs ∧ tt σ2 H2 fun b H3 =>
      if b = true then tk σ2 H3 fun y H4 => tv σ2 H4 fun z H5 => ∃ kvs k, y = kV k ∧ H5 D = some (.dK kvs) ∧ kvs.length < sizeLine ∧ Pv (i + 1) (upd H5 D (.dK (putK kvs k z))) else Pv (i + 1) H3) (pd : ∀ H, Pv n H → Qd H) :
    ∃ W : Nat → Nat → Hp → Prop, (∃ m, W 0 m (upd H1 D (.dK []))) ∧ ∀ i m H, W i m H →
      (J.stop i H ∧ Qd H) ∨ (J.go i H ∧ ∃ Nx : Hp → Prop, (∀ H', Nx H' → ∃ m', m' < m ∧ W (i + 1) m' H') ∧ ∀ x H', J.yld i H x H' → g x (wipe σ vs) H' fun σ2 H2 => wipe σ2 vs = wipe σ vs ∧ tt σ2 H2 fun b H3 =>
        if b = true then tk σ2 H3 fun y H4 => tv σ2 H4 fun z H5 => ∃ kvs k, y = kV k ∧ H5 D = some (.dK kvs) ∧ kvs.length < sizeLine ∧ Nx (upd H5 D (.dK (putK kvs k z))) else Nx H3) := by
  refine ⟨fun i m H => m = n - i ∧ i ≤ n ∧ Pv i H, ⟨n, by simp, Nat.zero_le _, p0⟩, ?_⟩
  rintro i m H ⟨rfl, hi, hp⟩
  have hg := pG i H hi hp
  rcases Nat.lt_or_ge i n with hlt | hge
  · exact .inr ⟨wk.goes i H hlt hg, Pv (i + 1), fun σ' p' => ⟨n - (i + 1), by omega, rfl, hlt, p'⟩, fun x H' y => turn i x H H' hlt hp (wk.yields i H x H' hlt hg y)⟩
  · obtain rfl : i = n := by omega
    exact .inl ⟨wk.stops H hg, pd H hp⟩
theorem TabK.get {K : PySem.W.Frag} {H : Hp} : ∀ {kvs : List (Key × V)} {t : Tab} {i : Nat} {kv : Key × V}, TabK K H kvs t → kvs[i]? = some kv → ∃ q, t[i]? = some q ∧ kv.1 = Sum.inl q.1 ∧ Dp K H kv.2 (.tuple q.2)
  | [], [], i, kv, _, h => by simp at h
  | [], _ :: _, _, _, h, _ => h.elim
  | _ :: _, [], _, _, h, _ => h.elim
  | p :: kvs, q :: t, 0, kv, h, e => by
    rw [List.getElem?_cons_zero] at e
    cases e
    exact ⟨q, rfl, h.1, h.2.1⟩
  | p :: kvs, q :: t, i + 1, kv, h, e => by
    rw [List.getElem?_cons_succ] at e
    obtain ⟨q', h1, h2⟩ := TabK.get h.2.2 e
    exact ⟨q', by rw [List.getElem?_cons_succ]; exact h1, h2⟩
theorem valT_notin {t : Tab} {n : Int} (h : n ∉ t.map (·.1)) : valT t n = none := by
  unfold valT
  rw [Option.map_eq_none_iff, List.find?_eq_none]
  exact fun q hq e => h (List.mem_map.mpr ⟨q, hq, of_decide_eq_true e⟩)
theorem TabK.none {K : PySem.W.Frag} {H : Hp} {kvs : List (Key × V)} {t : Tab} {n : Int} (T : TabK K H kvs t) (h : n ∉ t.map (·.1)) : valV kvs (Sum.inl n) = Option.none := by
  rcases TabK.val n T with ⟨w, _⟩ | ⟨v, ds, _, w, _⟩
  · exact w
  · rw [valT_notin h] at w; cases w
theorem TabK.some {K : PySem.W.Frag} {H : Hp} {kvs : List (Key × V)} {t : Tab} {n : Int} (T : TabK K H kvs t) (h : n ∈ t.map (·.1)) : (valV kvs (Sum.inl n)).isSome = true := by
  obtain ⟨q, hq, rfl⟩ := List.mem_map.mp h
  rcases TabK.val q.1 T with ⟨_, w⟩ | ⟨v, ds, w, _, _⟩
  · exact absurd rfl (valT_none w q hq)
  · rw [w]; rfl
/-- a key that is new goes to the end -/
theorem TabK.add {K : PySem.W.Frag} {H : Hp} {kvs : List (Key × V)} {t : Tab} {n : Int} {v : V} {ds : List PyData} (T : TabK K H kvs t) (h : n ∉ t.map (·.1)) (hd : Dp K H v (.tuple ds)) : TabK K H (putK kvs (Sum.inl n) v) (t ++ [(n, ds)]) := by
  rw [putK_new _ (T.none h)]
  exact TabK.snoc hd T
/-- the i-th key is none of those before -/
theorem nodup_new {t : Tab} {i : Nat} {q : Int × List PyData} (h : (t.map (·.1)).Nodup) (hq : t[i]? = some q) : q.1 ∉ (t.take i).map (·.1) := by
  intro hm
  obtain ⟨x, hx, e⟩ := List.mem_map.mp hm
  obtain ⟨j, hj⟩ := List.getElem?_of_mem hx
  have hji : j < i := by
    have := (List.getElem?_eq_some_iff.mp hj).1
    rw [List.length_take] at this
    omega
  rw [List.getElem?_take_of_lt hji] at hj
  have a1 : (t.map (·.1))[j]? = some q.1 := by rw [List.getElem?_map, hj, ← e]; rfl
  have a2 : (t.map (·.1))[i]? = some q.1 := by rw [List.getElem?_map, hq]; rfl
  have b1 := (List.getElem?_eq_some_iff.mp a1).1
  have := (List.getElem?_inj b1 h).mp (a1.trans a2.symm)
  omega
/-! ### substitutions -/
def varN (n : Int) : List PyData := [.tuple [.str "v", .int n]]
def appN (t : Tab) (d : PyData) : List PyData := if isVarN d = true then (match valT t (numN d) with | some w => w | none => [d]) else [d]
def appM (t : Tab) (ds : List PyData) : List PyData := ds.flatMap (appN t)
/-- a value that is the key itself falls out -/
def keepN (n : Int) (w : List PyData) : Option (List PyData) := if PyData.eqv (.tuple w) (.tuple (varN n)) = true then none else some w
def compV (t u : Tab) (n : Int) : Option (List PyData) :=
  match valT t n with
  | some w => keepN n (appM u w)
  | none => (match valT u n with | some w => keepN n w | none => none)
theorem var_form {d : PyData} (h : NdA d) (v : isVarN d = true) : ∃ n, d = .tuple [.str "v", .int n] := by
  obtain ⟨wd, nd⟩ := h
  cases nd with
  | v n _ _ => exact ⟨n, rfl⟩
  | i n _ _ => cases v
  | f x n _ _ _ => cases v
theorem var_nd {n : Int} (h : 0 ≤ n) : ∀ d ∈ varN n, NdA d := fun d hd => ⟨n + 1, by rw [List.mem_singleton.mp hd]; exact .v n h (by omega)⟩
theorem valT_nd {t : Tab} {n : Int} {w : List PyData} (ht : TabN t) (h : valT t n = some w) : ∀ d ∈ w, NdA d := by
  obtain ⟨q, hq, e⟩ := valT_mem h
  rw [← e]
  exact ht q hq
theorem appN_nd {t : Tab} (ht : TabN t) {d : PyData} (hd : NdA d) : ∀ e ∈ appN t d, NdA e := by
  unfold appN
  by_cases v : isVarN d = true
  · rw [if_pos v]
    cases e : valT t (numN d) with
    | some w => exact valT_nd ht e
    | none => exact fun e he => by rw [List.mem_singleton.mp he]; exact hd
  · rw [if_neg v]
    exact fun e he => by rw [List.mem_singleton.mp he]; exact hd
theorem appM_nd {t : Tab} (ht : TabN t) {ds : List PyData} (hd : ∀ d ∈ ds, NdA d) : ∀ e ∈ appM t ds, NdA e := fun e he => by
  obtain ⟨d, h1, h2⟩ := List.mem_flatMap.mp he
  exact appN_nd ht (hd d h1) e h2
theorem var_num {d : PyData} (h : NdA d) (v : isVarN d = true) : ∃ n, 0 ≤ n ∧ d = .tuple [.str "v", .int n] := by
  obtain ⟨wd, nd⟩ := h
  cases nd with
  | v n h1 _ => exact ⟨n, h1, rfl⟩
  | i n _ _ => cases v
  | f x n _ _ _ => cases v
theorem comp_app {t u c : Tab} (nt : TabN t) (nu : TabN u) (hc : ∀ n, valT c n = compV t u n) {ds : List PyData} (nd : ∀ d ∈ ds, NdA d) : appM c ds = appM u (appM t ds) := by
  unfold appM
  rw [List.flatMap_assoc]
  have h : ∀ d ∈ ds, appN c d = (appN t d).flatMap (appN u) := by
    intro d hd
    by_cases v : isVarN d = true
    · obtain ⟨n, n0, rfl⟩ := var_num (nd d hd) v
      have e1 : ∀ s : Tab, appN s (.tuple [.str "v", .int n]) = (match valT s n with | some w => w | none => varN n) := fun s => by
        unfold appN
        rw [if_pos v]
        rfl
      rw [e1, e1, hc n]
      unfold compV
      cases ht : valT t n with
      | some w =>
        simp only
        unfold keepN
        by_cases hk : PyData.eqv (.tuple (appM u w)) (.tuple (varN n)) = true
        · rw [if_pos hk]
          exact (tup_eq (appM_nd nu (valT_nd nt ht)) (var_nd n0) hk).symm
        · rw [if_neg hk]
          rfl
      | none =>
        simp only
        have e2 : (varN n).flatMap (appN u) = (match valT u n with | some w => w | none => varN n) := by
          unfold varN
          rw [List.flatMap_cons, List.flatMap_nil, List.append_nil]
          exact e1 u
        rw [e2]
        cases hu : valT u n with
        | some w =>
          simp only
          unfold keepN
          by_cases hk : PyData.eqv (.tuple w) (.tuple (varN n)) = true
          · rw [if_pos hk]
            exact (tup_eq (valT_nd nu hu) (var_nd n0) hk).symm
          · rw [if_neg hk]
        | none => rfl
    · have e3 : ∀ s : Tab, appN s d = [d] := fun s => if_neg v
      rw [e3, e3, List.flatMap_cons, List.flatMap_nil, List.append_nil, e3]
  clear hc
  induction ds with
  | nil => rfl
  | cons d r ih =>
    rw [List.flatMap_cons, List.flatMap_cons, h d List.mem_cons_self, ih (fun x hx => nd x (List.mem_cons_of_mem _ hx)) fun x hx => h x (List.mem_cons_of_mem _ hx)]
theorem appM_take {t : Tab} {ds : List PyData} {i : Nat} {d : PyData} (h : ds[i]? = some d) : appM t (ds.take (i + 1)) = appM t (ds.take i) ++ appN t d := by
  unfold appM
  rw [List.take_add_one, h, List.flatMap_append]
  show _ ++ (appN t d ++ []) = _
  rw [List.append_nil]
theorem appN_non {t : Tab} {d : PyData} (v : ¬ isVarN d = true) : appN t d = [d] := if_neg v
theorem appN_out {t : Tab} {n : Int} (h : valT t n = none) : appN t (.tuple [.str "v", .int n]) = [.tuple [.str "v", .int n]] := by
  unfold appN
  rw [if_pos (show isVarN (.tuple [.str "v", .int n]) = true from rfl), show numN (.tuple [.str "v", .int n]) = n from rfl, h]
theorem appN_in {t : Tab} {n : Int} {w : List PyData} (h : valT t n = some w) : appN t (.tuple [.str "v", .int n]) = w := by
  unfold appN
  rw [if_pos (show isVarN (.tuple [.str "v", .int n]) = true from rfl), show numN (.tuple [.str "v", .int n]) = n from rfl, h]
/-- the composed table: the first one's values with the second applied, then what the second adds, without a key that is its own value -/
def comp1 (t u : Tab) : Tab := t.map fun x => (x.1, appM u x.2)
def newK (t : Tab) (x : Int × List PyData) : Bool := !(decide (x.1 ∈ t.map (·.1)))
def notOwn (x : Int × List PyData) : Bool := !PyData.eqv (.tuple x.2) (.tuple (varN x.1))
def compT (t u : Tab) : Tab := (comp1 t u ++ u.filter (newK t)).filter notOwn
theorem comp1_keys (t u : Tab) : (comp1 t u).map (·.1) = t.map (·.1) := by unfold comp1; rw [List.map_map]; rfl
theorem comp1_nd {t u : Tab} (ht : TabN t) (hu : TabN u) : TabN (comp1 t u) := fun x hx => by
  obtain ⟨q, h1, rfl⟩ := List.mem_map.mp hx
  exact appM_nd hu (ht q h1)
/-! ### walks, ints, picks -/
theorem walk_gen {J : It} {n : Nat} {G : Hp → Prop} {Y : Nat → Hp → V → Hp → Prop} (wk : Walk J n G Y) {B : V → Hp → (Hp → Prop) → Prop} {H0 : Hp} {Qd : Hp → Prop} (Pv : Nat → Hp → Prop) (p0 : Pv 0 H0) (pG : ∀ i H, i ≤ n → Pv i H → G H)
    (turn : ∀ i x H H', i < n → Pv i H → Y i H x H' → B x H' (Pv (i + 1))) (pd : ∀ H, Pv n H → Qd H) :
    ∃ W : Nat → Nat → Hp → Prop, (∃ m, W 0 m H0) ∧ ∀ i m H, W i m H → (J.stop i H ∧ Qd H) ∨ (J.go i H ∧ ∃ Nx : Hp → Prop, (∀ H', Nx H' → ∃ m', m' < m ∧ W (i + 1) m' H') ∧ ∀ x H', J.yld i H x H' → B x H' Nx) := by
  refine ⟨fun i m H => m = n - i ∧ i ≤ n ∧ Pv i H, ⟨n, by simp, Nat.zero_le _, p0⟩, ?_⟩
  rintro i m H ⟨rfl, hi, hp⟩
  have hg := pG i H hi hp
  rcases Nat.lt_or_ge i n with hlt | hge
  · exact .inr ⟨wk.goes i H hlt hg, Pv (i + 1), fun σ' p' => ⟨n - (i + 1), by omega, rfl, hlt, p'⟩, fun x H' y => turn i x H H' hlt hp (wk.yields i H x H' hlt hg y)⟩
  · obtain rfl : i = n := by omega
    exact .inl ⟨wk.stops H hg, pd H hp⟩
theorem ints_lay : ∀ (ns : List Int), PyData.canLayAll0 (ns.map PyData.int) = true ∧ PyData.depthAll (ns.map PyData.int) = 0 ∧ PyData.eqvAll (ns.map PyData.int) (ns.map PyData.int) = true
  | [] => ⟨by simp [PyData.canLayAll0], by simp [PyData.depthAll], by simp [PyData.eqvAll]⟩
  | n :: ns => by
    obtain ⟨a, b, c⟩ := ints_lay ns
    rw [List.map_cons]
    refine ⟨by simp only [PyData.canLayAll0, PyData.canLay0, a, Bool.and_self], ?_, by simp only [PyData.eqvAll, PyData.eqv, c, beq_self_eq_true, Bool.and_self]⟩
    simp only [PyData.depthAll, PyData.depth, b]
    rfl
theorem ints_shaped (ns : List Int) : SeqAt.shaped (.list (ns.map PyData.int)) = true := by
  obtain ⟨a, b, _⟩ := ints_lay ns
  have hd : (PyData.list (ns.map PyData.int)).depth ≤ 64 := by simp only [PyData.depth, b]; decide
  have hc : (PyData.list (ns.map PyData.int)).canLay0 = true := by simp only [PyData.canLay0]; exact a
  show ((PyData.list (ns.map PyData.int)).canLay0 && decide ((PyData.list (ns.map PyData.int)).depth ≤ 64)) = true
  rw [hc, decide_eq_true hd]
  rfl
theorem ints_eqv (ns : List Int) : PyData.eqv (.list (ns.map PyData.int)) (.list (ns.map PyData.int)) = true := by
  simp only [PyData.eqv]
  exact (ints_lay ns).2.2
theorem dp_ints {K : PySem.W.Frag} {H : Hp} : ∀ ns : List Int, DpAll K H (ns.map V.int) (ns.map PyData.int)
  | [] => .nil
  | n :: r => .cons (.int n) (dp_ints r)
theorem lit_pick {K : PySem.W.Frag} {G : Addr → Prop} {H : Hp} {xs : List V} {names : List Str} {r : Int} (a : ImAll K G H xs (names.map PyData.str)) (r0 : 0 ≤ r) (r1 : r < (names.length : Int)) : ∃ x, x ∈ names ∧ atI xs r = some (.str x) := by
  have hr : r.toNat < names.length := by omega
  have hd : (names.map PyData.str)[r.toNat]? = some (.str names[r.toNat]) := by
    rw [List.getElem?_map, List.getElem?_eq_getElem hr]
    rfl
  obtain ⟨v, hv, iv⟩ := ImAll.get a hd
  cases iv
  exact ⟨_, List.getElem_mem hr, at_of (j := r.toNat) (by omega) hv⟩
theorem ixN_nat {n j : Nat} (h : j < n) : ixN n (j : Int) = some j := by
  unfold ixN
  rw [if_pos (by omega), if_pos (by omega), Int.toNat_natCast]
theorem dp_snoc {K : PySem.W.Frag} {H : Hp} : ∀ {B : List V} {v : V} {es : List PyData}, DpAll K H (B ++ [v]) es → ∃ E e, es = E ++ [e] ∧ DpAll K H B E ∧ Dp K H v e
  | [], v, _, h => by
    cases h with
    | cons h1 h2 =>
      cases h2
      exact ⟨[], _, rfl, .nil, h1⟩
  | b :: B, v, _, h => by
    cases h with
    | cons h1 h2 =>
      obtain ⟨E, e, rfl, a, c⟩ := dp_snoc h2
      exact ⟨_ :: E, e, rfl, .cons h1 a, c⟩
theorem int_pick {K : PySem.W.Frag} {G : Addr → Prop} {H : Hp} {xs : List V} {is : List Int} {r : Int} (a : ImAll K G H xs (is.map PyData.int)) (r0 : 0 ≤ r) (r1 : r < (is.length : Int)) : ∃ x, x ∈ is ∧ atI xs r = some (.int x) := by
  have hr : r.toNat < is.length := by omega
  have hd : (is.map PyData.int)[r.toNat]? = some (.int is[r.toNat]) := by
    rw [List.getElem?_map, List.getElem?_eq_getElem hr]
    rfl
  obtain ⟨v, hv, iv⟩ := ImAll.get a hd
  cases iv
  exact ⟨_, List.getElem_mem hr, at_of (j := r.toNat) (by omega) hv⟩
/-! ### small things that many proofs want -/
theorem dp_tup {K : PySem.W.Frag} {H : Hp} {v : V} {ds : List PyData} (h : Dp K H v (.tuple ds)) : ∃ a xs, v = .ref a ∧ SqT K H a xs ∧ DpAll K H xs ds := by
  cases h with
  | tup s a => exact ⟨_, _, rfl, s, a⟩
theorem dp_lst {K : PySem.W.Frag} {H : Hp} {v : V} {ds : List PyData} (h : Dp K H v (.list ds)) : ∃ a xs, v = .ref a ∧ SqL K H a xs ∧ DpAll K H xs ds := by
  cases h with
  | lst s a => exact ⟨_, _, rfl, s, a⟩
theorem keep_frz {H H' : Hp} {p : Addr} {k : List (Key × V)} (hp : H p = some (.dK k)) {o : HO} (s : Same (upd H p o) H') : Same H (upd H' p (.dK k)) := fun b o e => by
  by_cases z : b = p
  · subst z
    rw [hp] at e
    rw [upd_same]
    exact e
  · rw [upd_ne z]
    exact s b o (by rw [upd_ne z]; exact e)
theorem same_sqL {K : PySem.W.Frag} {H H' : Hp} {a : Addr} {xs : List V} (e : Same H H') (h : SqL K H a xs) : SqL K H' a xs := e.seq h
/-- a new object does not spoil what stood before the call -/
theorem same_new {H H' : Hp} {p : Addr} {o : HO} (np : H p = Option.none) (s : Same H H') : Same H (upd H' p o) := fun b u e => by rw [upd_ne (ne_of_none e np)]; exact s b u e
theorem noLA_of : ∀ {ds : List PyData}, (∀ d ∈ ds, noL d = true) → noLA ds = true
  | [], _ => by simp [noLA]
  | d :: r, h => by rw [noLA, h d (.head _), noLA_of fun e he => h e (.tail _ he)]; rfl
theorem isi_of {K : PySem.W.Frag} {H : Hp} {x : V} {t u : String} {b : Bool} {Q : VK} (h : TyX K H x (.type t)) (k : kitB t u = some b) (q : Q (.bl b) H) : rIsi K [x, .ty u] H Q := ⟨x, .ty u, _, _, _, rfl, .ty _, h, kit_ty k, q⟩
theorem kit_tt : kitB "tuple" "tuple" = some true := by decide +kernel
theorem kit_dd : kitB "dict" "dict" = some true := by decide +kernel
theorem kit_ll : kitB "list" "list" = some true := by decide +kernel
theorem kit_ib : kitB "int" "bool" = some false := by decide +kernel
theorem cat_dpA {K : PySem.W.Frag} {H : Hp} {x y : V} {ds es : List PyData} {Q : VK} (hx : Dp K H x (.tuple ds)) (hy : Dp K H y (.tuple es)) (hz : ds.length + es.length ≤ 1000) (h : ∀ v H', Same H H' → Dp K H' v (.tuple (ds ++ es)) → Q v H') : rCatA K x y H Q := by
  have hx0 := hx
  have hy0 := hy
  cases hx with
  | @tup a xs _ sx ax =>
  cases hy with
  | @tup b ys _ sy ay =>
  have lx := DpAll.len ax
  have ly := DpAll.len ay
  refine ⟨a, b, xs, ys, rfl, rfl, sx, sy, small_of (by omega), fun z => ?_, fun z => ?_, fun p np => ?_⟩
  · subst z
    cases ax
    exact h _ H (Same.refl H) hy0
  · subst z
    cases ay
    rw [List.append_nil] at h
    exact h _ H (Same.refl H) hx0
  · exact h _ _ (same_upd np) (.tup (SqT.of upd_same) (dp_sameAll (same_upd np) _ _ (DpAll.app ax ay)))
/-! ### terms nested -/
inductive NT
  | i (z : Int)
  | v (n : Int)
  | s (x : Str) (as : List NT)
mutual
def nD : NT → PyData
  | .i z => .int z
  | .v n => .tuple [.str "v", .int n]
  | .s x as => .tuple [.str "s", .str x, .tuple (nDs as)]
def nDs : List NT → List PyData
  | [] => []
  | t :: r => nD t :: nDs r
end
mutual
def fl : NT → List PyData
  | .i z => [.int z]
  | .v n => [.tuple [.str "v", .int n]]
  | .s x as => .tuple [.str "f", .str x, .int (as.length : Int)] :: fls as
def fls : List NT → List PyData
  | [] => []
  | t :: r => fl t ++ fls r
end
theorem nDs_map (as : List NT) : nDs as = as.map nD := by
  induction as with
  | nil => simp [nDs]
  | cons a as ih => rw [nDs, ih]; rfl
theorem fls_map (as : List NT) : fls as = as.flatMap fl := by
  induction as with
  | nil => simp [fls]
  | cons a as ih => rw [fls, ih]; rfl
theorem fls_app (as bs : List NT) : fls (as ++ bs) = fls as ++ fls bs := by rw [fls_map, fls_map, fls_map, List.flatMap_append]
theorem nst_ex : ∀ (ds : List PyData) (k : Nat), Cls k ds → (∀ d ∈ ds, NdA d) → ∃ ts : List NT, ts.length = k ∧ fls ts = ds
  | [], k, h, _ => ⟨[], (show k = 0 from h).symm, by rw [fls]⟩
  | d :: r, k, h, nd => by
    obtain ⟨hk, hc⟩ := h
    obtain ⟨ts, l, e⟩ := nst_ex r _ hc fun x hx => nd x (.tail _ hx)
    obtain ⟨wd, n⟩ := nd d (.head _)
    cases n with
    | v n a b =>
      have l' : ts.length = k - 1 + 0 := l
      exact ⟨.v n :: ts, by rw [List.length_cons]; omega, by rw [fls, fl, e]; rfl⟩
    | i n a b =>
      have l' : ts.length = k - 1 + 0 := l
      exact ⟨.i n :: ts, by rw [List.length_cons]; omega, by rw [fls, fl, e]; rfl⟩
    | f x n a b c =>
      have l' : ts.length = k - 1 + n.toNat := l
      refine ⟨.s x (ts.take n.toNat) :: ts.drop n.toNat, by rw [List.length_cons, List.length_drop]; omega, ?_⟩
      have hl : ((ts.take n.toNat).length : Int) = n := by rw [List.length_take]; omega
      rw [fls, fl, hl, List.cons_append, ← fls_app, List.take_append_drop, e]
theorem nst_one {ds : List PyData} (h : Cls 1 ds) (nd : ∀ d ∈ ds, NdA d) : ∃ t, fl t = ds := by
  obtain ⟨ts, l, e⟩ := nst_ex ds 1 h nd
  match ts, l with
  | [t], _ => exact ⟨t, by rw [← e, fls, fls, List.append_nil]⟩
theorem fl_ne (t : NT) : fl t ≠ [] := by cases t <;> simp [fl]
theorem fl_pos (t : NT) : 0 < (fl t).length := List.length_pos_iff.mpr (fl_ne t)
/-- of depth k at most, with names and numbers that are so -/
inductive DL : Nat → NT → Prop
  | i (k : Nat) (z : Int) : DL k (.i z)
  | v (k : Nat) (n : Int) : DL k (.v n)
  | n (k : Nat) (x : Str) : okName x = true → DL k (.s x [])
  | s (k : Nat) (x : Str) (as : List NT) : okName x = true → as.length ≤ 8 → (∀ a ∈ as, DL k a) → DL (k + 1) (.s x as)
theorem fl_mem {a : NT} {as : List NT} (h : a ∈ as) : fl a <:+: fls as := by
  obtain ⟨p, q, rfl⟩ := List.append_of_mem h
  exact ⟨fls p, fls q, by rw [fls_app, fls, List.append_assoc]⟩
theorem dl_nil (k : Nat) {x : Str} (h : okName x = true) : DL k (.s x []) := .n k x h
theorem dl_of : ∀ (k : Nat) (t : NT), (fl t).length ≤ k + 1 → (∀ d ∈ fl t, NdA d) → DL k t
  | k, .i z, _, _ => .i k z
  | k, .v n, _, _ => .v k n
  | 0, .s x as, h, nd => by
    rw [fl] at h nd
    obtain ⟨wd, n0⟩ := nd _ (.head _)
    cases n0 with
    | f _ _ a b c =>
      have e : fls as = [] := List.eq_nil_of_length_eq_zero (by rw [List.length_cons] at h; omega)
      obtain rfl : as = [] := by
        cases as with
        | nil => rfl
        | cons y r =>
          rw [fls] at e
          exact absurd (List.append_eq_nil_iff.mp e).1 (fl_ne y)
      exact dl_nil 0 a
  | k + 1, .s x as, h, nd => by
    rw [fl] at h nd
    obtain ⟨wd, n0⟩ := nd _ (.head _)
    cases n0 with
    | f _ _ a b c =>
      refine .s k x as a (by omega) fun y hy => ?_
      have inf := fl_mem hy
      have hl := inf.length_le
      rw [List.length_cons] at h
      exact dl_of k y (by omega) fun d hd => nd d (.tail _ (inf.subset hd))
theorem DL.mono {k m : Nat} {t : NT} (h : DL k t) (e : k ≤ m) : DL m t := by
  induction h generalizing m with
  | i k z => exact .i m z
  | v k n => exact .v m n
  | n k x a => exact .n m x a
  | s k x as a b _ ih =>
    obtain ⟨j, rfl⟩ : ∃ j, m = j + 1 := ⟨m - 1, by omega⟩
    exact .s j x as a b fun y hy => ih y hy (by omega)
/-- the variables within -/
inductive Oc (T : Int → Option NT) (n : Int) : NT → Prop
  | here : Oc T n (.v n)
  | bnd {m : Int} {t : NT} : T m = some t → Oc T n t → Oc T n (.v m)
  | arg {x : Str} {as : List NT} {a : NT} : a ∈ as → Oc T n a → Oc T n (.s x as)
def noT : Int → Option NT := fun _ => none
/-- n stands in t -/
def vIn (n : Int) (t : NT) : Prop := Oc noT n t
theorem vIn_v {n m : Int} : vIn n (.v m) ↔ n = m := by
  refine ⟨fun h => ?_, fun h => ?_⟩
  · cases h with
    | here => rfl
    | bnd e _ => cases e
  · subst h
    exact .here
theorem vIn_s {n : Int} {x : Str} {as : List NT} : vIn n (.s x as) ↔ ∃ a ∈ as, vIn n a := by
  refine ⟨fun h => ?_, fun ⟨a, h1, h2⟩ => .arg h1 h2⟩
  cases h with
  | arg h1 h2 => exact ⟨_, h1, h2⟩
theorem vIn_i {n z : Int} : ¬ vIn n (.i z) := fun h => by cases h
theorem oc_sub {T : Int → Option NT} {n m : Int} {t : NT} (h : Oc T n (.v m)) (v : vIn m t) : Oc T n t := by
  unfold vIn at v
  induction v with
  | here => exact h
  | bnd e _ _ => cases e
  | arg hm _ ih => exact .arg hm ih
/-- the table has no circle -/
def Rk (ρ : Int → Nat) (T : Int → Option NT) : Prop := ∀ n t, T n = some t → ∀ m, vIn m t → ρ m < ρ n
def setT (T : Int → Option NT) (n : Int) (t : NT) : Int → Option NT := fun m => if m = n then some t else T m
/-- all variables of what is in use stand in the list; depths -/
structure GT (U : List Int) (D : Nat) (t : NT) : Prop where
  dl : DL D t
  vs : ∀ m, vIn m t → m ∈ U
theorem GT.arg {U : List Int} {D : Nat} {x : Str} {as : List NT} {a : NT} (h : GT U D (.s x as)) (m : a ∈ as) : GT U D a := by
  refine ⟨?_, fun n hn => h.vs n (vIn_s.mpr ⟨a, m, hn⟩)⟩
  cases h.dl with
  | n k _ _ => cases m
  | s k _ _ _ _ g => exact (g a m).mono (Nat.le_succ k)
theorem GT.arg1 {U : List Int} {D : Nat} {x : Str} {as : List NT} {a : NT} (h : GT U (D + 1) (.s x as)) (m : a ∈ as) : GT U D a := by
  refine ⟨?_, fun n hn => h.vs n (vIn_s.mpr ⟨a, m, hn⟩)⟩
  cases h.dl with
  | n k _ _ => cases m
  | s k _ _ _ _ g => exact g a m
theorem rk_set {ρ : Int → Nat} {T : Int → Option NT} {n : Int} {t : NT} {U : List Int} (h : Rk ρ T) (hn : T n = none) (ho : ¬ Oc T n t) (hv : ∀ m, vIn m t → m ∈ U) : ∃ ρ', Rk ρ' (setT T n t) := by
  classical
  refine ⟨fun m => if Oc T n (.v m) then ρ m + ((U.map ρ).sum + 1) else ρ m, fun m u hm q hq => ?_⟩
  have big : ∀ q ∈ U, ρ q ≤ (U.map ρ).sum := fun q hq => by
    clear hv
    induction U with
    | nil => cases hq
    | cons a U ih =>
      rw [List.map_cons, List.sum_cons]
      rcases List.mem_cons.mp hq with rfl | z
      · omega
      · have := ih z
        omega
  unfold setT at hm
  by_cases e : m = n
  · subst e
    rw [if_pos rfl] at hm
    cases hm
    have h1 : ¬ Oc T m (.v q) := fun z => ho (oc_sub z hq)
    have h2 : Oc T m (.v m) := .here
    have h3 := big q (hv q hq)
    show (if Oc T m (.v q) then _ else _) < (if Oc T m (.v m) then _ else _)
    rw [if_neg h1, if_pos h2]
    omega
  · rw [if_neg e] at hm
    have h1 := h m u hm q hq
    show (if Oc T n (.v q) then _ else _) < (if Oc T n (.v m) then _ else _)
    by_cases z : Oc T n (.v q)
    · have z2 : Oc T n (.v m) := .bnd hm (oc_sub z hq)
      rw [if_pos z, if_pos z2]
      omega
    · rw [if_neg z]
      split <;> omega
/-- a bound of the walks and of the depth -/
inductive HL (T : Int → Option NT) : Nat → NT → Prop
  | i (k : Nat) (z : Int) : HL T k (.i z)
  | u {k : Nat} {n : Int} : T n = none → HL T k (.v n)
  | b {k : Nat} {n : Int} {t : NT} : T n = some t → HL T k t → HL T (k + 1) (.v n)
  | n (k : Nat) (x : Str) : HL T k (.s x [])
  | s {k : Nat} {x : Str} {as : List NT} : (∀ a ∈ as, HL T k a) → HL T (k + 1) (.s x as)
theorem HL.mono {T : Int → Option NT} {k m : Nat} {t : NT} (h : HL T k t) (e : k ≤ m) : HL T m t := by
  induction h generalizing m with
  | i k z => exact .i m z
  | u h => exact .u h
  | n k x => exact .n m x
  | b h _ ih =>
    obtain ⟨j, rfl⟩ : ∃ j, m = j + 1 := ⟨m - 1, by omega⟩
    exact .b h (ih (by omega))
  | s _ ih =>
    obtain ⟨j, rfl⟩ : ∃ j, m = j + 1 := ⟨m - 1, by omega⟩
    exact .s fun a ha => ih a ha (by omega)
theorem hl_leaf {T : Int → Option NT} {B d : Nat} {t : NT} (h : DL d t) (hv : ∀ n, vIn n t → HL T B (.v n)) : HL T (B + d) t := by
  induction h with
  | i k z => exact .i _ z
  | n k x _ => exact .n _ x
  | v k n => exact (hv n (vIn_v.mpr rfl)).mono (by omega)
  | s k x as _ _ _ ih => exact .s fun a ha => ih a ha fun n hn => hv n (vIn_s.mpr ⟨a, ha, hn⟩)
theorem hl_bound {T : Int → Option NT} {ρ : Int → Nat} {D : Nat} (hr : Rk ρ T) (hd : ∀ n t, T n = some t → DL D t) : ∀ (c : Nat) (S : List Int), S.length ≤ c → (∀ n ∈ S, ∀ t, T n = some t → ∀ m, vIn m t → m ∈ S) → ∀ t, DL D t → (∀ m, vIn m t → m ∈ S) → HL T (c * (D + 1) + D) t
  | 0, S, hS, _, t, dl, hv => by
    obtain rfl : S = [] := List.eq_nil_of_length_eq_zero (by omega)
    have := hl_leaf (B := 0) (T := T) dl fun n hn => nomatch hv n hn
    rw [Nat.zero_add] at this
    rw [Nat.zero_mul, Nat.zero_add]
    exact this
  | c + 1, S, hS, hc, t, dl, hv => by
    have key : ∀ n ∈ S, HL T (c * (D + 1) + D + 1) (.v n) := fun n hn => by
      cases e : T n with
      | none => exact .u e
      | some t' =>
        refine .b e (hl_bound hr hd c (S.filter fun m => decide (ρ m < ρ n)) ?_ (fun m hm u hu q hq => ?_) t' (hd n t' e) fun m hm => ?_)
        · have : (S.filter fun m => decide (ρ m < ρ n)).length < S.length := by
            refine List.length_filter_lt_length_iff_exists.mpr ⟨n, hn, by simp⟩
          omega
        · obtain ⟨m1, m2⟩ := List.mem_filter.mp hm
          have := hr m u hu q hq
          exact List.mem_filter.mpr ⟨hc m m1 u hu q hq, decide_eq_true (Nat.lt_trans this (of_decide_eq_true m2))⟩
        · exact List.mem_filter.mpr ⟨hc n hn t' e m hm, decide_eq_true (hr n t' e m hm)⟩
    have := hl_leaf dl fun n hn => key n (hv n hn)
    rwa [show c * (D + 1) + D + 1 + D = (c + 1) * (D + 1) + D by rw [Nat.succ_mul]; omega] at this
/-- walking -/
def stN (T : Int → Option NT) : NT → NT
  | .v n => (T n).getD (.v n)
  | t => t
def wkN (T : Int → Option NT) : Nat → NT → NT
  | 0, t => t
  | k + 1, t => wkN T k (stN T t)
theorem wk_fix {T : Int → Option NT} {t : NT} (h : stN T t = t) : ∀ k, wkN T k t = t
  | 0 => rfl
  | k + 1 => by rw [wkN, h, wk_fix h k]
theorem wk_succ (T : Int → Option NT) : ∀ (k : Nat) (t : NT), wkN T (k + 1) t = stN T (wkN T k t)
  | 0, t => rfl
  | k + 1, t => by rw [wkN, wk_succ T k, wkN]
theorem wk_add (T : Int → Option NT) : ∀ (i k : Nat) (t : NT), wkN T (i + k) t = wkN T k (wkN T i t)
  | 0, k, t => by rw [Nat.zero_add]; rfl
  | i + 1, k, t => by rw [show i + 1 + k = (i + k) + 1 by omega, wkN, wk_add T i k, wkN]
theorem wk_stop {T : Int → Option NT} {i n : Nat} {t : NT} (h : stN T (wkN T i t) = wkN T i t) (e : i ≤ n) : wkN T n t = wkN T i t := by
  obtain ⟨k, rfl⟩ : ∃ k, n = i + k := ⟨n - i, by omega⟩
  rw [wk_add, wk_fix h]
def finN (T : Int → Option NT) (t : NT) : Prop := ∀ n, t = .v n → T n = none
theorem fin_fix {T : Int → Option NT} {t : NT} (h : finN T t) : stN T t = t := by
  cases t with
  | v n => show (T n).getD _ = _; rw [h n rfl]; rfl
  | i z => rfl
  | s x as => rfl
theorem wk_fin {T : Int → Option NT} {k : Nat} {t : NT} (h : HL T k t) : ∀ m, k ≤ m → finN T (wkN T m t) := by
  induction h with
  | i k z => intro m _; rw [wk_fix rfl]; exact fun n e => by cases e
  | n k x => intro m _; rw [wk_fix rfl]; exact fun n e => by cases e
  | s _ _ => intro m _; rw [wk_fix rfl]; exact fun n e => by cases e
  | u h => intro m _; rw [wk_fix (fin_fix fun n e => by cases e; exact h)]; exact fun n e => by cases e; exact h
  | b h _ ih =>
    intro m hm
    obtain ⟨j, rfl⟩ : ∃ j, m = j + 1 := ⟨m - 1, by omega⟩
    rw [wkN]
    show finN T (wkN T j ((T _).getD _))
    rw [h]
    exact ih j (by omega)
theorem st_hl {T : Int → Option NT} {k : Nat} {t : NT} (h : HL T k t) : HL T k (stN T t) := by
  cases h with
  | i k z => exact .i _ z
  | n k x => exact .n _ x
  | s h => exact .s h
  | u h => show HL T k ((T _).getD _); rw [h]; exact .u h
  | b h g => show HL T _ ((T _).getD _); rw [h]; exact g.mono (Nat.le_succ _)
theorem wk_hl {T : Int → Option NT} {k : Nat} {t : NT} (h : HL T k t) : ∀ m, HL T k (wkN T m t)
  | 0 => h
  | m + 1 => by rw [wk_succ]; exact st_hl (wk_hl h m)
theorem st_oc {T : Int → Option NT} {n : Int} {t : NT} (hn : T n = none) (h : Oc T n t) : Oc T n (stN T t) := by
  cases h with
  | here => show Oc T n ((T n).getD _); rw [hn]; exact .here
  | bnd e g => show Oc T n ((T _).getD _); rw [e]; exact g
  | arg a b => exact .arg a b
theorem wk_oc {T : Int → Option NT} {n : Int} {t : NT} (hn : T n = none) (h : Oc T n t) : ∀ m, Oc T n (wkN T m t)
  | 0 => h
  | m + 1 => by rw [wk_succ]; exact st_oc hn (wk_oc hn h m)
theorem st_hl2 {T T' : Int → Option NT} (le : ∀ n t, T n = some t → T' n = some t) {k : Nat} {t : NT} (h : HL T' k t) : HL T' k (stN T t) := by
  cases t with
  | i z => exact h
  | s x as => exact h
  | v n =>
    show HL T' k ((T n).getD _)
    cases e : T n with
    | none => exact h
    | some t' =>
      cases h with
      | u z => rw [le n t' e] at z; cases z
      | b z g =>
        rw [le n t' e] at z
        cases z
        exact g.mono (Nat.le_succ _)
theorem wk_hl2 {T T' : Int → Option NT} (le : ∀ n t, T n = some t → T' n = some t) {k : Nat} {t : NT} (h : HL T' k t) : ∀ m, HL T' k (wkN T m t)
  | 0 => h
  | m + 1 => by rw [wk_succ]; exact st_hl2 le (wk_hl2 le h m)
/-- the table as it is used -/
structure TG (U : List Int) (D : Nat) (T : Int → Option NT) : Prop where
  ac : ∃ ρ, Rk ρ T
  gt : ∀ n t, T n = some t → GT U D t
  key : ∀ n t, T n = some t → n ∈ U
theorem TG.hl {U : List Int} {D c : Nat} {T : Int → Option NT} (h : TG U D T) (hc : U.length ≤ c) {t : NT} (g : GT U D t) : HL T (c * (D + 1) + D) t := by
  obtain ⟨ρ, hr⟩ := h.ac
  exact hl_bound hr (fun n t e => (h.gt n t e).dl) c U hc (fun n _ t e m hm => (h.gt n t e).vs m hm) t g.dl g.vs
theorem TG.set {U : List Int} {D : Nat} {T : Int → Option NT} {n : Int} {t : NT} (h : TG U D T) (hn : T n = none) (ho : ¬ Oc T n t) (g : GT U D t) (hU : n ∈ U) : TG U D (setT T n t) := by
  obtain ⟨ρ, hr⟩ := h.ac
  refine ⟨rk_set hr hn ho g.vs, fun m u e => ?_, fun m u e => ?_⟩
  · unfold setT at e
    split at e
    · cases e; exact g
    · exact h.gt m u e
  · unfold setT at e
    split at e
    · rename_i z; rw [z]; exact hU
    · exact h.key m u e
theorem TG.wk {U : List Int} {D : Nat} {T : Int → Option NT} (h : TG U D T) {t : NT} (g : GT U D t) : ∀ m, GT U D (wkN T m t)
  | 0 => g
  | m + 1 => by
    rw [wk_succ]
    have := h.wk g m
    generalize wkN T m t = u at this
    cases u with
    | i z => exact this
    | s x as => exact this
    | v n =>
      show GT U D ((T n).getD _)
      cases e : T n with
      | none => exact this
      | some t' => exact h.gt n t' e
theorem tg_no (U : List Int) (D : Nat) : TG U D noT := ⟨⟨fun _ => 0, fun _ _ e => by cases e⟩, fun _ _ e => (by cases e), fun _ _ e => (by cases e)⟩
def leT (T T' : Int → Option NT) : Prop := ∀ n t, T n = some t → T' n = some t
theorem le_set {T : Int → Option NT} {n : Int} {t : NT} (h : T n = none) : leT T (setT T n t) := fun m u e => by
  unfold setT
  split
  · rename_i z; rw [z, h] at e; cases e
  · exact e
/-- what a unifier cannot be without -/
inductive Cmp : NT → NT → Prop
  | vl (n : Int) (t : NT) : Cmp (.v n) t
  | vr (t : NT) (n : Int) : Cmp t (.v n)
  | ii (z : Int) : Cmp (.i z) (.i z)
  | ss (x : Str) (as bs : List NT) : as.length = bs.length → (∀ (k : Nat) (a b : NT), as[k]? = some a → bs[k]? = some b → Cmp a b) → Cmp (.s x as) (.s x bs)
mutual
theorem cmp_refl : ∀ t : NT, Cmp t t
  | .i z => .ii z
  | .v n => .vl n _
  | .s x as => .ss x as as rfl (cmp_refls as)
theorem cmp_refls : ∀ (as : List NT) (k : Nat) (a b : NT), as[k]? = some a → as[k]? = some b → Cmp a b
  | [], _, _, _, h, _ => by simp at h
  | t :: r, 0, a, b, h, g => by
    simp at h g
    subst h g
    exact cmp_refl t
  | t :: r, k + 1, a, b, h, g => cmp_refls r k a b (by simpa using h) (by simpa using g)
end
mutual
theorem nD_inj : ∀ (a b : NT), PyData.eqv (nD a) (nD b) = true → a = b
  | .i x, .i y, h => by simp [nD, PyData.eqv] at h; rw [h]
  | .i x, .v y, h => by simp [nD, PyData.eqv] at h
  | .i x, .s y as, h => by simp [nD, PyData.eqv] at h
  | .v x, .i y, h => by simp [nD, PyData.eqv] at h
  | .v x, .v y, h => by simp [nD, PyData.eqv, PyData.eqvAll] at h; rw [h]
  | .v x, .s y as, h => by simp [nD, PyData.eqv, PyData.eqvAll] at h
  | .s x as, .i y, h => by simp [nD, PyData.eqv] at h
  | .s x as, .v y, h => by simp [nD, PyData.eqv, PyData.eqvAll] at h
  | .s x as, .s y bs, h => by
    simp only [nD, PyData.eqv, PyData.eqvAll, Bool.and_eq_true, beq_iff_eq] at h
    rw [h.2.1, nDs_inj as bs h.2.2.1]
theorem nDs_inj : ∀ (as bs : List NT), PyData.eqvAll (nDs as) (nDs bs) = true → as = bs
  | [], [], _ => rfl
  | [], b :: bs, h => by simp [nDs, PyData.eqvAll] at h
  | a :: as, [], h => by simp [nDs, PyData.eqvAll] at h
  | a :: as, b :: bs, h => by
    simp only [nDs, PyData.eqvAll, Bool.and_eq_true] at h
    rw [nD_inj a b h.1, nDs_inj as bs h.2]
end
theorem nD_lay {k : Nat} {t : NT} (h : DL k t) : (nD t).canLay0 = true ∧ (nD t).depth ≤ 2 * k + 2 ∧ noL (nD t) = true := by
  induction h with
  | i k z => exact ⟨by simp [nD, PyData.canLay0], by simp [nD, PyData.depth], by simp [nD, noL]⟩
  | v k n => exact ⟨by simp only [nD, PyData.canLay0, PyData.canLayAll0]; decide +kernel, by simp [nD, PyData.depth, PyData.depthAll], by simp [nD, noL, noLA]⟩
  | n k x hx =>
    refine ⟨?_, by simp [nD, nDs, PyData.depth, PyData.depthAll], by simp [nD, nDs, noL, noLA]⟩
    simp only [nD, nDs, PyData.canLay0, PyData.canLayAll0, okName_cps hx]
    decide +kernel
  | s k x as hx hl hal ih =>
    have all : PyData.canLayAll0 (nDs as) = true ∧ PyData.depthAll (nDs as) ≤ 2 * k + 2 ∧ noLA (nDs as) = true := by
      clear hl
      induction as with
      | nil => exact ⟨by simp [nDs, PyData.canLayAll0], by simp [nDs, PyData.depthAll], by simp [nDs, noLA]⟩
      | cons a as ih2 =>
        obtain ⟨a1, a2, a3⟩ := ih a (.head _)
        obtain ⟨b1, b2, b3⟩ := ih2 (fun b hb => hal b (.tail _ hb)) fun b hb => ih b (.tail _ hb)
        refine ⟨by simp only [nDs, PyData.canLayAll0, a1, b1, Bool.and_self], ?_, by simp only [nDs, noLA, a3, b3, Bool.and_self]⟩
        simp only [nDs, PyData.depthAll]
        omega
    obtain ⟨c1, c2, c3⟩ := all
    refine ⟨?_, ?_, by simp only [nD, noL, noLA, c3, Bool.and_self]⟩
    · simp only [nD, PyData.canLay0, PyData.canLayAll0, c1, okName_cps hx]
      decide +kernel
    · simp only [nD, PyData.depth, PyData.depthAll]
      omega
theorem nD_shaped {k : Nat} {t : NT} (h : DL k t) (hk : k ≤ 30) : SeqAt.shaped (nD t) = true := by
  obtain ⟨a, b, _⟩ := nD_lay h
  show ((nD t).canLay0 && decide ((nD t).depth ≤ 64)) = true
  rw [a, decide_eq_true (by omega)]
  rfl
mutual
theorem fl_cls : ∀ t : NT, Cls 1 (fl t)
  | .i z => by rw [fl]; exact ⟨by decide, rfl⟩
  | .v n => by rw [fl]; exact ⟨by decide, rfl⟩
  | .s x as => by
    rw [fl]
    refine ⟨by decide, ?_⟩
    have e : 1 - 1 + arN (.tuple [.str "f", .str x, .int (as.length : Int)]) = as.length := by show 1 - 1 + (as.length : Int).toNat = _; omega
    rw [e]
    exact fls_cls as
theorem fls_cls : ∀ as : List NT, Cls as.length (fls as)
  | [] => by rw [fls]; rfl
  | t :: r => by
    rw [fls, List.length_cons, Nat.add_comm]
    exact cls_app _ _ _ _ (fl_cls t) (fls_cls r)
end
theorem dl_len {k : Nat} {x : Str} {as : List NT} (h : DL k (.s x as)) : as.length ≤ 8 ∧ okName x = true := by
  cases h with
  | n _ _ a => exact ⟨by decide, a⟩
  | s _ _ _ a b _ => exact ⟨b, a⟩
theorem cmp_w {T : Int → Option NT} {m : Nat} {l r : NT} (h : Cmp (wkN T m l) (wkN T m r)) : Cmp l r := by
  cases l with
  | v n => exact .vl n r
  | i z =>
    rw [wk_fix (t := .i z) rfl] at h
    cases r with
    | v n => exact .vr _ n
    | i z2 => rwa [wk_fix (t := .i z2) rfl] at h
    | s x as => rwa [wk_fix (t := .s x as) rfl] at h
  | s y bs =>
    rw [wk_fix (t := .s y bs) rfl] at h
    cases r with
    | v n => exact .vr _ n
    | i z2 => rwa [wk_fix (t := .i z2) rfl] at h
    | s x as => rwa [wk_fix (t := .s x as) rfl] at h
theorem wk_var {T : Int → Option NT} {m : Nat} {l : NT} {n : Int} (h : wkN T m l = .v n) : ∃ k, l = .v k := by
  cases l with
  | v k => exact ⟨k, rfl⟩
  | i z => rw [wk_fix (t := .i z) rfl] at h; cases h
  | s x as => rw [wk_fix (t := .s x as) rfl] at h; cases h
theorem gt_var {U : List Int} {D E : Nat} {n : Int} (h : GT U D (.v n)) : GT U E (.v n) := ⟨.v E n, h.vs⟩
theorem GT.up {U : List Int} {D E : Nat} {t : NT} (h : GT U D t) (e : D ≤ E) : GT U E t := ⟨h.dl.mono e, h.vs⟩
theorem wk_gt {U : List Int} {T : Int → Option NT} (tg : TG U 3 T) {t : NT} (h : GT U 4 t) (m : Nat) : GT U 4 (wkN T m t) := by
  cases t with
  | v n => exact (tg.wk (gt_var h) m).up (by decide)
  | i z => rw [wk_fix (t := .i z) rfl]; exact h
  | s x as => rw [wk_fix (t := .s x as) rfl]; exact h
theorem fin_of {U : List Int} {T : Int → Option NT} (tg : TG U 3 T) (hU : U.length ≤ 24) {t : NT} (h : GT U 4 t) : finN T (wkN T 1000 t) := by
  cases t with
  | v n => exact wk_fin (tg.hl (c := 24) hU (gt_var h)) 1000 (by decide)
  | i z => rw [wk_fix (t := .i z) rfl]; exact fun n e => by cases e
  | s x as => rw [wk_fix (t := .s x as) rfl]; exact fun n e => by cases e
theorem le_refl (T : Int → Option NT) : leT T T := fun _ _ e => e
theorem le_trans {T T' T'' : Int → Option NT} (a : leT T T') (b : leT T' T'') : leT T T'' := fun n t e => b n t (a n t e)
theorem nD_var {t : NT} : isVarN (nD t) = true ↔ ∃ n, t = .v n := by
  cases t with
  | i z => simp [nD, isVarN]
  | v n => simp [nD, isVarN]
  | s x as => simp [nD, isVarN]
/-! ### rows of terms -/
theorem tk_row : ∀ {row rest : List PyData} {m : Nat}, Cls m row → tk m (row ++ rest) = row.length
  | [], rest, m, h => by
    have h : m = 0 := h
    subst h
    rw [List.nil_append, tk_zero]
    rfl
  | d :: row, rest, m, h => by
    rw [List.cons_append, tk_cons h.1, tk_row h.2, List.length_cons]
    omega
theorem rows_cls : ∀ {rows : List (List PyData)} {rest : List (List PyData)} {row : List PyData}, (∀ r ∈ row :: rest, Cls 1 r ∧ ∀ d ∈ r, NdA d) → Cls (rest.length + 1) ((row :: rest).flatten)
  | rows, [], row, h => by
    rw [List.flatten_cons, List.flatten_nil, List.append_nil]
    exact (h row List.mem_cons_self).1
  | rows, r :: rest, row, h => by
    rw [List.flatten_cons]
    have ih := rows_cls (rows := rows) (rest := rest) (row := r) fun x hx => h x (List.mem_cons_of_mem _ hx)
    have := cls_app row _ 1 (rest.length + 1) (h row List.mem_cons_self).1 ih
    rw [show (r :: rest).length + 1 = 1 + (rest.length + 1) by rw [List.length_cons]; omega]
    exact this
def headN : List PyData → PyData
  | d :: _ => d
  | [] => .none
def keyD (d : PyData) : PyData := if isVarN d = true then .none else d
def keyR (row : List PyData) : PyData := keyD (headN row)
theorem keyD_noL {d : PyData} (h : NdA d) : noL (keyD d) = true := by
  unfold keyD
  split
  · simp [noL]
  · exact nd_noL h
theorem key_form {K : PySem.W.Frag} {H : Hp} {x : V} {d : PyData} (hn : NdA d) (h : Dp K H x (keyD d)) : (isVarN d = true ∧ x = .non) ∨ (isVarN d = false ∧ x ≠ .non ∧ Dp K H x d) := by
  unfold keyD at h
  cases e : isVarN d with
  | true =>
    rw [e, if_pos rfl] at h
    cases h
    exact .inl ⟨rfl, rfl⟩
  | false =>
    rw [e, if_neg Bool.false_ne_true] at h
    refine .inr ⟨rfl, fun z => ?_, h⟩
    subst z
    obtain ⟨wd, nd⟩ := hn
    cases nd <;> cases h
def conf (d e : PyData) : Bool := !isVarN d && !isVarN e && !PyData.eqv d e
theorem eqv_comm {d e : PyData} (h : NdA d) (h2 : NdA e) : PyData.eqv d e = PyData.eqv e d := by
  cases a : PyData.eqv d e with
  | true =>
    have := nd_eq h h2 a
    subst this
    exact a.symm
  | false =>
    cases b : PyData.eqv e d with
    | true =>
      have := nd_eq h2 h b
      subst this
      rw [a] at b
      cases b
    | false => rfl
theorem conf_comm {d e : PyData} (h : NdA d) (h2 : NdA e) : conf d e = conf e d := by
  unfold conf
  rw [eqv_comm h h2, Bool.and_comm (!isVarN d)]
structure OkRow (row : List PyData) : Prop where
  cl : Cls 1 row
  nd : ∀ d ∈ row, NdA d
  len : row.length ≤ 4
theorem row_head {row : List PyData} (h : OkRow row) : ∃ d r, row = d :: r ∧ headN row = d ∧ NdA d := by
  cases row with
  | nil => exact absurd (show (1 : Nat) = 0 from h.cl) (by decide)
  | cons d r => exact ⟨d, r, rfl, rfl, h.nd d List.mem_cons_self⟩
structure OkRows (n : Nat) (rows : List (List PyData)) : Prop where
  len : rows.length = n
  row : ∀ row ∈ rows, OkRow row
theorem flat4 : ∀ {rows : List (List PyData)}, (∀ row ∈ rows, OkRow row) → rows.flatten.length ≤ 4 * rows.length
  | [], _ => Nat.le_refl _
  | row :: r, h => by
    have a := (h row List.mem_cons_self).len
    have b := flat4 (rows := r) fun x hx => h x (List.mem_cons_of_mem _ hx)
    rw [List.flatten_cons, List.length_append, List.length_cons]
    omega
def rowAt (rows : List (List PyData)) (j : Nat) : PyData := headN (rows.getD j [])
theorem rowAt_of {rows : List (List PyData)} {j : Nat} {row : List PyData} (h : rows[j]? = some row) : rowAt rows j = headN row := by
  unfold rowAt
  rw [List.getD_eq_getElem?_getD, h]
  rfl
theorem rowAt_nd {n : Nat} {rows : List (List PyData)} (h : OkRows n rows) {j : Nat} (hj : j < n) : NdA (rowAt rows j) := by
  obtain ⟨row, hr⟩ : ∃ row, rows[j]? = some row := ⟨_, List.getElem?_eq_getElem (by rw [h.len]; exact hj)⟩
  rw [rowAt_of hr]
  obtain ⟨d, r, _, e, nd⟩ := row_head (h.row row (List.mem_of_getElem? hr))
  rw [e]
  exact nd
def hdD (n : Nat) : PyData := .tuple [.str "f", .str "p", .int (n : Int)]
def trD : PyData := .tuple [.str "f", .str "true", .int 0]
def clD (n : Nat) (rows : List (List PyData)) : PyData := .tuple [.tuple (hdD n :: rows.flatten), .tuple [trD]]
theorem hd_nd {n : Nat} (h : n ≤ 8) : NdA (hdD n) := ⟨0, .f "p" n (by decide +kernel) (by omega) (by omega)⟩
theorem tr_nd : NdA trD := ⟨0, .f "true" 0 (by decide +kernel) (by decide) (by decide)⟩
def okP (plan : List Nat) (n : Nat) (args rows : List (List PyData)) : Bool := plan.all fun j => decide (n ≤ j) || !conf (rowAt args j) (rowAt rows j)
def resC (plan : List Nat) (n : Nat) (args : List (List PyData)) (cs : List (List (List PyData))) (i : Nat) : List Nat := (List.range i).filter fun p => okP plan n args (cs.getD p [])
theorem resC_succ (plan : List Nat) (n : Nat) (args : List (List PyData)) {cs : List (List (List PyData))} {i : Nat} {rows : List (List PyData)} (h : cs[i]? = some rows) : resC plan n args cs (i + 1) = resC plan n args cs i ++ (if okP plan n args rows = true then [i] else []) := by
  unfold resC
  rw [List.range_succ, List.filter_append]
  congr 1
  have e : cs.getD i [] = rows := by rw [List.getD_eq_getElem?_getD, h]; rfl
  cases c : okP plan n args rows with
  | true => rw [if_pos rfl, List.filter_cons_of_pos (by rw [e]; exact c), List.filter_nil]
  | false => rw [if_neg Bool.false_ne_true, List.filter_cons_of_neg (by rw [e, c]; exact Bool.false_ne_true), List.filter_nil]
theorem resC_len (plan : List Nat) (n : Nat) (args : List (List PyData)) (cs : List (List (List PyData))) (i : Nat) : (resC plan n args cs i).length ≤ i := by
  have := List.length_filter_le (fun p => okP plan n args (cs.getD p [])) (List.range i)
  rw [List.length_range] at this
  exact this
def useP (cs : List (List (List PyData))) (j : Nat) : Bool := cs.any fun rows => !isVarN (rowAt rows j)
def useC (cs : List (List (List PyData))) (i : Nat) : List Nat := (List.range i).filter fun j => useP cs j
theorem useC_succ (cs : List (List (List PyData))) (i : Nat) : useC cs (i + 1) = useC cs i ++ (if useP cs i = true then [i] else []) := by
  unfold useC
  rw [List.range_succ, List.filter_append]
  congr 1
  cases c : useP cs i with
  | true => rw [if_pos rfl, List.filter_cons_of_pos c, List.filter_nil]
  | false => rw [if_neg Bool.false_ne_true, List.filter_cons_of_neg (by rw [c]; exact Bool.false_ne_true), List.filter_nil]
theorem useC_len (cs : List (List (List PyData))) (i : Nat) : (useC cs i).length ≤ i := by
  have := List.length_filter_le (fun j => useP cs j) (List.range i)
  rw [List.length_range] at this
  exact this
/-- the ints of a list of numbers -/
def natsI (L : List Nat) : List Int := L.map fun (j : Nat) => (j : Int)
theorem natsI_snoc (L : List Nat) (j : Nat) : natsI (L ++ [j]) = natsI L ++ [(j : Int)] := by
  unfold natsI
  rw [List.map_append]
  rfl
/-! ### a dict's keys and values -/
theorem putK_mem {kvs : List (Key × V)} {k : Key} {v : V} {p : Key × V} (h : p ∈ putK kvs k v) : (p.1 = k ∧ p.2 = v) ∨ p ∈ kvs := by
  unfold putK at h
  split at h
  · obtain ⟨q, hq, rfl⟩ := List.mem_map.mp h
    by_cases e : q.1 = k
    · rw [if_pos e]
      exact .inl ⟨e, rfl⟩
    · rw [if_neg e]
      exact .inr hq
  · rcases List.mem_append.mp h with z | z
    · exact .inr z
    · rw [List.mem_singleton.mp z]
      exact .inl ⟨rfl, rfl⟩
theorem putK_keys (kvs : List (Key × V)) (k : Key) (v : V) : (k ∈ kvs.map (·.1) → (putK kvs k v).map (·.1) = kvs.map (·.1)) ∧ (k ∉ kvs.map (·.1) → (putK kvs k v).map (·.1) = kvs.map (·.1) ++ [k]) := by
  unfold putK
  have e : ((kvs.any fun kv => decide (kv.1 = k)) = true) ↔ k ∈ kvs.map (·.1) := by
    rw [List.any_eq_true]
    constructor
    · rintro ⟨p, hp, h⟩
      exact List.mem_map.mpr ⟨p, hp, of_decide_eq_true h⟩
    · intro h
      obtain ⟨p, hp, h⟩ := List.mem_map.mp h
      exact ⟨p, hp, decide_eq_true h⟩
  refine ⟨fun c => ?_, fun c => ?_⟩
  · rw [if_pos (e.mpr c), List.map_map]
    apply List.map_congr_left
    intro q _
    show (if q.1 = k then (q.1, v) else q).1 = q.1
    split <;> rfl
  · rw [if_neg (fun z => c (e.mp z)), List.map_append]
    rfl
theorem putK_kin {kvs : List (Key × V)} {k j : Key} {v : V} : j ∈ (putK kvs k v).map (·.1) ↔ j = k ∨ j ∈ kvs.map (·.1) := by
  by_cases c : k ∈ kvs.map (·.1)
  · rw [(putK_keys kvs k v).1 c]
    constructor
    · exact .inr
    · rintro (z | z)
      · rw [z]; exact c
      · exact z
  · rw [(putK_keys kvs k v).2 c, List.mem_append, List.mem_singleton]
    exact Or.comm
theorem putK_nodup {kvs : List (Key × V)} {k : Key} {v : V} (h : (kvs.map (·.1)).Nodup) : ((putK kvs k v).map (·.1)).Nodup := by
  by_cases c : k ∈ kvs.map (·.1)
  · rw [(putK_keys kvs k v).1 c]
    exact h
  · rw [(putK_keys kvs k v).2 c]
    exact nd_snoc h c
theorem putK_lenle (kvs : List (Key × V)) (k : Key) (v : V) : (putK kvs k v).length ≤ kvs.length + 1 := by
  unfold putK
  split
  · rw [List.length_map]; omega
  · rw [List.length_append]; exact Nat.le_refl _
def numK : Key → Nat
  | .inl z => z.toNat
  | .inr _ => 0
/-- each key is a number, each value the key of the term there -/
def WS (K : PySem.W.Frag) (H : Hp) (kvs : List (Key × V)) (args : List (List PyData)) (n : Nat) : Prop := ∀ p ∈ kvs, ∃ j : Nat, p.1 = Sum.inl (j : Int) ∧ j < n ∧ Dp K H p.2 (keyD (rowAt args j))
theorem WS.mono {K : PySem.W.Frag} {H H' : Hp} {kvs : List (Key × V)} {args : List (List PyData)} {n : Nat} (h : WS K H kvs args n) (f : ∀ (v : V) (j : Nat), j < n → Dp K H v (keyD (rowAt args j)) → Dp K H' v (keyD (rowAt args j))) : WS K H' kvs args n := fun p hp => by
  obtain ⟨j, a, b, c⟩ := h p hp
  exact ⟨j, a, b, f _ j b c⟩
def okW (kvs : List (Key × V)) (args rows : List (List PyData)) : Bool := kvs.all fun p => !conf (rowAt args (numK p.1)) (rowAt rows (numK p.1))
theorem okW_eq {K : PySem.W.Frag} {H : Hp} {kvs : List (Key × V)} {args rows : List (List PyData)} {n : Nat} {plan : List Nat} (h : WS K H kvs args n) (h1 : ∀ p ∈ kvs, ∃ j : Nat, p.1 = Sum.inl (j : Int) ∧ j ∈ plan) (h2 : ∀ j ∈ plan, j < n → (Sum.inl (j : Int) : Key) ∈ kvs.map (·.1)) : okW kvs args rows = okP plan n args rows := by
  apply Bool.eq_iff_iff.mpr
  unfold okW okP
  rw [List.all_eq_true, List.all_eq_true]
  constructor
  · intro g j hj
    by_cases hn : n ≤ j
    · rw [decide_eq_true hn]; rfl
    · obtain ⟨p, hp, e⟩ := List.mem_map.mp (h2 j hj (by omega))
      have := g p hp
      rw [e] at this
      have e2 : numK (Sum.inl (j : Int)) = j := Int.toNat_natCast j
      rw [e2] at this
      rw [this, Bool.or_true]
  · intro g p hp
    obtain ⟨j, e, hj⟩ := h1 p hp
    obtain ⟨j2, e3, hl, _⟩ := h p hp
    rw [e] at e3
    have ej : (j : Int) = (j2 : Int) := Sum.inl.inj e3
    have := g j hj
    rw [decide_eq_false (by omega), Bool.false_or] at this
    rw [e]
    have e2 : numK (Sum.inl (j : Int)) = j := Int.toNat_natCast j
    rw [e2]
    exact this
/-! ### strictly ascending lists with the same members -/
theorem asc_unique : ∀ {a b : List Int}, a.Pairwise (· < ·) → b.Pairwise (· < ·) → (∀ x, x ∈ a ↔ x ∈ b) → a = b
  | [], [], _, _, _ => rfl
  | [], y :: b, _, _, h => absurd ((h y).mpr List.mem_cons_self) (fun z => nomatch z)
  | x :: a, [], _, _, h => absurd ((h x).mp List.mem_cons_self) (fun z => nomatch z)
  | x :: a, y :: b, ha, hb, h => by
    have ha1 := List.pairwise_cons.mp ha
    have hb1 := List.pairwise_cons.mp hb
    have hxy : x = y := by
      have h1 := (h x).mp List.mem_cons_self
      have h2 := (h y).mpr List.mem_cons_self
      rcases List.mem_cons.mp h1 with z | z
      · exact z
      · rcases List.mem_cons.mp h2 with w | w
        · exact w.symm
        · have := hb1.1 x z
          have := ha1.1 y w
          omega
    subst hxy
    congr 1
    refine asc_unique ha1.2 hb1.2 fun z => ⟨fun hz => ?_, fun hz => ?_⟩
    · rcases List.mem_cons.mp ((h z).mp (List.mem_cons_of_mem _ hz)) with w | w
      · have := ha1.1 z hz; omega
      · exact w
    · rcases List.mem_cons.mp ((h z).mpr (List.mem_cons_of_mem _ hz)) with w | w
      · have := hb1.1 z hz; omega
      · exact w
theorem asc_of {ns ns' : List Int} (hp : ns'.Perm ns) (hw : ns'.Pairwise (· ≤ ·)) (hn : ns.Nodup) : ns'.Pairwise (· < ·) := by
  have hn' : ns'.Nodup := hp.nodup_iff.mpr hn
  exact (hw.and hn').imp fun ⟨a, b⟩ => by omega
theorem use_asc (cs : List (List (List PyData))) (i : Nat) : (natsI (useC cs i)).Pairwise (· < ·) := by
  unfold natsI useC
  rw [List.pairwise_map]
  exact (List.pairwise_lt_range.filter _).imp fun h => by omega
theorem use_mem {cs : List (List (List PyData))} {i : Nat} {z : Int} : z ∈ natsI (useC cs i) ↔ ∃ j : Nat, z = (j : Int) ∧ j < i ∧ useP cs j = true := by
  unfold natsI useC
  rw [List.mem_map]
  constructor
  · rintro ⟨j, hj, rfl⟩
    obtain ⟨a, b⟩ := List.mem_filter.mp hj
    exact ⟨j, rfl, List.mem_range.mp a, b⟩
  · rintro ⟨j, rfl, a, b⟩
    exact ⟨j, List.mem_filter.mpr ⟨List.mem_range.mpr a, b⟩, rfl⟩
theorem keys_noL : ∀ {rows : List (List PyData)}, (∀ row ∈ rows, OkRow row) → noLA (rows.map keyR) = true
  | [], _ => by simp [noLA]
  | row :: r, h => by
    obtain ⟨d, t, _, e, nd⟩ := row_head (h row List.mem_cons_self)
    have a : noL (keyR row) = true := by
      unfold keyR
      rw [e]
      exact keyD_noL nd
    rw [List.map_cons, noLA, a, keys_noL (rows := r) fun x hx => h x (List.mem_cons_of_mem _ hx)]
    rfl
def intK : Key → Int
  | .inl z => z
  | .inr _ => 0
theorem keys_ints {kvs : List (Key × V)} (h : ∀ k ∈ kvs.map (·.1), ∃ j : Nat, k = Sum.inl (j : Int)) : (kvs.map fun kv => kV kv.1) = ((kvs.map (·.1)).map intK).map V.int := by
  rw [List.map_map, List.map_map]
  apply List.map_congr_left
  intro p hp
  obtain ⟨j, e⟩ := h p.1 (List.mem_map.mpr ⟨p, hp, rfl⟩)
  show kV p.1 = V.int (intK p.1)
  rw [e]
  rfl
theorem keys_nodup {ks : List Key} (h : ∀ k ∈ ks, ∃ j : Nat, k = Sum.inl (j : Int)) (n : ks.Nodup) : (ks.map intK).Nodup := by
  unfold List.Nodup at n ⊢
  rw [List.pairwise_map]
  refine n.imp_of_mem fun {a b} ha hb hne e => ?_
  obtain ⟨i, rfl⟩ := h a ha
  obtain ⟨j, rfl⟩ := h b hb
  exact hne (congrArg Sum.inl e)
theorem useP_take {cs : List (List (List PyData))} {i : Nat} {rows : List (List PyData)} (h : cs[i]? = some rows) (j : Nat) : useP (cs.take (i + 1)) j = (useP (cs.take i) j || !isVarN (rowAt rows j)) := by
  unfold useP
  rw [List.take_add_one, h, List.any_append]
  rw [show (some rows).toList = [rows] from rfl, List.any_cons, List.any_nil, Bool.or_false]
def names7 : List Str := ["f", "g", ".", "-", "ff", "a", "+"]
def names10 : List Str := ["a", "b", "[]", "c d", "+", "foo", "f", "g", "-", "."]
theorem tups_lay : ∀ {rows : List (List PyData)}, (∀ r ∈ rows, ∀ d ∈ r, NdA d) → PyData.canLayAll0 (rows.map PyData.tuple) = true ∧ PyData.depthAll (rows.map PyData.tuple) ≤ 2 ∧ PyData.eqvAll (rows.map PyData.tuple) (rows.map PyData.tuple) = true
  | [], _ => ⟨by simp [PyData.canLayAll0], by simp [PyData.depthAll], by simp [PyData.eqvAll]⟩
  | r :: rs, h => by
    obtain ⟨a1, a2, a3⟩ := nds_lay (h r List.mem_cons_self)
    obtain ⟨b1, b2, b3⟩ := tups_lay (rows := rs) fun e he => h e (List.mem_cons_of_mem _ he)
    rw [List.map_cons]
    refine ⟨by simp only [PyData.canLayAll0, PyData.canLay0, a1, b1, Bool.and_self], ?_, by simp only [PyData.eqvAll, PyData.eqv, a3, b3, Bool.and_self]⟩
    simp only [PyData.depthAll, PyData.depth]
    omega
theorem tups_shaped {rows : List (List PyData)} (h : ∀ r ∈ rows, ∀ d ∈ r, NdA d) : SeqAt.shaped (.list (rows.map PyData.tuple)) = true := by
  obtain ⟨a1, a2, _⟩ := tups_lay h
  have hd : (PyData.list (rows.map PyData.tuple)).depth ≤ 64 := by simp only [PyData.depth]; omega
  have hc : (PyData.list (rows.map PyData.tuple)).canLay0 = true := by simp only [PyData.canLay0]; exact a1
  show ((PyData.list (rows.map PyData.tuple)).canLay0 && decide ((PyData.list (rows.map PyData.tuple)).depth ≤ 64)) = true
  rw [hc, decide_eq_true hd]
  rfl
theorem tups_eqv {rows : List (List PyData)} (h : ∀ r ∈ rows, ∀ d ∈ r, NdA d) : PyData.eqv (.list (rows.map PyData.tuple)) (.list (rows.map PyData.tuple)) = true := by
  simp only [PyData.eqv]
  exact (tups_lay h).2.2
theorem cl_lay {n : Nat} {rows : List (List PyData)} (hn : n ≤ 8) (h : OkRows n rows) : (clD n rows).canLay0 = true ∧ (clD n rows).depth ≤ 3 ∧ PyData.eqv (clD n rows) (clD n rows) = true := by
  have key : clD n rows = .tuple (([hdD n :: rows.flatten, [trD]] : List (List PyData)).map PyData.tuple) := rfl
  obtain ⟨a1, a2, a3⟩ := tups_lay (rows := [hdD n :: rows.flatten, [trD]]) fun r hr d hd => by
    simp only [List.mem_cons, List.not_mem_nil, or_false] at hr
    rcases hr with rfl | rfl
    · rcases List.mem_cons.mp hd with z | z
      · rw [z]; exact hd_nd hn
      · obtain ⟨row, h1, h2⟩ := List.mem_flatten.mp z
        exact (h.row row h1).nd d h2
    · rw [List.mem_singleton.mp hd]; exact tr_nd
  rw [key]
  refine ⟨by simp only [PyData.canLay0]; exact a1, by simp only [PyData.depth]; omega, by simp only [PyData.eqv]; exact a3⟩
theorem cls_lay {n : Nat} (hn : n ≤ 8) : ∀ {cs : List (List (List PyData))}, (∀ rows ∈ cs, OkRows n rows) → PyData.canLayAll0 (cs.map (clD n)) = true ∧ PyData.depthAll (cs.map (clD n)) ≤ 3 ∧ PyData.eqvAll (cs.map (clD n)) (cs.map (clD n)) = true
  | [], _ => ⟨by simp [PyData.canLayAll0], by simp [PyData.depthAll], by simp [PyData.eqvAll]⟩
  | c :: r, h => by
    obtain ⟨a1, a2, a3⟩ := cl_lay hn (h c List.mem_cons_self)
    obtain ⟨b1, b2, b3⟩ := cls_lay hn (cs := r) fun e he => h e (List.mem_cons_of_mem _ he)
    rw [List.map_cons]
    refine ⟨by simp only [PyData.canLayAll0, a1, b1, Bool.and_self], ?_, by simp only [PyData.eqvAll, a3, b3, Bool.and_self]⟩
    simp only [PyData.depthAll]
    omega
theorem cls_shaped {n : Nat} (hn : n ≤ 8) {cs : List (List (List PyData))} (h : ∀ rows ∈ cs, OkRows n rows) : SeqAt.shaped (.list (cs.map (clD n))) = true := by
  obtain ⟨a1, a2, _⟩ := cls_lay hn h
  have hd : (PyData.list (cs.map (clD n))).depth ≤ 64 := by simp only [PyData.depth]; omega
  have hc : (PyData.list (cs.map (clD n))).canLay0 = true := by simp only [PyData.canLay0]; exact a1
  show ((PyData.list (cs.map (clD n))).canLay0 && decide ((PyData.list (cs.map (clD n))).depth ≤ 64)) = true
  rw [hc, decide_eq_true hd]
  rfl
theorem cls_eqv {n : Nat} (hn : n ≤ 8) {cs : List (List (List PyData))} (h : ∀ rows ∈ cs, OkRows n rows) : PyData.eqv (.list (cs.map (clD n))) (.list (cs.map (clD n))) = true := by
  simp only [PyData.eqv]
  exact (cls_lay hn h).2.2
theorem key_sh {d : PyData} (h : NdA d) : SeqAt.shaped (keyD d) = true ∧ PyData.eqv (keyD d) (keyD d) = true := by
  unfold keyD
  split
  · exact ⟨by decide +kernel, by simp only [PyData.eqv]⟩
  · exact ⟨nd_shaped h, (nd_lay h).2.2⟩
theorem tint_shaped (ns : List Int) : SeqAt.shaped (.tuple (ns.map PyData.int)) = true := by
  obtain ⟨a, b, _⟩ := ints_lay ns
  have hd : (PyData.tuple (ns.map PyData.int)).depth ≤ 64 := by simp only [PyData.depth, b]; decide
  have hc : (PyData.tuple (ns.map PyData.int)).canLay0 = true := by simp only [PyData.canLay0]; exact a
  show ((PyData.tuple (ns.map PyData.int)).canLay0 && decide ((PyData.tuple (ns.map PyData.int)).depth ≤ 64)) = true
  rw [hc, decide_eq_true hd]
  rfl
theorem tint_eqv (ns : List Int) : PyData.eqv (.tuple (ns.map PyData.int)) (.tuple (ns.map PyData.int)) = true := by
  simp only [PyData.eqv]
  exact (ints_lay ns).2.2
theorem okP_take {plan : List Nat} {n i j : Nat} {args rows : List (List PyData)} (h : plan[i]? = some j) : okP (plan.take (i + 1)) n args rows = (okP (plan.take i) n args rows && (decide (n ≤ j) || !conf (rowAt args j) (rowAt rows j))) := by
  unfold okP
  rw [List.take_add_one, h, List.all_append]
  rw [show (some j).toList = [j] from rfl, List.all_cons, List.all_nil, Bool.and_true]
/-! ### the promises -/
def sp_is_variable (K : PySem.W.Frag) : Sp := fun vs H Q _ => ∃ (x : V) (d : PyData), vs = [x] ∧ Dp K H x d ∧ NdA d ∧ Q (.bl (isVarN d)) H
def sp_is_symbol (K : PySem.W.Frag) : Sp := fun vs H Q _ => ∃ (x : V) (d : PyData), vs = [x] ∧ Dp K H x d ∧ NdA d ∧ Q (.bl (isSymN d)) H
def sp_arity_of (K : PySem.W.Frag) : Sp := fun vs H Q _ => ∃ (x : V) (d : PyData), vs = [x] ∧ Dp K H x d ∧ NdA d ∧ Q (.int (arN d)) H
def sp_end_of (K : PySem.W.Frag) : Sp := fun vs H Q _ => ∃ (x : V) (ds : List PyData) (i k : Nat), vs = [x, .int i] ∧ Dp K H x (.tuple ds) ∧ (∀ d ∈ ds, NdA d) ∧ Cls (k + 1) (ds.drop i) ∧ Q (.int ((i + tk 1 (ds.drop i) : Nat) : Int)) H
def sp__law_end (K : PySem.W.Frag) : Sp := sp_end_of K
def sp_parts (K : PySem.W.Frag) : Sp := fun vs H Q _ => ∃ (x : V) (d0 : PyData) (rows : List (List PyData)), vs = [x] ∧ Dp K H x (.tuple (d0 :: rows.flatten)) ∧ NdA d0 ∧ (∀ row ∈ rows, Cls 1 row ∧ ∀ d ∈ row, NdA d) ∧ rows.length ≤ 9 ∧ rows.flatten.length ≤ 900 ∧ ∀ r ys H', Same H H' → H r = Option.none → H' r = some (.lst ys) → DpAll K H' ys (rows.map PyData.tuple) → Q (.ref r) H'
def sp__law_parts (K : PySem.W.Frag) : Sp := sp_parts K
def sp_key (K : PySem.W.Frag) : Sp := fun vs H Q _ => ∃ (x : V) (d : PyData) (r : List PyData), vs = [x] ∧ Dp K H x (.tuple (d :: r)) ∧ NdA d ∧ ∀ v, Dp K H v (keyD d) → Q v H
def sp__law_key (K : PySem.W.Frag) : Sp := sp_key K
def sp_conflict (K : PySem.W.Frag) : Sp := fun vs H Q _ => ∃ (x y : V) (d e : PyData), vs = [x, y] ∧ Dp K H x (keyD d) ∧ Dp K H y (keyD e) ∧ NdA d ∧ NdA e ∧ Q (.bl (conf d e)) H
def sp__law_conflict (K : PySem.W.Frag) : Sp := fun vs H Q _ => ∃ (x y : V) (r1 r2 : List PyData), vs = [x, y] ∧ Dp K H x (.tuple r1) ∧ Dp K H y (.tuple r2) ∧ OkRow r1 ∧ OkRow r2 ∧ Q (.bl (conf (headN r1) (headN r2))) H
def sp_head_keys (K : PySem.W.Frag) : Sp := fun vs H Q _ => ∃ (x : V) (n : Nat) (rows : List (List PyData)), vs = [x] ∧ Dp K H x (.tuple (hdD n :: rows.flatten)) ∧ OkRows n rows ∧ n ≤ 4 ∧ ∀ r ys H', Same H H' → H r = Option.none → H' r = some (.lst ys) → DpAll K H' ys (rows.map keyR) → Q (.ref r) H'
def sp_is_candidate (K : PySem.W.Frag) : Sp := fun vs H Q _ => ∃ (k w : Addr) (ys : List V) (kvs : List (Key × V)) (args rows : List (List PyData)) (n : Nat), vs = [.ref k, .ref w] ∧ H k = some (.lst ys) ∧ DpAll K H ys (rows.map keyR) ∧ OkRows n rows ∧ OkRows n args ∧ H w = some (.dK kvs) ∧ WS K H kvs args n ∧ kvs.length ≤ 900 ∧ ∀ H', Same H H' → Q (.bl (okW kvs args rows)) H'
def PCand (K : PySem.W.Frag) (H : Hp) (c a p : V) (n : Nat) (args : List (List PyData)) (cs : List (List (List PyData))) (plan : List Nat) : Prop := Dp K H c (.list (cs.map (clD n))) ∧ Dp K H a (.list (args.map PyData.tuple)) ∧ Dp K H p (.tuple ((natsI plan).map PyData.int)) ∧ n ≤ 4 ∧ OkRows n args ∧ (∀ rows ∈ cs, OkRows n rows) ∧ cs.length ≤ 12 ∧ plan.length ≤ 10
def sp_candidates (K : PySem.W.Frag) : Sp := fun vs H Q _ => ∃ (c a p : V) (n : Nat) (args : List (List PyData)) (cs : List (List (List PyData))) (plan : List Nat), vs = [c, a, p] ∧ PCand K H c a p n args cs plan ∧ ∀ r H', Same H H' → H r = Option.none → H' r = some (.lst ((natsI (resC plan n args cs cs.length)).map V.int)) → Q (.ref r) H'
def sp__law_due (K : PySem.W.Frag) : Sp := sp_candidates K
def sp_best_plan (K : PySem.W.Frag) : Sp := fun vs H Q _ => ∃ (c : V) (n : Nat) (cs : List (List (List PyData))), vs = [c] ∧ Dp K H c (.list (cs.map (clD n))) ∧ n ≤ 4 ∧ (∀ rows ∈ cs, OkRows n rows) ∧ cs.length ≤ 12 ∧ ∀ r H', Same H H' → SqT K H' r ((natsI (useC cs n)).map V.int) → Q (.ref r) H'
def sp__law_leaf (K : PySem.W.Frag) : Sp := fun vs H Q _ => ∃ (s l : Addr) (wd : Int), vs = [.ref s, .int wd] ∧ Stm H s l ∧ 0 < wd ∧ wd ≤ 1000 ∧ ∀ v d H', Nd wd d → arN d = 0 → But s H H' → Stm H' s l → Im K (fun b => H b = Option.none) H' v d → Q v H'
def sp__law_term (K : PySem.W.Frag) : Sp := fun vs H Q _ => ∃ (s l : Addr) (n wd : Int), vs = [.ref s, .int n, .int wd] ∧ Stm H s l ∧ 0 < n ∧ n ≤ 1000 ∧ 0 < wd ∧ wd ≤ 1000 ∧ ∀ v ds H', Term wd ds → (ds.length : Int) ≤ n → But s H H' → Stm H' s l → Im K (fun b => H b = Option.none) H' v (.tuple ds) → Q v H'
def sp__law_clauses (K : PySem.W.Frag) : Sp := fun vs H Q _ => ∃ (s l : Addr) (n m : Nat), vs = [.ref s, .int (n : Int), .int (m : Int)] ∧ Stm H s l ∧ n ≤ 4 ∧ m ≤ 12 ∧ ∀ (v : V) (cs : List (List (List PyData))) (H' : Hp), (∀ rows ∈ cs, OkRows n rows) → cs.length = m → But s H H' → Stm H' s l → Im K (fun b => H b = Option.none) H' v (.list (cs.map (clD n))) → Q v H'
def sp_law (K : PySem.W.Frag) : Sp := fun vs H Q _ => ∃ (a : Addr) (ns : List Int), vs = [.ref a] ∧ SqL K H a (ns.map V.int) ∧ ns.length ≤ 63 ∧ ∀ H', Q (.bl true) H'
/-! ### tables of nested terms -/
structure TK (K : PySem.W.Frag) (H : Hp) (d : Addr) (U : List Int) (T : Int → Option NT) (kvs : List (Key × V)) : Prop where
  at_ : H d = some (.dK kvs)
  vals : ∀ n, (T n = none ∧ valV kvs (Sum.inl n : Key) = none) ∨ ∃ t v, T n = some t ∧ valV kvs (Sum.inl n : Key) = some v ∧ Dp K H v (nD t)
  size : kvs.length + (U.filter fun n => (T n).isNone).length ≤ U.length
theorem TK.mono {K : PySem.W.Frag} {H H' : Hp} {d : Addr} {U : List Int} {T : Int → Option NT} {kvs : List (Key × V)} {D : Nat} (h : TK K H d U T kvs) (g : TG U D T) (e : H' d = some (.dK kvs)) (f : ∀ b xs, SqT K H b xs → SqT K H' b xs) : TK K H' d U T kvs :=
  ⟨e, fun n => (h.vals n).imp id fun ⟨t, v, e1, e2, dv⟩ => ⟨t, v, e1, e2, dp_map f _ _ (nD_lay (g.gt n t e1).dl).2.2 dv⟩, h.size⟩
theorem TK.same {K : PySem.W.Frag} {H H' : Hp} {d : Addr} {U : List Int} {T : Int → Option NT} {kvs : List (Key × V)} (h : TK K H d U T kvs) (s : Same H H') : TK K H' d U T kvs :=
  ⟨s _ _ h.at_, fun n => (h.vals n).imp id fun ⟨t, v, e1, e2, dv⟩ => ⟨t, v, e1, e2, dp_same s _ _ dv⟩, h.size⟩
theorem filter_less {U : List Int} {f g : Int → Bool} (h : ∀ x ∈ U, g x = true → f x = true) {n : Int} (hn : n ∈ U) (h1 : f n = true) (h2 : g n = false) : (U.filter g).length + 1 ≤ (U.filter f).length := by
  induction U with
  | nil => cases hn
  | cons a U ih =>
    have le : (U.filter g).length ≤ (U.filter f).length := by
      clear ih hn
      have h' : ∀ x ∈ U, g x = true → f x = true := fun x hx => h x (.tail _ hx)
      clear h
      induction U with
      | nil => exact Nat.le_refl _
      | cons b U ih =>
        have := ih fun x hx => h' x (.tail _ hx)
        have hb := h' b (.head _)
        rw [List.filter_cons, List.filter_cons]
        cases gb : g b with
        | true => rw [if_pos rfl, if_pos (hb gb), List.length_cons, List.length_cons]; omega
        | false =>
          rw [if_neg Bool.false_ne_true]
          split
          · rw [List.length_cons]; omega
          · exact this
    rw [List.filter_cons, List.filter_cons]
    rcases List.mem_cons.mp hn with e | hn
    · subst e
      rw [if_pos h1, if_neg (by rw [h2]; exact Bool.false_ne_true), List.length_cons]
      omega
    · have r := ih (fun x hx => h x (.tail _ hx)) hn
      have ha := h a (.head _)
      cases ga : g a with
      | true => rw [if_pos rfl, if_pos (ha ga), List.length_cons, List.length_cons]; omega
      | false =>
        rw [if_neg Bool.false_ne_true]
        split
        · rw [List.length_cons]; omega
        · exact r
theorem TK.put {K : PySem.W.Frag} {H : Hp} {d : Addr} {U : List Int} {T : Int → Option NT} {kvs : List (Key × V)} {D : Nat} {n : Int} {t : NT} {v : V} (h : TK K H d U T kvs) (g : TG U D T) (hn : T n = none) (hU : n ∈ U) (dv : Dp K H v (nD t)) (dl : DL D t) :
    TK K (upd H d (.dK (putK kvs (Sum.inl n : Key) v))) d U (setT T n t) (putK kvs (Sum.inl n : Key) v) := by
  have nt : notTup H d := .inr (.inl ⟨_, h.at_⟩)
  have vn : valV kvs (Sum.inl n : Key) = none := by
    rcases h.vals n with ⟨_, e⟩ | ⟨t, v, e, _⟩
    · exact e
    · rw [hn] at e; cases e
  refine ⟨upd_same, fun m => ?_, ?_⟩
  · rw [valV_put]
    unfold setT
    by_cases e : m = n
    · subst e
      rw [if_pos rfl, if_pos rfl]
      exact .inr ⟨t, v, rfl, rfl, dp_put nt _ _ (nD_lay dl).2.2 dv⟩
    · rw [if_neg e, if_neg (fun z => e (Sum.inl.inj z))]
      exact (h.vals m).imp id fun ⟨t, v, e1, e2, dv⟩ => ⟨t, v, e1, e2, dp_put nt _ _ (nD_lay (g.gt m t e1).dl).2.2 dv⟩
  · rw [putK_new _ vn, List.length_append, List.length_singleton]
    have := filter_less (U := U) (f := fun m => (T m).isNone) (g := fun m => (setT T n t m).isNone) (fun x _ hx => by
      simp only [setT] at hx
      split at hx
      · cases hx
      · exact hx) hU (by simp [hn]) (by simp [setT])
    have := h.size
    omega
def apD : PyData → PyData
  | .tuple [a, .int n] => .tuple [a, .int (n + 100)]
  | d => d
theorem ap_nd {d : PyData} (h : NdA d) : NdA (apD d) ∧ arN (apD d) = arN d ∧ isVarN (apD d) = isVarN d ∧ (isVarN d = false → apD d = d) := by
  obtain ⟨wd, n⟩ := h
  cases n with
  | v n a b => exact ⟨⟨n + 101, .v _ (by omega) (by omega)⟩, rfl, rfl, fun z => by cases z⟩
  | i n a b => exact ⟨⟨wd, .i n a b⟩, rfl, rfl, fun _ => rfl⟩
  | f x n a b c => exact ⟨⟨wd, .f x n a b c⟩, rfl, rfl, fun _ => rfl⟩
theorem ap_cls : ∀ (ds : List PyData) (m : Nat), (∀ d ∈ ds, NdA d) → Cls m ds → Cls m (ds.map apD)
  | [], _, _, h => h
  | d :: r, m, nd, h => ⟨h.1, by rw [(ap_nd (nd d (.head _))).2.1]; exact ap_cls r _ (fun x hx => nd x (.tail _ hx)) h.2⟩
/-- no conflict of two rows that can be unified -/
theorem cmp_conf {a b : NT} {x y : List PyData} (h : Cmp a b) (hx : fl a = x) (hy : fl b = y) (nx : ∀ d ∈ x, NdA d) : conf (headN x) (headN y) = false := by
  subst hx hy
  unfold conf
  cases h with
  | vl n t => rw [fl]; rfl
  | vr t n =>
    rw [show fl (.v n) = [.tuple [.str "v", .int n]] by rw [fl]]
    show (_ && !true && _) = false
    rw [Bool.not_true, Bool.and_false, Bool.false_and]
  | ii z =>
    rw [fl]
    show (!false && !false && !PyData.eqv (.int z) (.int z)) = false
    simp [PyData.eqv]
  | ss x as bs hl _ =>
    rw [fl, fl, hl]
    show (_ && _ && !PyData.eqv (.tuple [.str "f", .str x, .int (bs.length : Int)]) (.tuple [.str "f", .str x, .int (bs.length : Int)])) = false
    simp [PyData.eqv, PyData.eqvAll]
def varsF (ds : List PyData) : List Int := ds.filterMap fun d => if isVarN d = true then some (numN d) else none
mutual
theorem vars_in : ∀ (t : NT) (n : Int), vIn n t → n ∈ varsF (fl t)
  | .i z, n, h => absurd h vIn_i
  | .v m, n, h => by
    rw [vIn_v] at h
    subst h
    rw [fl]
    exact List.mem_filterMap.mpr ⟨_, .head _, rfl⟩
  | .s x as, n, h => by
    obtain ⟨a, ha, h⟩ := vIn_s.mp h
    rw [fl]
    obtain ⟨d, hd, e⟩ := List.mem_filterMap.mp (vars_ins as a ha n h)
    exact List.mem_filterMap.mpr ⟨d, .tail _ hd, e⟩
theorem vars_ins : ∀ (as : List NT) (a : NT), a ∈ as → ∀ n, vIn n a → n ∈ varsF (fls as)
  | [], a, h, _, _ => by cases h
  | t :: r, a, h, n, hn => by
    rw [fls]
    unfold varsF
    rw [List.filterMap_append]
    rcases List.mem_cons.mp h with e | h
    · rw [e] at hn
      exact List.mem_append_left _ (vars_in t n hn)
    · exact List.mem_append_right _ (vars_ins r a h n hn)
end
theorem rows_nst : ∀ (rows : List (List PyData)), (∀ r ∈ rows, OkRow r) → ∃ as : List NT, as.length = rows.length ∧ fls as = rows.flatten ∧ ∀ (k : Nat) (a : NT) (r : List PyData), as[k]? = some a → rows[k]? = some r → fl a = r
  | [], _ => ⟨[], rfl, by rw [fls]; rfl, fun k a r h _ => by simp at h⟩
  | r :: rows, h => by
    obtain ⟨as, l, e, f⟩ := rows_nst rows fun x hx => h x (.tail _ hx)
    obtain ⟨t, ht⟩ := nst_one (h r (.head _)).cl (h r (.head _)).nd
    refine ⟨t :: as, by rw [List.length_cons, List.length_cons, l], by rw [fls, ht, e]; rfl, fun k a q h1 h2 => ?_⟩
    cases k with
    | zero => simp at h1 h2; rw [← h1, ← h2]; exact ht
    | succ k => exact f k a q (by simpa using h1) (by simpa using h2)
theorem okP_less {plan : List Nat} {w n : Nat} {args rows : List (List PyData)} (h : okP (plan ++ [w]) n args rows = true) : okP plan n args rows = true := by
  unfold okP at *
  rw [List.all_append, Bool.and_eq_true] at h
  exact h.1
theorem clD_noL {n : Nat} {rows : List (List PyData)} (hn : n ≤ 8) (h : OkRows n rows) : noL (clD n rows) = true := by
  have a : ∀ d ∈ hdD n :: rows.flatten, NdA d := fun d hd => by
    rcases List.mem_cons.mp hd with rfl | hd
    · exact hd_nd hn
    · obtain ⟨row, hr, hd⟩ := List.mem_flatten.mp hd
      exact (h.row row hr).nd d hd
  unfold clD
  rw [noL, noLA, noLA, noLA, tup_noL a, tup_noL (ds := [trD]) fun d hd => by rw [List.mem_singleton.mp hd]; exact tr_nd]
  rfl
theorem ints_noL (ns : List Int) : noLA (ns.map PyData.int) = true := by
  induction ns with
  | nil => rfl
  | cons n r ih => rw [List.map_cons, noLA, ih]; rfl
theorem stm_nt {H : Hp} {s l : Addr} (h : Stm H s l) : notTup H s := by
  obtain ⟨_, _, _, _, w, _⟩ := h.ex
  exact .inl ⟨_, w⟩
theorem ap_row {r : List PyData} (h : OkRow r) : OkRow (r.map apD) := by
  refine ⟨ap_cls _ _ h.nd h.cl, fun d hd => ?_, by rw [List.length_map]; exact h.len⟩
  obtain ⟨x, hx, rfl⟩ := List.mem_map.mp hd
  exact (ap_nd (h.nd x hx)).1
theorem conf_ap {d e : PyData} (hd : NdA d) : conf e (apD d) = conf e d := by
  obtain ⟨_, _, h3, h4⟩ := ap_nd hd
  unfold conf
  rw [h3]
  cases h : isVarN d with
  | true => simp
  | false => rw [h4 h]
theorem varsF_len (ds : List PyData) : (varsF ds).length ≤ ds.length := List.length_filterMap_le _ _
theorem varsF_row {r : List PyData} (h : OkRow r) : (varsF r).length ≤ 3 := by
  obtain ⟨d, t, rfl, _, nd⟩ := row_head h
  unfold varsF
  rw [List.filterMap_cons]
  have hl := h.len
  rw [List.length_cons] at hl
  by_cases v : isVarN d = true
  · have hc := h.cl.2
    rw [var_arN v] at hc
    have e : t = [] := by
      cases t with
      | nil => rfl
      | cons a b => exact absurd hc.1 (by decide)
    subst e
    simp [v]
  · have := List.length_filterMap_le (fun d => if isVarN d = true then some (numN d) else none) t
    have e : (if isVarN d = true then some (numN d) else none) = none := if_neg v
    rw [e]
    show (List.filterMap _ t).length ≤ 3
    omega
theorem varsF_rows : ∀ {rows : List (List PyData)}, (∀ r ∈ rows, OkRow r) → (varsF rows.flatten).length ≤ 3 * rows.length
  | [], _ => Nat.le_refl _
  | r :: rows, h => by
    have := varsF_rows fun x hx => h x (.tail _ hx)
    have := varsF_row (h r (.head _))
    rw [List.flatten_cons]
    unfold varsF at *
    rw [List.filterMap_append, List.length_append, List.length_cons]
    omega
theorem fl_head {n : Nat} {as : List NT} {rows : List (List PyData)} (h1 : as.length = n) (h2 : fls as = rows.flatten) : fl (.s "p" as) = hdD n :: rows.flatten := by rw [fl, h2, h1]; rfl
theorem dl_head {as : List NT} {rows : List (List PyData)} {n : Nat} (h : OkRows n rows) (hn : n ≤ 8) (h1 : as.length = rows.length) (h3 : ∀ (k : Nat) (a : NT) (r : List PyData), as[k]? = some a → rows[k]? = some r → fl a = r) : (∀ a ∈ as, DL 3 a) ∧ DL 4 (.s "p" as) := by
  have key : ∀ a ∈ as, DL 3 a := fun a ha => by
    obtain ⟨k, hk⟩ := List.getElem?_of_mem ha
    have hl := (List.getElem?_eq_some_iff.mp hk).1
    have hr := List.getElem?_eq_getElem (show k < rows.length by omega)
    have e := h3 k a _ hk hr
    have ok := h.row _ (List.getElem_mem (show k < rows.length by omega))
    exact dl_of 3 a (by rw [e]; exact ok.len) (by rw [e]; exact ok.nd)
  exact ⟨key, .s 3 "p" as (by decide +kernel) (by have := h.len; omega) key⟩
theorem cmp_cand {n w : Nat} {plan : List Nat} {args : List (List PyData)} {cs : List (List (List PyData))} {i : Nat} {rows : List (List PyData)} {as bs : List NT} (hi : cs[i]? = some rows) (oka : OkRows n args) (okr : OkRows n rows)
    (ha : ∀ (k : Nat) (a : NT) (r : List PyData), as[k]? = some a → rows[k]? = some r → fl a = r) (hb : ∀ (k : Nat) (a : NT) (r : List PyData), bs[k]? = some a → (args.map (List.map apD))[k]? = some r → fl a = r)
    (la : as.length = n) (lb : bs.length = n) (h : Cmp (.s "p" as) (.s "p" bs)) : i ∈ resC plan n args cs cs.length := by
  unfold resC
  refine List.mem_filter.mpr ⟨List.mem_range.mpr (List.getElem?_eq_some_iff.mp hi).1, ?_⟩
  rw [List.getD_eq_getElem?_getD, hi]
  show okP plan n args rows = true
  unfold okP
  refine List.all_eq_true.mpr fun j _ => ?_
  rcases Nat.lt_or_ge j n with c | c
  · have e1 := List.getElem?_eq_getElem (show j < as.length by omega)
    have e2 := List.getElem?_eq_getElem (show j < bs.length by omega)
    have e3 := List.getElem?_eq_getElem (show j < rows.length by have := okr.len; omega)
    have e4 := List.getElem?_eq_getElem (show j < args.length by have := oka.len; omega)
    have f1 := ha j _ _ e1 e3
    have f2 := hb j _ _ e2 (by rw [List.getElem?_map, e4]; rfl)
    have cm : Cmp as[j] bs[j] := by
      cases h with
      | ss _ _ _ _ g => exact g j _ _ e1 e2
    have o3 := okr.row _ (List.getElem_mem (show j < rows.length by have := okr.len; omega))
    have o4 := oka.row _ (List.getElem_mem (show j < args.length by have := oka.len; omega))
    have cf := cmp_conf cm f1 f2 o3.nd
    obtain ⟨d, r, e5, h5, nd5⟩ := row_head o4
    rw [e5, List.map_cons] at cf
    have jr : j < rows.length := by have := okr.len; omega
    have cf2 : conf (headN rows[j]) (apD d) = false := cf
    rw [conf_ap nd5] at cf2
    rw [rowAt_of e4, rowAt_of e3, h5]
    obtain ⟨d2, _, _, h6, nd6⟩ := row_head o3
    rw [h6] at cf2 ⊢
    rw [conf_comm nd5 nd6, cf2]
    simp
  · rw [decide_eq_true c]
    rfl
/-! ### the promises of nested unification -/
def sp__law_nestN (K : PySem.W.Frag) (k : Nat) : Sp := fun vs H Q _ => ∃ (x : V) (ds rest : List PyData) (i m : Nat) (t : NT), vs = [x, .int (i : Int)] ∧ Dp K H x (.tuple ds) ∧ (∀ d ∈ ds, NdA d) ∧ ds.drop i = fl t ++ rest ∧ Cls (m + 1) (ds.drop i) ∧ 0 < k ∧ DL (k - 1) t ∧ ∀ v H', Same H H' → Dp K H' v (nD t) → Q v H'
def sp__law_nest (K : PySem.W.Frag) : Sp := sp__law_nestN K 5
def sp__law_walk (K : PySem.W.Frag) : Sp := fun vs H Q _ => ∃ (d : Addr) (x : V) (t : NT) (U : List Int) (T : Int → Option NT) (kvs : List (Key × V)), vs = [.ref d, x] ∧ TK K H d U T kvs ∧ Dp K H x (nD t) ∧ ∀ v, Dp K H v (nD (wkN T 1000 t)) → Q v H
def sp__law_occursN (K : PySem.W.Frag) (k : Nat) : Sp := fun vs H Q _ => ∃ (d : Addr) (x : V) (n : Int) (t : NT) (U : List Int) (T : Int → Option NT) (kvs : List (Key × V)) (D : Nat), vs = [.ref d, .int n, x] ∧ TK K H d U T kvs ∧ TG U D T ∧ Dp K H x (nD t) ∧ GT U D t ∧ 0 < k ∧ HL T (k - 1) t ∧ T n = none ∧ k ≤ 500 ∧ ∀ b H', Same H H' → (b = false → ¬ Oc T n t) → Q (.bl b) H'
def sp__law_occurs (K : PySem.W.Frag) : Sp := sp__law_occursN K 100
def sp__law_unifyN (K : PySem.W.Frag) (k : Nat) : Sp := fun vs H Q _ => ∃ (d : Addr) (x y : V) (l r : NT) (U : List Int) (T : Int → Option NT) (kvs : List (Key × V)), vs = [.ref d, x, y] ∧ TK K H d U T kvs ∧ TG U 3 T ∧ U.length ≤ 24 ∧ Dp K H x (nD l) ∧ Dp K H y (nD r) ∧ GT U 4 l ∧ GT U 4 r ∧ (∀ n, l = .v n → GT U 3 r) ∧ (∀ n, r = .v n → GT U 3 l) ∧
  0 < k ∧ ((∀ n, wkN T 1000 l ≠ .v n) → 1 < k ∧ ∀ T', leT T T' → TG U 3 T' → HL T' (k - 2) l) ∧ ∀ b T' kvs' H', leT T T' → TG U 3 T' → TK K H' d U T' kvs' → (b = true → Cmp l r) → But d H H' → Q (.bl b) H'
def sp__law_unify (K : PySem.W.Frag) : Sp := sp__law_unifyN K 102
def sp__law_apart (K : PySem.W.Frag) : Sp := fun vs H Q _ => ∃ (x : V) (d : PyData), vs = [x] ∧ Dp K H x d ∧ NdA d ∧ ∀ v H', Same H H' → Dp K H' v (apD d) → Q v H'

local macro_rules | `(tactic| walk_at "lits") => `(tactic| repeat' (first | exact lit_int | exact lit_str | exact lit_bl | exact lit_non | exact litA_nil | refine litA_cons ?_ ?_ | refine lit_tup ?_ (by decide) | refine lit_lst ?_ (by decide) | refine lit_neg ?_ | refine lit_sub ?_ ?_ | refine lit_pow ?_ ?_ ⟨by decide, by decide, by decide⟩ | refine lit_mulS ?_ ?_ ⟨by decide, by decide, by decide⟩))
local macro_rules | `(tactic| walk_at "wp") => `(tactic| simp only [wipe, List.map_cons, List.map_nil, List.set_cons_succ, List.set_cons_zero])
local macro_rules | `(tactic| walk_at "gn") => `(tactic| with_reducible first | refine g_n0 ?_ | refine g_n1 ?_ | refine g_n2 ?_ | refine g_n3 ?_ | refine g_n4 ?_ | refine g_n5 ?_ | refine g_n6 ?_ | refine g_n7 ?_ | refine g_n8 ?_ | refine g_n9 ?_ | refine g_n10 ?_ | refine g_n11 ?_ | refine g_n12 ?_ | refine g_n13 ?_ | refine g_n14 ?_ | refine g_n15 ?_ | refine g_n16 ?_ | refine g_n17 ?_ | refine g_n18 ?_ | refine g_n19 ?_ | refine g_n20 ?_ | refine g_n21 ?_ | refine g_n22 ?_ | refine g_n23 ?_ | refine g_n24 ?_ | refine g_n25 ?_)
local macro_rules | `(tactic| walk_at "go") => `(tactic| repeat with_reducible first | refine g_var (by with_unfolding_all exact rfl) ?_ | refine g_c ?_ | refine g_cons ?_ | refine g_nil ?_ | refine g_seq ?_ | refine g_asg ?_ | refine g_op ?_ | refine g_i0 ?_ | refine g_call ?_ | refine g_cb ?_ | refine g_test ?_ | refine g_b ?_ | refine g_bl ?_ | refine g_in ?_ | refine g_ifS ?_ | refine g_next ?_ | refine nxp ?_ | refine g_ret ?_ | refine g_rt ?_ | refine g_bk ?_ | refine g_ct ?_ | refine g_drop ?_ | refine g_eqi ?_ | refine g_nei ?_ | refine g_eqs ?_ | refine g_nes ?_ | refine g_not ?_ | refine g_and ?_ | refine g_or ?_ | refine g_andV ?_ | refine g_orV ?_ | refine g_notV ?_ | refine g_if ?_ | refine g_brk ?_ | refine g_cont ?_ | refine g_retN ?_ | refine g_par ?_ | refine g_two ?_ | refine g_aug (by with_unfolding_all exact rfl) ?_ | refine g_callN ?_ | refine g_kw ?_ | refine g_tup ?_ | refine g_lst ?_ | refine g_sl ?_ | refine g_np ?_ | refine g_part ?_ | refine g_bm ?_ | refine g_bm0 ?_ | refine g_un ?_ | refine g_iu ?_ | refine g_sub ?_ | refine g_yes ?_ | refine iteT ?_ | refine iteF ?_ | refine iteNf ?_ | refine iteNt ?_ | refine iteSs ?_ | refine iteSn ?_ | refine g_for ?_ | refine g_iL ?_ | refine g_iT ?_ | refine g_iR1 ?_ | refine g_iR2 ?_ | refine g_iZ ?_ | refine g_gcons ?_ | refine g_gnil ?_ | refine g_lc ?_ | refine g_fld ?_ | refine g_sfld ?_ | refine g_afld ?_ | refine g_meth ?_ | refine g_make ?_ | refine g_revT ?_ | refine g_revL ?_ | refine g_din ?_ | refine g_dnin ?_ | refine g_dget ?_ | refine g_dget2 ?_ | refine g_dpop2 ?_ | refine g_dput ?_ | refine g_rev ?_ | refine g_dnew ?_ | refine g_callS ?_ | walk_at "gn")
local macro_rules | `(tactic| walk_at "gs") => `(tactic| repeat with_reducible first | refine g_var (by with_unfolding_all exact rfl) ?_ | refine g_c ?_ | refine g_cons ?_ | refine g_nil ?_ | refine g_seq ?_ | refine g_asg ?_ | refine g_op ?_ | refine g_i0 ?_ | refine g_call ?_ | refine g_cb ?_ | refine g_test ?_ | refine g_b ?_ | refine g_bl ?_ | refine g_in ?_ | refine g_next ?_ | refine nxp ?_ | refine g_ret ?_ | refine g_rt ?_ | refine g_bk ?_ | refine g_ct ?_ | refine g_drop ?_ | refine g_eqi ?_ | refine g_nei ?_ | refine g_eqs ?_ | refine g_nes ?_ | refine g_not ?_ | refine g_and ?_ | refine g_or ?_ | refine g_andV ?_ | refine g_orV ?_ | refine g_notV ?_ | refine g_if ?_ | refine g_brk ?_ | refine g_cont ?_ | refine g_retN ?_ | refine g_par ?_ | refine g_two ?_ | refine g_aug (by with_unfolding_all exact rfl) ?_ | refine g_callN ?_ | refine g_kw ?_ | refine g_tup ?_ | refine g_lst ?_ | refine g_sl ?_ | refine g_np ?_ | refine g_part ?_ | refine g_bm ?_ | refine g_bm0 ?_ | refine g_un ?_ | refine g_iu ?_ | refine g_sub ?_ | refine g_yes ?_ | refine iteT ?_ | refine iteF ?_ | refine iteNf ?_ | refine iteNt ?_ | refine iteSs ?_ | refine iteSn ?_ | refine g_for ?_ | refine g_iL ?_ | refine g_iT ?_ | refine g_iR1 ?_ | refine g_iR2 ?_ | refine g_iZ ?_ | refine g_gcons ?_ | refine g_gnil ?_ | refine g_lc ?_ | refine g_fld ?_ | refine g_sfld ?_ | refine g_afld ?_ | refine g_meth ?_ | refine g_make ?_ | refine g_revT ?_ | refine g_revL ?_ | refine g_din ?_ | refine g_dnin ?_ | refine g_dget ?_ | refine g_dget2 ?_ | refine g_dpop2 ?_ | refine g_dput ?_ | refine g_rev ?_ | refine g_dnew ?_ | refine g_callS ?_ | walk_at "gn")
section
variable {P : Program} {w : World} {K : PySem.W.Frag} {mg : Str → Option Value} {base : Heap}
theorem ok_is_variable {f : Addr} {fd : FuncData} (F : Fun K "is_variable" "is_variable" s_is_variable f fd) (E : Bi K mg)  : FnOk P w K mg base CX0 1 f fd ["node"] (sp_is_variable K) := by
  refine F.ok sc_is_variable (fun vs H Q E h => ?_) (fun cdv A outer s H vs Q E' hr h => ?_)
  · obtain ⟨x, d, rfl, _⟩ := h
    rfl
  · obtain ⟨x, d, rfl, hd, ⟨wd, nd⟩, q⟩ := h
    refine ⟨_, (pss_one (ps_ret (pe_and (pe_callB (show CallR _ (.builtin "isinstance") (rIsi K) from call_isi) (by rfl) E.b_isinstance (by decide +kernel) (pa_cons (pv 0) (pa_cons (pe_ty "tuple" (by rfl) E.b_tuple (by decide +kernel)) pa_nil))) (pe_one (pe_cmpR op_eq (pe_ix (show IxR _ (rIxT K) from ix_tup) (pv 0) pe_int (fun _ _ => rfl)) pe_str (nomark _)))))), ?_⟩
    refine ⟨x, rfl, _, _, _, _, _, rfl, .ty _, tyx_of hd, kit_ty (kitT _), _, rfl, ?_⟩
    cases nd with
    | v n h1 h2 =>
      cases hd with
      | tup hs ha =>
        obtain ⟨v, hv, hdv⟩ := DpAll.get (i := 0) ha rfl
        cases hdv
        refine iteT ⟨_, rfl, _, _, _, _, rfl, rfl, hs, atI_nat (j := 0) hv, rfl, ?_⟩
        rw [decide_eq_true rfl]
        exact q
    | i n h1 h2 => exact iteF q
    | f y n h1 h2 h3 =>
      cases hd with
      | tup hs ha =>
        obtain ⟨v, hv, hdv⟩ := DpAll.get (i := 0) ha rfl
        cases hdv
        refine iteT ⟨_, rfl, _, _, _, _, rfl, rfl, hs, atI_nat (j := 0) hv, rfl, ?_⟩
        rw [show decide (V.str (Str.ofString "f") = V.str (Str.ofString "v")) = false by decide +kernel]
        exact q

theorem ok_is_symbol {f : Addr} {fd : FuncData} (F : Fun K "is_symbol" "is_symbol" s_is_symbol f fd) (E : Bi K mg)  : FnOk P w K mg base CX0 1 f fd ["node"] (sp_is_symbol K) := by
  refine F.ok sc_is_symbol (fun vs H Q E h => ?_) (fun cdv A outer s H vs Q E' hr h => ?_)
  · obtain ⟨x, d, rfl, _⟩ := h
    rfl
  · obtain ⟨x, d, rfl, hd, ⟨wd, nd⟩, q⟩ := h
    refine ⟨_, (pss_one (ps_ret (pe_and (pe_callB (show CallR _ (.builtin "isinstance") (rIsi K) from call_isi) (by rfl) E.b_isinstance (by decide +kernel) (pa_cons (pv 0) (pa_cons (pe_ty "tuple" (by rfl) E.b_tuple (by decide +kernel)) pa_nil))) (pe_one (pe_cmpR op_eq (pe_ix (show IxR _ (rIxT K) from ix_tup) (pv 0) pe_int (fun _ _ => rfl)) pe_str (nomark _)))))), ?_⟩
    refine ⟨x, rfl, _, _, _, _, _, rfl, .ty _, tyx_of hd, kit_ty (kitT _), _, rfl, ?_⟩
    cases nd with
    | v n h1 h2 =>
      cases hd with
      | tup hs ha =>
        obtain ⟨v, hv, hdv⟩ := DpAll.get (i := 0) ha rfl
        cases hdv
        refine iteT ⟨_, rfl, _, _, _, _, rfl, rfl, hs, atI_nat (j := 0) hv, rfl, ?_⟩
        rw [show decide (V.str (Str.ofString "v") = V.str (Str.ofString "f")) = false by decide +kernel]
        exact q
    | i n h1 h2 => exact iteF q
    | f y n h1 h2 h3 =>
      cases hd with
      | tup hs ha =>
        obtain ⟨v, hv, hdv⟩ := DpAll.get (i := 0) ha rfl
        cases hdv
        refine iteT ⟨_, rfl, _, _, _, _, rfl, rfl, hs, atI_nat (j := 0) hv, rfl, ?_⟩
        rw [decide_eq_true rfl]
        exact q

theorem ok_conflict {f : Addr} {fd : FuncData} (F : Fun K "conflict" "conflict" s_conflict f fd) (E : Bi K mg)  : FnOk P w K mg base CX0 1 f fd ["one", "other"] (sp_conflict K) := by
  refine F.ok sc_conflict (fun vs H Q E h => ?_) (fun cdv A outer s H vs Q E' hr h => ?_)
  · obtain ⟨x, y, d, e, rfl, _⟩ := h
    rfl
  · obtain ⟨x, y, d, e, rfl, hx, hy, hn, hm, q⟩ := h
    refine ⟨_, (pss_one (ps_ret (pe_and (pe_cmpR op_notN (pv 0) pe_non (nomark _)) (pe_and (pe_cmpR op_notN (pv 1) pe_non (nomark _)) (pe_one (pe_cmpR (show OpR _ (compareOp .NotEq) (rNeD K) from op_neD hr.units) (pv 0) (pv 1) (nomark _))))))), ?_⟩
    refine ⟨_, rfl, rfl, _, rfl, ?_⟩
    rcases key_form hn hx with ⟨e1, rfl⟩ | ⟨e1, ne1, dx⟩
    · rw [decide_eq_true rfl]
      refine iteF ?_
      rw [show conf d e = false by unfold conf; rw [e1]; rfl] at q
      exact q
    · rw [decide_eq_false ne1]
      refine iteT ?_
      refine ⟨_, rfl, rfl, _, rfl, ?_⟩
      rcases key_form hm hy with ⟨e2, rfl⟩ | ⟨e2, ne2, dy⟩
      · rw [decide_eq_true rfl]
        refine iteF ?_
        rw [show conf d e = false by unfold conf; rw [e1, e2]; rfl] at q
        exact q
      · rw [decide_eq_false ne2]
        refine iteT ?_
        rw [show conf d e = !PyData.eqv d e by unfold conf; rw [e1, e2]; simp] at q
        exact ⟨_, rfl, _, rfl, d, e, dx, dy, nd_shaped hn, nd_shaped hm, q⟩

theorem ok__law_stream {f : Addr} {fd : FuncData} (F : Fun K "_law_stream" "_law_stream" s__law_stream f fd) (E : Bi K mg)  : FnOk P w K mg base CX0 1 f fd ["script"] (sp__law_stream K) := by
  refine F.ok sc__law_stream (fun vs H Q E h => ?_) (fun cdv A outer s H vs Q E' hr h => ?_)
  · obtain ⟨a, ns, rfl, _⟩ := h
    rfl
  · obtain ⟨a, ns, rfl, hS, hl, q⟩ := h
    refine ⟨_, (pss_cons (ps_set (i := 1) sc__law_stream.nd rfl (Or.inl rfl) pe_int)
      (pss_cons (ps_for PassesOwn.never rfl (pi_list (pv 0)) (pg_name (i := 2) sc__law_stream.nd rfl (Or.inl rfl)) (pss_one (ps_set (i := 1) sc__law_stream.nd rfl (Or.inl rfl) (pe_op op_mod (pe_callTy call_int1 (by rfl) E.b_int (by decide +kernel) (pa_cons (pe_op op_add (pe_op op_add (pe_op op_mul (pv 1) pe_int) (pe_op op_mod (pe_callTy call_int1 (by rfl) E.b_int (by decide +kernel) (pa_cons (pv 2) pa_nil)) pe_int)) pe_int) pa_nil)) pe_int))))
      (pss_one (ps_ret (pe_lst (pa_cons (pe_callTy call_list_of (by rfl) E.b_list (by decide +kernel) (pa_cons (pv 0) pa_nil)) (pa_cons pe_int (pa_cons pe_int (pa_cons (pv 1) pa_nil))))))))), ?_⟩
    refine ⟨_, rfl, a, rfl, ⟨_, hS⟩, for_list (K := K) (a := a) (xs := ns.map V.int) (fun i σ H1 => ∃ (m : Int) (v : Option V), σ = [some (.ref a), some (.int m), v] ∧ H1 = H ∧ 0 ≤ m ∧ m < 2147483647)
      ⟨17, none, rfl, rfl, by decide, by decide⟩ (fun i σ H1 _ ⟨_, _, _, e, _⟩ => by rw [e]; exact hS) ?_ ?_⟩
    · rintro i y σ H1 hi ⟨m, v, rfl, rfl, h0, h1⟩
      obtain ⟨z, rfl⟩ : ∃ z, y = V.int z := by
        rw [List.getElem?_map] at hi
        cases e : ns[i]? with
        | none =>
          rw [e] at hi
          cases hi
        | some z =>
          rw [e] at hi
          exact ⟨z, (Option.some.inj hi).symm⟩
      refine ⟨_, rfl, _, _, rfl, rfl, .inr ⟨by decide, by decide⟩, _, rfl, .inl ⟨_, rfl, _, _, rfl, rfl, (by decide : (0 : Int) < 65521), _, _, rfl, rfl, _, _, rfl, rfl, .inl ⟨_, rfl, _, _, rfl, rfl, (by decide : (0 : Int) < 2147483647), ?_⟩⟩⟩
      exact ⟨_, _, rfl, rfl, Int.emod_nonneg _ (by decide), Int.emod_lt_of_pos _ (by decide)⟩
    · rintro σ H1 ⟨m, v, rfl, rfl, h0, h1⟩
      refine ⟨_, rfl, a, _, rfl, .inl hS, fun l hl2 => ⟨_, rfl, (by show 4 ≤ sizeLine; decide), fun p hp => ?_⟩⟩
      have npl : l ≠ p := fun z => by
        rw [← z, upd_same] at hp
        cases hp
      refine q p l _ ((same_upd hl2).free hp) hl2 ((same_upd hl2).trans (same_upd hp)) ⟨0, 0, m, ns, upd_same, ?_, hl, Int.le_refl 0, Int.le_refl 0, h0, h1⟩
      rw [upd_ne npl, upd_same]

theorem ok__law_draw {f : Addr} {fd : FuncData} (F : Fun K "_law_draw" "_law_draw" s__law_draw f fd) (E : Bi K mg)  : FnOk P w K mg base CX0 1 f fd ["stream", "many"] (sp__law_draw K) := by
  refine F.ok sc__law_draw (fun vs H Q E h => ?_) (fun cdv A outer s H vs Q E' hr h => ?_)
  · obtain ⟨s, l, n, rfl, _⟩ := h
    rfl
  · obtain ⟨p, l, n, rfl, hS, hn, hn2, q⟩ := h
    obtain ⟨a, b, m, ns, h1, h2, hlen, ha, hb, hm, hm2⟩ := hS.ex
    have nlp : l ≠ p := fun z => by
      rw [z, h1] at h2
      have h3 := HO.lst.inj (Option.some.inj h2)
      cases ns with
      | nil => cases h3
      | cons x r => cases (List.cons.inj h3).1
    refine ⟨_, (pss_cons (ps_if (pw_and (pt_cmpR op_eq (pe_ix (show IxR _ (rIxL K) from ix_list) (pv 0) pe_int (fun _ _ => rfl)) pe_int (nomark _)) (pw_and1 (pt_cmpR op_lt (pe_ix (show IxR _ (rIxL K) from ix_list) (pv 0) pe_int (fun _ _ => rfl)) (pe_callB (show CallR _ (.builtin "len") (fun xs H Q => ∃ p ys, xs = [V.ref p] ∧ (SqL K H p ys ∨ SqT K H p ys) ∧ Q (V.int ys.length) H) from call_len_seq) (by rfl) E.b_len PySem.boot_len (pa_cons (pe_ix (show IxR _ (rIxL K) from ix_list) (pv 0) pe_int (fun _ _ => rfl)) pa_nil)) (nomark _)))).pt (pss_cons (ps_asg (pe_callB call_abs (by rfl) E.b_abs (by decide +kernel) (pa_cons (pe_callTy call_int1 (by rfl) E.b_int (by decide +kernel) (pa_cons (pe_ix (show IxR _ (rIxL K) from ix_list) (pe_ix (show IxR _ (rIxL K) from ix_list) (pv 0) pe_int (fun _ _ => rfl)) (pe_ix (show IxR _ (rIxL K) from ix_list) (pv 0) pe_int (fun _ _ => rfl)) (fun _ _ => rfl)) pa_nil)) pa_nil)) (pg_sub (pv 0) pe_int set_list))
      (pss_one (ps_asg (pe_op op_add (pe_ix (show IxR _ (rIxL K) from ix_list) (pv 0) pe_int (fun _ _ => rfl)) pe_int) (pg_sub (pv 0) pe_int set_list)))) pss_nil)
      (pss_cons (ps_if (pt_cmpR op_eq (pe_ix (show IxR _ (rIxL K) from ix_list) (pv 0) pe_int (fun _ _ => rfl)) pe_int (nomark _)) (pss_cons (ps_asg (pe_op op_mod (pe_callTy call_int1 (by rfl) E.b_int (by decide +kernel) (pa_cons (pe_op op_add (pe_op op_mul (pe_ix (show IxR _ (rIxL K) from ix_list) (pv 0) pe_int (fun _ _ => rfl)) pe_int) pe_int) pa_nil)) pe_int) (pg_sub (pv 0) pe_int set_list))
      (pss_one (ps_ret (pe_op op_mod (pe_callTy call_int1 (by rfl) E.b_int (by decide +kernel) (pa_cons (pe_op op_fdivW (pe_ix (show IxR _ (rIxL K) from ix_list) (pv 0) pe_int (fun _ _ => rfl)) pe_int) pa_nil)) (pv 1))))) pss_nil)
      (pss_cons (ps_set (i := 2) sc__law_draw.nd rfl (Or.inl rfl) (pe_op op_mod (pe_callTy call_int1 (by rfl) E.b_int (by decide +kernel) (pa_cons (pe_ix (show IxR _ (rIxL K) from ix_list) (pv 0) pe_int (fun _ _ => rfl)) pa_nil)) (pv 1)))
      (pss_cons (ps_asg (pe_op op_fdivW (pe_ix (show IxR _ (rIxL K) from ix_list) (pv 0) pe_int (fun _ _ => rfl)) (pv 1)) (pg_sub (pv 0) pe_int set_list))
      (pss_one (ps_ret (pv 2))))))), ?_⟩
    refine ⟨_, rfl, _, _, _, _, rfl, rfl, SqL.of h1, atI_nat (j := 1) rfl, rfl, _, rfl, ite2 (fun e => ?_) (fun e => ?_)⟩
    · refine ⟨_, rfl, _, _, _, _, rfl, rfl, SqL.of h1, atI_nat (j := 2) rfl, _, rfl, _, _, _, _, rfl, rfl, SqL.of h1, atI_nat (j := 0) rfl, _, _, rfl, .inl (SqL.of h2), _, _, rfl, rfl, _, rfl, ite2 (fun e1 => ?_) (fun e1 => ?_)⟩
      · have e2 : b < (ns.map V.int).length := of_decide_eq_true e1
        rw [List.length_map] at e2
        have hz : (ns.map V.int)[b.toNat]? = some (V.int (ns[b.toNat]'(by omega))) := by
          rw [List.getElem?_map, List.getElem?_eq_getElem (by omega)]
          rfl
        refine ⟨_, rfl, _, _, _, _, rfl, rfl, SqL.of h1, atI_nat (j := 0) rfl, _, rfl, _, _, _, _, rfl, rfl, SqL.of h1, atI_nat (j := 2) rfl, _, _, _, _, rfl, rfl, SqL.of h2, at_of (j := b.toNat) (by omega) hz, .inl ⟨_, rfl, _, rfl, _, rfl, _, _, _, _, rfl, rfl, h1, rfl, ?_⟩⟩
        refine ⟨_, rfl, _, _, _, _, rfl, rfl, SqL.of upd_same, atI_nat (j := 2) rfl, _, _, rfl, rfl, _, rfl, _, _, _, _, rfl, rfl, upd_same, rfl, ?_⟩
        generalize hH : upd _ p _ = H1
        have hX : ∃ a' b' : Int, H1 p = some (.lst [.ref l, .int a', .int b', .int m]) ∧ 0 ≤ a' ∧ 0 ≤ b' := ⟨_, _, by rw [← hH]; exact upd_same, by split <;> omega, by omega⟩
        have hB : But p H H1 := by rw [← hH]; exact But.put.trans But.put
        have hL : H1 l = some (.lst (ns.map V.int)) := hB l _ nlp h2
        clear hH
        obtain ⟨a', b', hX, ha', hb'⟩ := hX
        refine ⟨_, rfl, _, _, _, _, rfl, rfl, SqL.of hX, atI_nat (j := 1) rfl, rfl, _, rfl, ite2 (fun e3 => ?_) (fun e3 => ?_)⟩
        · refine ⟨_, rfl, _, _, _, _, rfl, rfl, SqL.of hX, atI_nat (j := 3) rfl, _, _, rfl, rfl, .inr ⟨by decide, by decide⟩, _, _, rfl, rfl, .inl ⟨_, rfl, _, _, rfl, rfl, (by decide : (0 : Int) < 2147483647), _, rfl, _, _, _, _, rfl, rfl, hX, rfl, ?_⟩⟩
          refine ⟨_, rfl, _, _, _, _, rfl, rfl, SqL.of upd_same, atI_nat (j := 3) rfl, _, _, rfl, rfl, wide_div (b := 64) (by decide) (by decide) (by decide) (by decide), .inl ⟨_, rfl, _, rfl, _, _, rfl, rfl, hn, ?_⟩⟩
          exact q _ _ (Int.emod_nonneg _ (by omega)) (Int.emod_lt_of_pos _ hn) (hB.trans But.put) ⟨a', b', _, ns, upd_same, by rw [upd_ne nlp]; exact hL, hlen, ha', hb', Int.emod_nonneg _ (by decide), Int.emod_lt_of_pos _ (by decide)⟩
        · refine ⟨_, rfl, _, _, _, _, rfl, rfl, SqL.of hX, atI_nat (j := 1) rfl, .inl ⟨_, rfl, _, rfl, _, _, rfl, rfl, hn, ?_⟩⟩
          refine ⟨_, rfl, _, _, _, _, rfl, rfl, SqL.of hX, atI_nat (j := 1) rfl, _, rfl, _, _, rfl, rfl, wide_div hn hn2 (by decide) (by decide), _, rfl, _, _, _, _, rfl, rfl, hX, rfl, ?_⟩
          refine ⟨_, rfl, ?_⟩
          exact q _ _ (Int.emod_nonneg _ (by omega)) (Int.emod_lt_of_pos _ hn) (hB.trans But.put) ⟨_, b', m, ns, upd_same, by rw [upd_ne nlp]; exact hL, hlen, Int.ediv_nonneg ha' (by omega), hb', hm, hm2⟩
      · have hX : ∃ a' b' : Int, H p = some (.lst [.ref l, .int a', .int b', .int m]) ∧ 0 ≤ a' ∧ 0 ≤ b' := ⟨_, _, h1, ha, hb⟩
        have hB : But p H H := But.refl p H
        have hL := h2
        obtain ⟨a', b', hX, ha', hb'⟩ := hX
        refine ⟨_, rfl, _, _, _, _, rfl, rfl, SqL.of hX, atI_nat (j := 1) rfl, rfl, _, rfl, ite2 (fun e3 => ?_) (fun e3 => ?_)⟩
        · refine ⟨_, rfl, _, _, _, _, rfl, rfl, SqL.of hX, atI_nat (j := 3) rfl, _, _, rfl, rfl, .inr ⟨by decide, by decide⟩, _, _, rfl, rfl, .inl ⟨_, rfl, _, _, rfl, rfl, (by decide : (0 : Int) < 2147483647), _, rfl, _, _, _, _, rfl, rfl, hX, rfl, ?_⟩⟩
          refine ⟨_, rfl, _, _, _, _, rfl, rfl, SqL.of upd_same, atI_nat (j := 3) rfl, _, _, rfl, rfl, wide_div (b := 64) (by decide) (by decide) (by decide) (by decide), .inl ⟨_, rfl, _, rfl, _, _, rfl, rfl, hn, ?_⟩⟩
          exact q _ _ (Int.emod_nonneg _ (by omega)) (Int.emod_lt_of_pos _ hn) (hB.trans But.put) ⟨a', b', _, ns, upd_same, by rw [upd_ne nlp]; exact hL, hlen, ha', hb', Int.emod_nonneg _ (by decide), Int.emod_lt_of_pos _ (by decide)⟩
        · refine ⟨_, rfl, _, _, _, _, rfl, rfl, SqL.of hX, atI_nat (j := 1) rfl, .inl ⟨_, rfl, _, rfl, _, _, rfl, rfl, hn, ?_⟩⟩
          refine ⟨_, rfl, _, _, _, _, rfl, rfl, SqL.of hX, atI_nat (j := 1) rfl, _, rfl, _, _, rfl, rfl, wide_div hn hn2 (by decide) (by decide), _, rfl, _, _, _, _, rfl, rfl, hX, rfl, ?_⟩
          refine ⟨_, rfl, ?_⟩
          exact q _ _ (Int.emod_nonneg _ (by omega)) (Int.emod_lt_of_pos _ hn) (hB.trans But.put) ⟨_, b', m, ns, upd_same, by rw [upd_ne nlp]; exact hL, hlen, Int.ediv_nonneg ha' (by omega), hb', hm, hm2⟩
    · have hX : ∃ a' b' : Int, H p = some (.lst [.ref l, .int a', .int b', .int m]) ∧ 0 ≤ a' ∧ 0 ≤ b' := ⟨_, _, h1, ha, hb⟩
      have hB : But p H H := But.refl p H
      have hL := h2
      obtain ⟨a', b', hX, ha', hb'⟩ := hX
      refine ⟨_, rfl, _, _, _, _, rfl, rfl, SqL.of hX, atI_nat (j := 1) rfl, rfl, _, rfl, ite2 (fun e3 => ?_) (fun e3 => ?_)⟩
      · refine ⟨_, rfl, _, _, _, _, rfl, rfl, SqL.of hX, atI_nat (j := 3) rfl, _, _, rfl, rfl, .inr ⟨by decide, by decide⟩, _, _, rfl, rfl, .inl ⟨_, rfl, _, _, rfl, rfl, (by decide : (0 : Int) < 2147483647), _, rfl, _, _, _, _, rfl, rfl, hX, rfl, ?_⟩⟩
        refine ⟨_, rfl, _, _, _, _, rfl, rfl, SqL.of upd_same, atI_nat (j := 3) rfl, _, _, rfl, rfl, wide_div (b := 64) (by decide) (by decide) (by decide) (by decide), .inl ⟨_, rfl, _, rfl, _, _, rfl, rfl, hn, ?_⟩⟩
        exact q _ _ (Int.emod_nonneg _ (by omega)) (Int.emod_lt_of_pos _ hn) (hB.trans But.put) ⟨a', b', _, ns, upd_same, by rw [upd_ne nlp]; exact hL, hlen, ha', hb', Int.emod_nonneg _ (by decide), Int.emod_lt_of_pos _ (by decide)⟩
      · refine ⟨_, rfl, _, _, _, _, rfl, rfl, SqL.of hX, atI_nat (j := 1) rfl, .inl ⟨_, rfl, _, rfl, _, _, rfl, rfl, hn, ?_⟩⟩
        refine ⟨_, rfl, _, _, _, _, rfl, rfl, SqL.of hX, atI_nat (j := 1) rfl, _, rfl, _, _, rfl, rfl, wide_div hn hn2 (by decide) (by decide), _, rfl, _, _, _, _, rfl, rfl, hX, rfl, ?_⟩
        refine ⟨_, rfl, ?_⟩
        exact q _ _ (Int.emod_nonneg _ (by omega)) (Int.emod_lt_of_pos _ hn) (hB.trans But.put) ⟨_, b', m, ns, upd_same, by rw [upd_ne nlp]; exact hL, hlen, Int.ediv_nonneg ha' (by omega), hb', hm, hm2⟩

theorem ok__law_end {f : Addr} {fd : FuncData} (F : Fun K "_law_end" "_law_end" s__law_end f fd) (E : Bi K mg)  : FnOk P w K mg base CX0 1 f fd ["term", "at"] (sp__law_end K) := by
  refine F.ok sc__law_end (fun vs H Q E h => ?_) (fun cdv A outer s H vs Q E' hr h => ?_)
  · obtain ⟨x, ds, i, k, rfl, _⟩ := h
    rfl
  · obtain ⟨x, ds, i, k, rfl, hd, hn, hc, q⟩ := h
    refine ⟨_, (pss_cons (ps_set (i := 2) sc__law_end.nd rfl (Or.inl rfl) pe_int)
      (pss_cons (ps_while PassesOwn.never (pw_and (pt_cmpR op_gt (pv 2) pe_int (nomark _)) (pw_and1 (pt_cmpR op_lt (pv 1) (pe_callB (show CallR _ (.builtin "len") (fun xs H Q => ∃ p ys, xs = [V.ref p] ∧ (SqL K H p ys ∨ SqT K H p ys) ∧ Q (V.int ys.length) H) from call_len_seq) (by rfl) E.b_len PySem.boot_len (pa_cons (pv 0) pa_nil)) (nomark _)))).pt (pss_cons (ps_set (i := 3) sc__law_end.nd rfl (Or.inl rfl) (pe_ix (show IxR _ (rIxT K) from ix_tup) (pv 0) (pv 1) (fun _ _ => rfl)))
      (pss_cons (ps_set (i := 2) sc__law_end.nd rfl (Or.inl rfl) (pe_op op_sub (pv 2) pe_int))
      (pss_cons (ps_set (i := 1) sc__law_end.nd rfl (Or.inl rfl) (pe_op op_add (pv 1) pe_int))
      (pss_one (ps_if (pw_and (pt_val (pe_callB (show CallR _ (.builtin "isinstance") (rIsi K) from call_isi) (by rfl) E.b_isinstance (by decide +kernel) (pa_cons (pv 3) (pa_cons (pe_ty "tuple" (by rfl) E.b_tuple (by decide +kernel)) pa_nil)))) (pw_and1 (pt_cmpR op_eq (pe_ix (show IxR _ (rIxT K) from ix_tup) (pv 3) pe_int (fun _ _ => rfl)) pe_str (nomark _)))).pt (pss_one (ps_set (i := 2) sc__law_end.nd rfl (Or.inl rfl) (pe_op op_add (pv 2) (pe_ix (show IxR _ (rIxT K) from ix_tup) (pv 3) pe_int (fun _ _ => rfl))))) pss_nil))))))
      (pss_one (ps_ret (pv 1))))), ?_⟩
    cases hd with
    | @tup a xs _ hs ha =>
    have hxl := DpAll.len ha
    refine seq_asg (gname (seq_any ?_))
    refine ⟨fun n σ H' => ∃ (m j kk : Nat) (v3 : Option V), σ = [some (.ref a), some (.int (j : Int)), some (.int (m : Int)), v3] ∧ H' = H ∧ Cls kk (ds.drop j) ∧ m ≤ kk ∧ j + tk m (ds.drop j) = i + tk 1 (ds.drop i) ∧ n = ds.length - j,
      ⟨_, 1, i, k + 1, none, rfl, rfl, hc, by omega, rfl, rfl⟩, ?_⟩
    rintro n σ H1 ⟨m, j, kk, v3, rfl, rfl, h1, h2, h3, rfl⟩
    refine ⟨_, rfl, _, _, rfl, rfl, _, rfl, ite2 (fun e => ?_) (fun e => ?_)⟩
    · have hm : 0 < m := by
        have := of_decide_eq_true e
        omega
      cases hl : ds.drop j with
      | nil =>
        rw [hl] at h1
        have : kk = 0 := h1
        omega
      | cons d r =>
        rw [hl] at h1 h3
        have hj : j < ds.length := by
          rcases Nat.lt_or_ge j ds.length with h | h
          · exact h
          · rw [List.drop_of_length_le h] at hl; cases hl
        have hdj : ds[j]? = some d := by
          rw [← List.head?_drop, hl]
          rfl
        have hrd : ds.drop (j + 1) = r := by
          rw [← List.drop_drop, hl]
          rfl
        obtain ⟨v, hv, hdv⟩ := DpAll.get ha hdj
        have hnd := hn d (List.mem_of_getElem? hdj)
        refine ⟨_, rfl, _, rfl, a, xs, rfl, .inr hs, _, _, rfl, rfl, _, rfl, ?_⟩
        rw [decide_eq_true (show (j : Int) < (xs.length : Int) by omega)]
        refine iteT ⟨fun σ' H' => ∃ (m' kk' : Nat) (v3 : Option V), σ' = [some (.ref a), some (.int ((j + 1 : Nat) : Int)), some (.int (m' : Int)), v3] ∧ H' = H1 ∧ Cls kk' (ds.drop (j + 1)) ∧ m' ≤ kk' ∧ j + 1 + tk m' (ds.drop (j + 1)) = i + tk 1 (ds.drop i),
          fun σ' H' ⟨m', kk', v3, g1, g2, g3, g4, g5⟩ => ⟨ds.length - (j + 1), by omega, m', j + 1, kk', v3, g1, g2, g3, g4, g5, rfl⟩, ?_⟩
        have fin : ∀ (z : Int) (v3 : Option V), z = ((m - 1 + arN d : Nat) : Int) → ∃ (m' kk' : Nat) (v3' : Option V), [some (V.ref a), some (.int ((j : Int) + 1)), some (.int z), v3] = [some (.ref a), some (.int ((j + 1 : Nat) : Int)), some (.int (m' : Int)), v3'] ∧ H1 = H1 ∧ Cls kk' (ds.drop (j + 1)) ∧ m' ≤ kk' ∧ j + 1 + tk m' (ds.drop (j + 1)) = i + tk 1 (ds.drop i) := fun z v3 hz => by
          refine ⟨m - 1 + arN d, kk - 1 + arN d, v3, ?_, rfl, by rw [hrd]; exact h1.2, by omega, ?_⟩
          · rw [hz]
            rfl
          · rw [tk_cons hm] at h3
            rw [hrd]
            omega
        refine seq_asg ?_
        refine ⟨_, rfl, _, rfl, _, _, _, _, rfl, rfl, hs, atI_nat (j := j) hv, ?_⟩
        refine gname (seq_asg ?_)
        refine ⟨_, rfl, _, _, rfl, rfl, ?_⟩
        refine gname (seq_asg ?_)
        refine ⟨_, rfl, _, _, rfl, rfl, ?_⟩
        refine gname ?_
        refine ⟨_, rfl, _, _, _, _, _, rfl, .ty _, tyx_of hdv, kit_ty (kitT _), _, rfl, ?_⟩
        obtain ⟨wd, nd⟩ := hnd
        cases nd with
        | i z h1 h2 => exact iteF (iteF (fin _ _ (by show (m : Int) - 1 = ((m - 1 + 0 : Nat) : Int); omega)))
        | v z h1 h2 =>
          cases hdv with
          | tup hs9 ha9 =>
          obtain ⟨v0, hv0, hdv0⟩ := DpAll.get (i := 0) ha9 rfl
          cases hdv0
          refine iteT ⟨_, rfl, _, _, _, _, rfl, rfl, hs9, atI_nat (j := 0) hv0, rfl, _, rfl, ?_⟩
          rw [show decide (V.str (Str.ofString "v") = V.str (Str.ofString "f")) = false by decide +kernel]
          exact iteF (fin _ _ (by show (m : Int) - 1 = ((m - 1 + 0 : Nat) : Int); omega))
        | f y z g1 g2 g3 =>
          cases hdv with
          | tup hs9 ha9 =>
          obtain ⟨v0, hv0, hdv0⟩ := DpAll.get (i := 0) ha9 rfl
          obtain ⟨v2, hv2, hdv2⟩ := DpAll.get (i := 2) ha9 rfl
          cases hdv0
          cases hdv2
          refine iteT ⟨_, rfl, _, _, _, _, rfl, rfl, hs9, atI_nat (j := 0) hv0, rfl, _, rfl, ?_⟩
          rw [decide_eq_true rfl]
          refine iteT ⟨_, rfl, _, rfl, _, _, _, _, rfl, rfl, hs9, atI_nat (j := 2) hv2, _, _, rfl, rfl, ?_⟩
          exact gname (fin _ _ (by show (m : Int) - 1 + z = ((m - 1 + z.toNat : Nat) : Int); omega))
    · have hm : m = 0 := by
        cases m with
        | zero => rfl
        | succ m => exact absurd (decide_eq_true (by omega)) e
      subst hm
      refine iteF (nxp ?_)
      refine ⟨_, rfl, ?_⟩
      rw [tk_zero] at h3
      rw [← h3] at q
      exact q

theorem ok__law_walk {f : Addr} {fd : FuncData} (F : Fun K "_law_walk" "_law_walk" s__law_walk f fd) (E : Bi K mg)  : FnOk P w K mg base CX0 1 f fd ["table", "value"] (sp__law_walk K) := by
  refine F.ok sc__law_walk (fun vs H Q E h => ?_) (fun cdv A outer s H vs Q E' hr h => ?_)
  · obtain ⟨d, x, t, U, T, kvs, rfl, _⟩ := h
    rfl
  · obtain ⟨d, x, t, U, T, kvs, rfl, tk, dx, q⟩ := h
    refine ⟨_, (pss_cons (ps_for PassesOwn.never rfl (pi_range1 (by rfl) E.b_range (pa_cons pe_int pa_nil)) (pg_name (i := 2) sc__law_walk.nd rfl (Or.inl rfl)) (pss_cons (ps_if (pw_or (pt_not (pt_val (pe_callB (show CallR _ (.builtin "isinstance") (rIsi K) from call_isi) (by rfl) E.b_isinstance (by decide +kernel) (pa_cons (pv 1) (pa_cons (pe_ty "tuple" (by rfl) E.b_tuple (by decide +kernel)) pa_nil))))) (pw_or (pt_cmpR op_ne (pe_ix (show IxR _ (rIxT K) from ix_tup) (pv 1) pe_int (fun _ _ => rfl)) pe_str (nomark _)) (pw_or1 (pt_cmp (pc_dnotin (hu_of hr) (pe_ix (show IxR _ (rIxT K) from ix_tup) (pv 1) pe_int (fun _ _ => rfl)) (pv 0)))))).pt (pss_one ps_break) pss_nil)
      (pss_one (ps_set (i := 1) sc__law_walk.nd rfl (Or.inl rfl) (pe_dget (hu_of hr) (pv 0) (pe_ix (show IxR _ (rIxT K) from ix_tup) (pv 1) pe_int (fun _ _ => rfl)) (fun _ _ => rfl))))))
      (pss_one (ps_ret (pv 1)))), ?_⟩
    refine st_of (σ := [some _, some _, none]) rfl ?_
    walk_at "go"
    refine ⟨_, rfl, by decide, by decide, ?_⟩
    rw [show (1000 : Int).toNat = 1000 from rfl]
    refine for_range (fun i σ H' => ∃ (v : V) (vk : Option V), σ = [some (.ref d), some v, vk] ∧ H' = H ∧ Dp K H v (nD (wkN T i t))) ⟨x, none, rfl, rfl, dx⟩ ?_ ?_
    · rintro i σ H2 hi ⟨v, vk, rfl, rfl, dv⟩
      have stop : stN T (wkN T i t) = wkN T i t → Dp K H2 v (nD (wkN T 1000 t)) := fun h => by rw [wk_stop h (Nat.le_of_lt hi)]; exact dv
      have next := wk_succ T i t
      generalize wkN T i t = u at dv stop next
      walk_at "go"
      cases u with
      | i z =>
        rw [nD] at dv
        refine isi_tup dv ?_
        walk_at "go"
        refine iteT ?_
        walk_at "go"
        exact q v (stop rfl)
      | s y as =>
        rw [nD] at dv
        refine isi_tup dv ?_
        obtain ⟨p, ws, rfl, sp, aw⟩ := dp_tup dv
        obtain ⟨w0, hw0, dw0⟩ := DpAll.get (i := 0) aw rfl
        cases dw0
        walk_at "go"
        refine iteF ?_
        walk_at "go"
        refine ixT (j := 0) sp hw0 ?_
        walk_at "go"
        refine iteT ?_
        walk_at "go"
        exact q _ (stop rfl)
      | v n =>
        rw [nD] at dv
        refine isi_tup dv ?_
        obtain ⟨p, ws, rfl, sp, aw⟩ := dp_tup dv
        obtain ⟨w0, hw0, dw0⟩ := DpAll.get (i := 0) aw rfl
        obtain ⟨w1, hw1, dw1⟩ := DpAll.get (i := 1) aw rfl
        cases dw0
        cases dw1
        walk_at "go"
        refine iteF ?_
        walk_at "go"
        refine ixT (j := 0) sp hw0 ?_
        walk_at "go"
        refine iteF ?_
        walk_at "go"
        refine ixT (j := 1) sp hw1 ?_
        walk_at "go"
        refine ⟨d, _, rfl, DGet.k (k := Sum.inl n) tk.at_, ?_⟩
        rcases tk.vals n with ⟨e1, e2⟩ | ⟨t', v', e1, e2, dv'⟩
        · rw [e2]
          walk_at "go"
          refine iteT ?_
          walk_at "go"
          refine q _ (stop ?_)
          show (T n).getD _ = _
          rw [e1]
          rfl
        · rw [e2]
          walk_at "go"
          refine iteF ?_
          walk_at "go"
          refine ixT (j := 1) sp hw1 ?_
          refine ⟨d, _, rfl, by have := DGet.k (k := Sum.inl n) tk.at_; rw [e2] at this; exact this, ?_⟩
          walk_at "go"
          refine ⟨v', _, rfl, rfl, ?_⟩
          rw [next]
          show Dp K H2 v' (nD ((T n).getD _))
          rw [e1]
          exact dv'
    · rintro σ H2 ⟨v, vk, rfl, rfl, dv⟩
      walk_at "go"
      exact q v dv

theorem ok__law_apart {f : Addr} {fd : FuncData} (F : Fun K "_law_apart" "_law_apart" s__law_apart f fd) (E : Bi K mg)  : FnOk P w K mg base CX0 1 f fd ["node"] (sp__law_apart K) := by
  refine F.ok sc__law_apart (fun vs H Q E h => ?_) (fun cdv A outer s H vs Q E' hr h => ?_)
  · obtain ⟨x, d, rfl, _⟩ := h
    rfl
  · obtain ⟨x, d, rfl, dx, nd, q⟩ := h
    refine ⟨_, (pss_cons (ps_if (pw_and (pt_val (pe_callB (show CallR _ (.builtin "isinstance") (rIsi K) from call_isi) (by rfl) E.b_isinstance (by decide +kernel) (pa_cons (pv 0) (pa_cons (pe_ty "tuple" (by rfl) E.b_tuple (by decide +kernel)) pa_nil)))) (pw_and1 (pt_cmpR op_eq (pe_ix (show IxR _ (rIxT K) from ix_tup) (pv 0) pe_int (fun _ _ => rfl)) pe_str (nomark _)))).pt (pss_one (ps_ret (pe_tup (pa_cons pe_str (pa_cons (pe_op op_add (pe_ix (show IxR _ (rIxT K) from ix_tup) (pv 0) pe_int (fun _ _ => rfl)) pe_int) pa_nil))))) pss_nil)
      (pss_one (ps_ret (pv 0)))), ?_⟩
    refine st_of (σ := [some _]) rfl ?_
    walk_at "go"
    refine isi_tup dx ?_
    obtain ⟨wd, n⟩ := nd
    cases n with
    | i n a b =>
      walk_at "go"
      refine iteF ?_
      walk_at "go"
      exact q _ _ (Same.refl H) dx
    | v n a b =>
      obtain ⟨p, xs, rfl, sq, ax⟩ := dp_tup dx
      obtain ⟨w0, hw0, dw0⟩ := DpAll.get (i := 0) ax rfl
      obtain ⟨w1, hw1, dw1⟩ := DpAll.get (i := 1) ax rfl
      cases dw0
      cases dw1
      walk_at "go"
      refine iteT ?_
      walk_at "go"
      refine ixT (j := 0) sq hw0 ?_
      walk_at "go"
      refine iteT ?_
      walk_at "go"
      refine ixT (j := 1) sq hw1 ?_
      walk_at "go"
      refine newN (n := 2) rfl (by decide) fun t nt => ?_
      exact q _ _ (same_upd nt) (.tup (SqT.of upd_same) (.cons (.str _) (.cons (.int _) .nil)))
    | f y n a b c =>
      obtain ⟨p, xs, rfl, sq, ax⟩ := dp_tup dx
      obtain ⟨w0, hw0, dw0⟩ := DpAll.get (i := 0) ax rfl
      cases dw0
      walk_at "go"
      refine iteT ?_
      walk_at "go"
      refine ixT (j := 0) sq hw0 ?_
      walk_at "go"
      refine iteF ?_
      walk_at "go"
      exact q _ _ (Same.refl H) dx

theorem ok_arity_of {f : Addr} {fd : FuncData} (F : Fun K "arity_of" "arity_of" s_arity_of f fd) (E : Bi K mg) (D_is_symbol : Has P w K mg base 1 "is_symbol" ["node"] (sp_is_symbol K)) : FnOk P w K mg base CX0 2 f fd ["node"] (sp_arity_of K) := by
  obtain ⟨f_is_symbol, fd_is_symbol, G_is_symbol, g_is_symbol, kp_is_symbol, b_is_symbol⟩ := D_is_symbol
  refine F.ok sc_arity_of (fun vs H Q E h => ?_) (fun cdv A outer s H vs Q E' hr h => ?_)
  · obtain ⟨x, d, rfl, _⟩ := h
    rfl
  · obtain ⟨x, d, rfl, hd, hn, q⟩ := h
    refine ⟨_, (pss_one (ps_ret (pe_ifExp (pt_val (pe_call G_is_symbol (hr.mono (by decide)) (by rfl) g_is_symbol kp_is_symbol b_is_symbol .nil pass0 (pa_cons (pv 0) pa_nil))) (pe_ix (show IxR _ (rIxT K) from ix_tup) (pv 0) pe_int (fun _ _ => rfl)) pe_int))), ?_⟩
    refine ⟨x, rfl, x, d, rfl, hd, hn, _, rfl, ite2 (fun e => ?_) (fun e => ?_)⟩
    · obtain ⟨wd, nd⟩ := hn
      cases nd with
      | v n h1 h2 => cases e
      | i n h1 h2 => cases e
      | f y n h1 h2 h3 =>
        cases hd with
        | tup hs ha =>
          obtain ⟨v, hv, hdv⟩ := DpAll.get (i := 2) ha rfl
          cases hdv
          refine ⟨_, rfl, _, _, _, _, rfl, rfl, hs, atI_nat (j := 2) hv, ?_⟩
          have e2 : ((arN (.tuple [.str "f", .str y, .int n]) : Nat) : Int) = n := Int.toNat_of_nonneg h2
          rw [e2] at q
          exact q
    · rw [arN_nsym (Bool.eq_false_iff.mpr e)] at q
      exact q

theorem ok_key {f : Addr} {fd : FuncData} (F : Fun K "key" "key" s_key f fd) (E : Bi K mg) (D_is_variable : Has P w K mg base 1 "is_variable" ["node"] (sp_is_variable K)) : FnOk P w K mg base CX0 2 f fd ["term"] (sp_key K) := by
  obtain ⟨f_is_variable, fd_is_variable, G_is_variable, g_is_variable, kp_is_variable, b_is_variable⟩ := D_is_variable
  refine F.ok sc_key (fun vs H Q E h => ?_) (fun cdv A outer s H vs Q E' hr h => ?_)
  · obtain ⟨x, d, r, rfl, _⟩ := h
    rfl
  · obtain ⟨x, d, r, rfl, hd, hn, q⟩ := h
    refine ⟨_, (pss_one (ps_ret (pe_ifExp (pt_val (pe_call G_is_variable (hr.mono (by decide)) (by rfl) g_is_variable kp_is_variable b_is_variable .nil pass0 (pa_cons (pe_ix (show IxR _ (rIxT K) from ix_tup) (pv 0) pe_int (fun _ _ => rfl)) pa_nil))) pe_non (pe_ix (show IxR _ (rIxT K) from ix_tup) (pv 0) pe_int (fun _ _ => rfl))))), ?_⟩
    cases id hd with
    | @tup a xs _ hs ha =>
    obtain ⟨v, hv, dv⟩ := DpAll.get (i := 0) ha rfl
    refine ⟨_, rfl, _, _, _, _, rfl, rfl, hs, atI_nat (j := 0) hv, v, d, rfl, dv, hn, _, rfl, ite2 (fun e => ?_) (fun e => ?_)⟩
    · refine q _ ?_
      unfold keyD
      rw [if_pos e]
      exact .non
    · refine ⟨_, rfl, _, _, _, _, rfl, rfl, hs, atI_nat (j := 0) hv, q v ?_⟩
      unfold keyD
      rw [if_neg e]
      exact dv

theorem ok_is_candidate {f : Addr} {fd : FuncData} (F : Fun K "is_candidate" "is_candidate" s_is_candidate f fd) (E : Bi K mg) (D_conflict : Has P w K mg base 1 "conflict" ["one", "other"] (sp_conflict K)) : FnOk P w K mg base CX0 2 f fd ["keys", "wanted"] (sp_is_candidate K) := by
  obtain ⟨f_conflict, fd_conflict, G_conflict, g_conflict, kp_conflict, b_conflict⟩ := D_conflict
  refine F.ok sc_is_candidate (fun vs H Q E h => ?_) (fun cdv A outer s H vs Q E' hr h => ?_)
  · obtain ⟨k, w, ys, kvs, args, rows, n, rfl, _⟩ := h
    rfl
  · obtain ⟨k, w, ys, kvs, args, rows, n, rfl, hk, dk, okr, oka, hw, ws, hl, q⟩ := h
    refine ⟨_, (pss_cons (ps_lock (ps_for PassesOwn.never rfl (pi_items (pv 1)) (pg_tup rfl (pgs_cons (pg_name (i := 2) sc_is_candidate.nd rfl (Or.inl rfl)) (pgs_cons (pg_name (i := 3) sc_is_candidate.nd rfl (Or.inl rfl)) pgs_nil))) (pss_one (ps_if (pt_val (pe_call G_conflict (hr.mono (by decide)) (by rfl) g_conflict kp_conflict b_conflict .nil pass0 (pa_cons (pv 3) (pa_cons (pe_ix (show IxR _ (rIxL K) from ix_list) (pv 0) (pv 2) (fun _ _ => rfl)) pa_nil)))) (pss_one (ps_ret pe_bl)) pss_nil))))
      (pss_one (ps_ret pe_bl))), ?_⟩
    refine seq_any ?_
    refine ⟨w, .dK kvs, hw, trivial, fun od => ?_⟩
    have nw : notTup H w := .inr (.inl ⟨_, hw⟩)
    have kw : k ≠ w := fun z => by rw [z, hw] at hk; cases hk
    have dk1 := dp_putAll (o := .frz od (.dK kvs)) nw _ _ (keys_noL okr.row) dk
    have ws1 := ws.mono (H' := upd H w (.frz od (.dK kvs))) fun v j hj d => dp_put nw _ _ (keyD_noL (rowAt_nd oka hj)) d
    have hk1 : (upd H w (.frz od (.dK kvs))) k = some (.lst ys) := by rw [upd_ne kw]; exact hk
    have keep : ∀ H', Same (upd H w (.frz od (.dK kvs))) H' → Same H (upd H' w (.dK kvs)) := fun H' s b o e => by
      by_cases z : b = w
      · subst z
        rw [hw] at e
        rw [upd_same]
        exact e
      · rw [upd_ne z]
        exact s _ _ (by rw [upd_ne z]; exact e)
    refine ⟨_, rfl, w, od, kvs, rfl, upd_same, for_it walk_items (fun i σ H' => ∃ v2 v3, σ = [some (.ref k), some (.ref w), v2, v3] ∧ Same (upd H w (.frz od (.dK kvs))) H' ∧ ∀ p ∈ kvs.take i, (!conf (rowAt args (numK p.1)) (rowAt rows (numK p.1))) = true)
      ⟨none, none, rfl, Same.refl _, fun p hp => nomatch hp⟩ (fun i σ H' _ ⟨_, _, _, e, _⟩ => e _ _ upd_same) ?_ ?_⟩
    · rintro i x σ H1 H2 hi ⟨v2, v3, rfl, s1, h1⟩ ⟨A1, x1, x2, rfl, nA, rfl, y1, y2⟩
      have hkv : kvs[i]? = some kvs[i] := List.getElem?_eq_getElem hi
      generalize kvs[i] = kv at hkv
      simp only [hkv, Option.map_some, Option.some.injEq] at y1 y2
      subst y1 y2
      obtain ⟨kk, vv⟩ := kv
      obtain ⟨j, hj1, hj2, hj3⟩ := ws1 _ (List.mem_of_getElem? hkv)
      have hj1 : kk = Sum.inl (j : Int) := hj1
      subst hj1
      have hj3 : Dp K _ vv (keyD (rowAt args j)) := hj3
      obtain ⟨row, hrow⟩ : ∃ row, rows[j]? = some row := ⟨_, List.getElem?_eq_getElem (by rw [okr.len]; exact hj2)⟩
      obtain ⟨y, hy, dy⟩ := DpAll.get (i := j) dk1 (by rw [List.getElem?_map, hrow]; rfl)
      have s2 := s1.trans (same_upd (o := .tup [kV (Sum.inl (j : Int)), vv]) nA)
      have er : keyR row = keyD (rowAt rows j) := by unfold keyR; rw [rowAt_of hrow]
      rw [er] at dy
      refine ⟨A1, [kV (Sum.inl (j : Int)), vv], rfl, SqT.of upd_same, rfl, _, _, rfl, gname ⟨_, [], rfl, gname ⟨rfl, ?_⟩⟩⟩
      refine ⟨_, rfl, _, rfl, _, rfl, _, _, _, _, rfl, rfl, SqL.of (s2 _ _ hk1), atI_nat (j := j) hy, vv, y, rowAt args j, rowAt rows j, rfl, dp_same s2 _ _ hj3, dp_same s2 _ _ dy, rowAt_nd oka hj2, rowAt_nd okr hj2, _, rfl, ?_⟩
      have en : numK (Sum.inl (j : Int)) = j := Int.toNat_natCast j
      cases hc : conf (rowAt args j) (rowAt rows j) with
      | true =>
        refine iteT ?_
        have : okW kvs args rows = false := by
          unfold okW
          rw [List.all_eq_false]
          exact ⟨_, List.mem_of_getElem? hkv, by show ¬ (!conf (rowAt args (numK (Sum.inl (j : Int)))) _) = true; rw [en, hc]; decide⟩
        rw [this] at q
        exact ⟨s2 _ _ upd_same, q _ (keep _ s2)⟩
      | false =>
        refine iteF ⟨_, _, rfl, s2, fun p hp => ?_⟩
        rw [List.take_add_one, hkv] at hp
        rcases List.mem_append.mp hp with z | z
        · exact h1 p z
        · have := List.mem_singleton.mp z
          subst this
          show (!conf (rowAt args (numK (Sum.inl (j : Int)))) (rowAt rows (numK (Sum.inl (j : Int))))) = true
          rw [en, hc]
          rfl
    · rintro σ H1 ⟨v2, v3, rfl, s1, h1⟩
      rw [List.take_length] at h1
      refine nxp ⟨s1 _ _ upd_same, ?_⟩
      have : okW kvs args rows = true := by
        unfold okW
        rw [List.all_eq_true]
        exact h1
      rw [this] at q
      exact q _ (keep _ s1)

theorem ok__law_leaf {f : Addr} {fd : FuncData} (F : Fun K "_law_leaf" "_law_leaf" s__law_leaf f fd) (E : Bi K mg) (D__law_draw : Has P w K mg base 1 "_law_draw" ["stream", "many"] (sp__law_draw K)) : FnOk P w K mg base CX0 2 f fd ["stream", "widest"] (sp__law_leaf K) := by
  obtain ⟨f__law_draw, fd__law_draw, G__law_draw, g__law_draw, kp__law_draw, b__law_draw⟩ := D__law_draw
  refine F.ok sc__law_leaf (fun vs H Q E h => ?_) (fun cdv A outer s H vs Q E' hr h => ?_)
  · obtain ⟨s, l, wd, rfl, _⟩ := h
    rfl
  · obtain ⟨s, l, wd, rfl, hS, hw, hw2, q⟩ := h
    have n9 : (2 : Nat) ^ 140 ≤ 2 ^ 9000 := Nat.pow_le_pow_right (by decide) (by decide)
    refine ⟨_, (pss_cons (ps_set (i := 2) sc__law_leaf.nd rfl (Or.inl rfl) (pe_call G__law_draw (hr.mono (by decide)) (by rfl) g__law_draw kp__law_draw b__law_draw .nil pass0 (pa_cons (pv 0) (pa_cons pe_int pa_nil))))
      (pss_cons (ps_if (pw_and (pt_cmpR op_lt (pv 2) pe_int (nomark _)) (pw_and1 (pt_cmpR op_gt (pv 1) pe_int (nomark _)))).pt (pss_one (ps_ret (pe_tup (pa_cons pe_str (pa_cons (pe_call G__law_draw (hr.mono (by decide)) (by rfl) g__law_draw kp__law_draw b__law_draw .nil pass0 (pa_cons (pv 0) (pa_cons (pv 1) pa_nil))) pa_nil))))) pss_nil)
      (pss_cons (ps_if (pt_cmpR op_eq (pv 2) pe_int (nomark _)) (pss_cons (ps_if (pt_cmpR op_eq (pe_call G__law_draw (hr.mono (by decide)) (by rfl) g__law_draw kp__law_draw b__law_draw .nil pass0 (pa_cons (pv 0) (pa_cons pe_int pa_nil))) pe_int (nomark _)) (pss_one (ps_ret (pe_op op_add (pe_op op_mul (pe_op op_pow pe_int pe_int) (pe_op op_sub (pe_call G__law_draw (hr.mono (by decide)) (by rfl) g__law_draw kp__law_draw b__law_draw .nil pass0 (pa_cons (pv 0) (pa_cons pe_int pa_nil))) pe_int)) (pe_call G__law_draw (hr.mono (by decide)) (by rfl) g__law_draw kp__law_draw b__law_draw .nil pass0 (pa_cons (pv 0) (pa_cons pe_int pa_nil)))))) pss_nil)
      (pss_one (ps_ret (pe_op op_sub (pe_call G__law_draw (hr.mono (by decide)) (by rfl) g__law_draw kp__law_draw b__law_draw .nil pass0 (pa_cons (pv 0) (pa_cons pe_int pa_nil))) pe_int)))) pss_nil)
      (pss_one (ps_ret (pe_tup (pa_cons pe_str (pa_cons (pe_ix (show IxR _ (rIxL K) from ix_list) (pe_lst (pa_cons pe_str (pa_cons pe_str (pa_cons pe_str (pa_cons pe_str (pa_cons pe_str (pa_cons pe_str (pa_cons pe_str (pa_cons pe_str (pa_cons pe_str (pa_cons pe_str pa_nil))))))))))) (pe_call G__law_draw (hr.mono (by decide)) (by rfl) g__law_draw kp__law_draw b__law_draw .nil pass0 (pa_cons (pv 0) (pa_cons pe_int pa_nil))) (fun _ _ => rfl)) (pa_cons pe_int pa_nil))))))))), ?_⟩
    refine seq_asg ?_
    refine ⟨_, rfl, s, l, 4, rfl, hS, by decide, Nat.lt_of_lt_of_le (by decide) n9, fun pick H1 _ _ b1 S1 => ?_⟩
    refine gname (seq_ifN ?_)
    have fresh : ∀ (H2 : Hp), But s H H2 → Stm H2 s l → ∀ p, H2 p = Option.none → H p = Option.none := by
      intro H2 b2 S2 p np
      obtain ⟨os, hos⟩ := S2.at_s
      cases e : H p with
      | none => rfl
      | some o =>
        by_cases z : p = s
        · rw [z, hos] at np; cases np
        · rw [b2 _ _ z e] at np; cases np
    have tail : ∀ (σ : L2.St), σ = [some (.ref s), some (.int wd), some (.int pick)] → True := fun _ _ => trivial
    have atom : tRet (tTup (tCons (tC (V.str (Str.ofString "f"))) (tCons (tOp (rIxL K) (tLst (tCons (tC (V.str (Str.ofString "a"))) (tCons (tC (V.str (Str.ofString "b"))) (tCons (tC (V.str (Str.ofString "[]"))) (tCons (tC (V.str (Str.ofString "c d"))) (tCons (tC (V.str (Str.ofString "+"))) (tCons (tC (V.str (Str.ofString "foo"))) (tCons (tC (V.str (Str.ofString "f"))) (tCons (tC (V.str (Str.ofString "g"))) (tCons (tC (V.str (Str.ofString "-"))) (tCons (tC (V.str (Str.ofString "."))) tNil))))))))))) (tCall (sp__law_draw K) [] E0 (tCons (tVar 0) (tCons (tC (V.int 10)) tNil)))) (tCons (tC (V.int 0)) tNil)))) { nx := fun x H' => Q V.non H', rt := Q } [some (.ref s), some (.int wd), some (.int pick)] H1 := by
      show tTup _ _ _ _
      refine tup_of (args1 (const_of (args1 (op_of ?_))))
      refine lit_lst (K := K) (ds := names10.map PyData.str) ?_ (by decide) H1 _ fun v0 H2 t0 i0 => ?_
      · unfold names10
        simp only [List.map_cons, List.map_nil]
        walk_at "lits"
      cases i0 with
      | @lst p0 xs0 _ g0 e0 a0 =>
      obtain ⟨os1, hos1⟩ := S1.at_s
      have np0 : p0 ≠ s := fun z => by
        rw [z, hos1] at g0
        cases g0
      refine ⟨_, rfl, s, l, 10, rfl, S1.keep t0, by decide, Nat.lt_of_lt_of_le (by decide) n9, fun r H3 r0 r1 b3 S3 => ?_⟩
      obtain ⟨x, hx0, hatx⟩ := lit_pick a0 r0 r1
      have hx : okName x = true := (show ∀ x ∈ names10, okName x = true by decide +kernel) x hx0
      refine ⟨_, _, _, _, rfl, rfl, SqL.of (b3 _ _ np0 e0), hatx, (by show 3 ≤ sizeLine; decide), fun p np => ?_⟩
      have b13 := (b1.trans (But.of t0)).trans b3
      obtain ⟨os, hos⟩ := S3.at_s
      obtain ⟨ol, hol⟩ := S3.at_l
      exact q _ (.tuple [.str "f", .str x, .int 0]) _ (.f x 0 hx (by decide) (by decide)) rfl (b13.trans (But.of (same_upd np))) (S3.put (ne_of_none hos np) (ne_of_none hol np)) (.tup (fresh H3 b13 S3 p np) upd_same (.cons (.str _) (.cons (.str _) (.cons (.int _) .nil))))
    refine ⟨_, rfl, _, _, rfl, rfl, _, rfl, ite2 (fun e => ?_) (fun e => ?_)⟩
    · refine ⟨_, rfl, _, _, rfl, rfl, _, rfl, ite2 (fun e2 => ?_) (fun e2 => absurd (decide_eq_true hw) e2)⟩
      refine ⟨_, rfl, _, rfl, s, l, wd, rfl, S1, hw, Nat.lt_of_lt_of_le (show wd.natAbs < 2 ^ 140 from Nat.lt_of_le_of_lt (show wd.natAbs ≤ 1000 by omega) (by decide)) n9, fun r H2 r0 r1 b2 S2 => ⟨(by show 2 ≤ sizeLine; decide), fun p np => ?_⟩⟩
      obtain ⟨os, hos⟩ := S2.at_s
      obtain ⟨ol, hol⟩ := S2.at_l
      exact q _ (.tuple [.str "v", .int r]) _ (.v r r0 r1) rfl ((b1.trans b2).trans (But.of (same_upd np))) (S2.put (ne_of_none hos np) (ne_of_none hol np)) (.tup (fresh H2 (b1.trans b2) S2 p np) upd_same (.cons (.str _) (.cons (.int _) .nil)))
    · refine iteF (seq_ifN ?_)
      refine ⟨_, rfl, rfl, _, rfl, ite2 (fun e2 => ?_) (fun e2 => ?_)⟩
      · refine seq_ifN ?_
        refine ⟨_, rfl, s, l, 6, rfl, S1, by decide, Nat.lt_of_lt_of_le (by decide) n9, fun r2 H2 _ _ b2 S2 => ⟨rfl, _, rfl, ite2 (fun e3 => ?_) (fun e3 => ?_)⟩⟩
        · have h30 : (10 : Int) ^ (30 : Int).toNat = 10 ^ 30 := rfl
          refine ⟨_, _, rfl, rfl, ⟨by decide, by decide, by decide⟩, _, rfl, s, l, 3, rfl, S2, by decide, Nat.lt_of_lt_of_le (by decide) n9, fun r3 H3 r30 r31 b3 S3 => ⟨_, _, rfl, rfl, _, _, rfl, rfl, .inr ⟨by omega, by omega⟩, _, rfl, s, l, 3, rfl, S3, by decide, Nat.lt_of_lt_of_le (by decide) n9, fun r4 H4 r40 r41 b4 S4 => ⟨_, _, rfl, rfl, ?_⟩⟩⟩
          rw [h30]
          exact q _ (.int (10 ^ 30 * (r3 - 1) + r4)) _ (.i _ (by omega) (by omega)) rfl (((b1.trans b2).trans b3).trans b4) S4 (.int _)
        · refine ⟨_, rfl, s, l, 5, rfl, S2, by decide, Nat.lt_of_lt_of_le (by decide) n9, fun r3 H3 r30 r31 b3 S3 => ⟨_, _, rfl, rfl, ?_⟩⟩
          exact q _ (.int (r3 - 1)) _ (.i _ (by omega) (by omega)) rfl ((b1.trans b2).trans b3) S3 (.int _)
      · exact atom

theorem ok_end_of {f : Addr} {fd : FuncData} (F : Fun K "end_of" "end_of" s_end_of f fd) (E : Bi K mg) (D_arity_of : Has P w K mg base 2 "arity_of" ["node"] (sp_arity_of K)) : FnOk P w K mg base CX0 3 f fd ["nodes", "start"] (sp_end_of K) := by
  obtain ⟨f_arity_of, fd_arity_of, G_arity_of, g_arity_of, kp_arity_of, b_arity_of⟩ := D_arity_of
  refine F.ok sc_end_of (fun vs H Q E h => ?_) (fun cdv A outer s H vs Q E' hr h => ?_)
  · obtain ⟨x, ds, i, k, rfl, _⟩ := h
    rfl
  · obtain ⟨x, ds, i, k, rfl, hd, hn, hc, q⟩ := h
    refine ⟨_, (pss_cons (ps_set (i := 2) sc_end_of.nd rfl (Or.inl rfl) pe_int)
      (pss_cons (ps_set (i := 3) sc_end_of.nd rfl (Or.inl rfl) (pv 1))
      (pss_cons (ps_while PassesOwn.never (pt_cmpR op_gt (pv 2) pe_int (nomark _)) (pss_cons (ps_aug (i := 2) sc_end_of.nd rfl (Or.inl rfl) (pe_op op_sub (pe_call G_arity_of (hr.mono (by decide)) (by rfl) g_arity_of kp_arity_of b_arity_of .nil pass0 (pa_cons (pe_ix (show IxR _ (rIxT K) from ix_tup) (pv 0) (pv 3) (fun _ _ => rfl)) pa_nil)) pe_int) ip_add)
      (pss_one (ps_aug (i := 3) sc_end_of.nd rfl (Or.inl rfl) pe_int ip_add))))
      (pss_one (ps_ret (pv 3)))))), ?_⟩
    cases hd with
    | @tup a xs _ hs ha =>
    refine seq_asg (gname (seq_asg ?_))
    refine ⟨_, rfl, ?_⟩
    refine gname (seq_any ?_)
    refine ⟨fun n σ H' => ∃ (m j kk : Nat), σ = [some (.ref a), some (.int (i : Int)), some (.int (m : Int)), some (.int (j : Int))] ∧ H' = H ∧ Cls kk (ds.drop j) ∧ m ≤ kk ∧ j + tk m (ds.drop j) = i + tk 1 (ds.drop i) ∧ n = ds.length - j,
      ⟨_, 1, i, k + 1, rfl, rfl, hc, by omega, rfl, rfl⟩, ?_⟩
    rintro n σ H1 ⟨m, j, kk, rfl, rfl, h1, h2, h3, rfl⟩
    refine ⟨_, rfl, _, _, rfl, rfl, _, rfl, ite2 (fun e => ?_) (fun e => ?_)⟩
    · have hm : 0 < m := by
        have := of_decide_eq_true e
        omega
      cases hl : ds.drop j with
      | nil =>
        rw [hl] at h1
        have : kk = 0 := h1
        omega
      | cons d r =>
        rw [hl] at h1 h3
        have hj : j < ds.length := by
          rcases Nat.lt_or_ge j ds.length with h | h
          · exact h
          · rw [List.drop_of_length_le h] at hl; cases hl
        have hdj : ds[j]? = some d := by
          rw [← List.head?_drop, hl]
          rfl
        have hr : ds.drop (j + 1) = r := by
          rw [← List.drop_drop, hl]
          rfl
        obtain ⟨v, hv, hdv⟩ := DpAll.get ha hdj
        refine ⟨fun σ' H' => ∃ (m' kk' : Nat), σ' = [some (.ref a), some (.int (i : Int)), some (.int (m' : Int)), some (.int ((j + 1 : Nat) : Int))] ∧ H' = H1 ∧ Cls kk' (ds.drop (j + 1)) ∧ m' ≤ kk' ∧ j + 1 + tk m' (ds.drop (j + 1)) = i + tk 1 (ds.drop i),
          fun σ' H' ⟨m', kk', g1, g2, g3, g4, g5⟩ => ⟨ds.length - (j + 1), by omega, m', j + 1, kk', g1, g2, g3, g4, g5, rfl⟩, ?_⟩
        refine ⟨_, rfl, _, rfl, _, rfl, _, _, _, _, rfl, rfl, hs, atI_nat (j := j) hv, v, d, rfl, hdv, hn d (List.mem_of_getElem? hdj), _, _, rfl, rfl, _, _, rfl, rfl, ?_⟩
        refine ⟨_, rfl, _, _, rfl, rfl, ?_⟩
        refine ⟨m - 1 + arN d, kk - 1 + arN d, ?_, rfl, by rw [hr]; exact h1.2, by omega, ?_⟩
        · rw [show ((m - 1 + arN d : Nat) : Int) = (m : Int) + ((arN d : Int) - 1) by omega]
          rfl
        · rw [tk_cons hm] at h3
          rw [hr]
          omega
    · have hm : m = 0 := by
        cases m with
        | zero => rfl
        | succ m => exact absurd (decide_eq_true (by omega)) e
      subst hm
      refine nxp ?_
      refine ⟨_, rfl, ?_⟩
      rw [tk_zero] at h3
      rw [← h3] at q
      exact q

theorem ok__law_term {f : Addr} {fd : FuncData} (F : Fun K "_law_term" "_law_term" s__law_term f fd) (E : Bi K mg) (D__law_draw : Has P w K mg base 1 "_law_draw" ["stream", "many"] (sp__law_draw K)) (D__law_leaf : Has P w K mg base 2 "_law_leaf" ["stream", "widest"] (sp__law_leaf K)) : FnOk P w K mg base CX0 3 f fd ["stream", "size", "widest"] (sp__law_term K) := by
  obtain ⟨f__law_draw, fd__law_draw, G__law_draw, g__law_draw, kp__law_draw, b__law_draw⟩ := D__law_draw
  obtain ⟨f__law_leaf, fd__law_leaf, G__law_leaf, g__law_leaf, kp__law_leaf, b__law_leaf⟩ := D__law_leaf
  refine F.ok sc__law_term (fun vs H Q E h => ?_) (fun cdv A outer s H vs Q E' hr h => ?_)
  · obtain ⟨s, l, n, wd, rfl, _⟩ := h
    rfl
  · obtain ⟨s, l, n, wd, rfl, hS, hn, hn2, hw, hw2, q⟩ := h
    have n9 : (2 : Nat) ^ 140 ≤ 2 ^ 9000 := Nat.pow_le_pow_right (by decide) (by decide)
    refine ⟨_, (pss_cons (ps_set (i := 3) sc__law_term.nd rfl (Or.inl rfl) (pe_lst pa_nil))
      (pss_cons (ps_set (i := 4) sc__law_term.nd rfl (Or.inl rfl) pe_int)
      (pss_cons (ps_while PassesOwn.never (pt_cmpR op_gt (pv 4) pe_int (nomark _)) (pss_cons (ps_set (i := 4) sc__law_term.nd rfl (Or.inl rfl) (pe_op op_sub (pv 4) pe_int))
      (pss_cons (ps_set (i := 5) sc__law_term.nd rfl (Or.inl rfl) (pe_op op_sub (pe_op op_sub (pe_op op_sub (pv 1) (pe_callB (show CallR _ (.builtin "len") (fun xs H Q => ∃ p ys, xs = [V.ref p] ∧ (SqL K H p ys ∨ SqT K H p ys) ∧ Q (V.int ys.length) H) from call_len_seq) (by rfl) E.b_len PySem.boot_len (pa_cons (pv 3) pa_nil))) (pv 4)) pe_int))
      (pss_one (ps_if (pw_and (pt_cmpR op_gt (pv 5) pe_int (nomark _)) (pw_and1 (pt_cmpR op_gt (pe_call G__law_draw (hr.mono (by decide)) (by rfl) g__law_draw kp__law_draw b__law_draw .nil pass0 (pa_cons (pv 0) (pa_cons pe_int pa_nil))) pe_int (nomark _)))).pt (pss_cons (ps_set (i := 6) sc__law_term.nd rfl (Or.inl rfl) (pe_op op_add pe_int (pe_call G__law_draw (hr.mono (by decide)) (by rfl) g__law_draw kp__law_draw b__law_draw .nil pass0 (pa_cons (pv 0) (pa_cons (pe_callB (call_min2 rfl) (by rfl) E.b_min (by decide +kernel) (pa_cons (pv 5) (pa_cons (pe_op op_add pe_int (pe_op op_mul pe_int (pe_callTy call_int1 (by rfl) E.b_int (by decide +kernel) (pa_cons (pe_cmpR op_eq (pe_call G__law_draw (hr.mono (by decide)) (by rfl) g__law_draw kp__law_draw b__law_draw .nil pass0 (pa_cons (pv 0) (pa_cons pe_int pa_nil))) pe_int (nomark _)) pa_nil)))) pa_nil))) pa_nil)))))
      (pss_cons (ps_set (i := 6) sc__law_term.nd rfl (Or.inl rfl) (pe_callB (call_min2 rfl) (by rfl) E.b_min (by decide +kernel) (pa_cons (pv 6) (pa_cons pe_int pa_nil))))
      (pss_cons (ps_set (i := 7) sc__law_term.nd rfl (Or.inl rfl) (pe_ix (show IxR _ (rIxL K) from ix_list) (pe_lst (pa_cons pe_str (pa_cons pe_str (pa_cons pe_str (pa_cons pe_str (pa_cons pe_str (pa_cons pe_str (pa_cons pe_str pa_nil)))))))) (pe_call G__law_draw (hr.mono (by decide)) (by rfl) g__law_draw kp__law_draw b__law_draw .nil pass0 (pa_cons (pv 0) (pa_cons pe_int pa_nil))) (fun _ _ => rfl)))
      (pss_cons (ps_expr (pe_bm PySem.F.plainAttrs_list PySem.F.slot_list_append PySem.F.type_list_append mt_append (pv 3) (pa_cons (pe_tup (pa_cons pe_str (pa_cons (pv 7) (pa_cons (pv 6) pa_nil)))) pa_nil)))
      (pss_one (ps_set (i := 4) sc__law_term.nd rfl (Or.inl rfl) (pe_op op_add (pv 4) (pv 6)))))))) (pss_one (ps_expr (pe_bm PySem.F.plainAttrs_list PySem.F.slot_list_append PySem.F.type_list_append mt_append (pv 3) (pa_cons (pe_call G__law_leaf (hr.mono (by decide)) (by rfl) g__law_leaf kp__law_leaf b__law_leaf .nil pass0 (pa_cons (pv 0) (pa_cons (pv 2) pa_nil))) pa_nil)))))))))
      (pss_one (ps_ret (pe_callTy call_tuple_of (by rfl) E.b_tuple (by decide +kernel) (pa_cons (pv 3) pa_nil))))))), ?_⟩
    refine seq_asg ?_
    refine ⟨Nat.zero_le _, fun r nr => ?_⟩
    refine gname (seq_asg (gname (seq_any ?_)))
    obtain ⟨os, hos⟩ := hS.at_s
    obtain ⟨ol, hol⟩ := hS.at_l
    have sr : s ≠ r := ne_of_none hos nr
    have lr : l ≠ r := ne_of_none hol nr
    refine ⟨fun k σ H' => ∃ (m : Nat) (va vb vc : Option V) (xs : List V) (ds : List PyData), σ = [some (.ref s), some (.int n), some (.int wd), some (.ref r), some (.int (m : Int)), va, vb, vc] ∧ H' r = some (.lst xs) ∧ ImAll K (fun b => H b = Option.none ∧ b ≠ r) H' xs ds ∧
        (∀ t, Cls m t → Cls 1 (ds ++ t)) ∧ (∀ d ∈ ds, Nd wd d) ∧ (ds.length : Int) + m ≤ n ∧ Stm H' s l ∧ But s H H' ∧ k = n.toNat - ds.length,
      ⟨_, 1, _, _, _, [], [], rfl, upd_same, .nil, fun t h => h, (fun d hd => nomatch hd), by show (0 : Int) + 1 ≤ n; omega, hS.put sr lr, But.of (same_upd nr), rfl⟩, ?_⟩
    rintro k σ H1 ⟨m, va, vb, vc, xs, ds, rfl, h1, h2, h3, h4, h5, h6, h7, rfl⟩
    have hxl : xs.length = ds.length := h2.len
    refine ⟨_, rfl, _, _, rfl, rfl, _, rfl, ite2 (fun e => ?_) (fun e => ?_)⟩
    · have hm : 0 < m := by
        have := of_decide_eq_true e
        omega
      refine ⟨fun σ' H' => ∃ (m' : Nat) (va vb vc : Option V) (xs' : List V) (ds' : List PyData), σ' = [some (.ref s), some (.int n), some (.int wd), some (.ref r), some (.int (m' : Int)), va, vb, vc] ∧ H' r = some (.lst xs') ∧ ImAll K (fun b => H b = Option.none ∧ b ≠ r) H' xs' ds' ∧
        (∀ t, Cls m' t → Cls 1 (ds' ++ t)) ∧ (∀ d ∈ ds', Nd wd d) ∧ (ds'.length : Int) + m' ≤ n ∧ Stm H' s l ∧ But s H H' ∧ ds'.length = ds.length + 1,
        fun σ' H' ⟨m', va', vb', vc', xs', ds', g1, g2, g3, g4, g5, g6, g7, g8, g9⟩ => ⟨n.toNat - ds'.length, by omega, m', va', vb', vc', xs', ds', g1, g2, g3, g4, g5, g6, g7, g8, rfl⟩, ?_⟩
      -- missing = missing - 1; room = ..
      refine seq_asg ?_
      refine ⟨_, rfl, _, _, rfl, rfl, ?_⟩
      refine gname (seq_asg ?_)
      refine ⟨_, rfl, _, rfl, _, _, rfl, .inl (SqL.of h1), _, _, rfl, rfl, _, rfl, _, _, rfl, rfl, _, _, rfl, rfl, ?_⟩
      refine gname ?_
      -- a new node is put behind
      have put : ∀ (H2 : Hp) (v : V) (d : PyData), But s H1 H2 → Stm H2 s l → Im K (fun b => H1 b = Option.none) H2 v d → Nd wd d → ∀ (m' : Nat) (z : Int), z = (m' : Int) → m' = m - 1 + arN d → (ds.length : Int) + 1 + m' ≤ n → ∀ va vb vc,
          ∃ (m'' : Nat) (va' vb' vc' : Option V) (xs' : List V) (ds' : List PyData), [some (.ref s), some (.int n), some (.int wd), some (.ref r), some (.int z), va, vb, vc] = [some (.ref s), some (.int n), some (.int wd), some (.ref r), some (.int (m'' : Int)), va', vb', vc'] ∧ (upd H2 r (.lst (xs ++ [v]))) r = some (.lst xs') ∧ ImAll K (fun b => H b = Option.none ∧ b ≠ r) (upd H2 r (.lst (xs ++ [v]))) xs' ds' ∧
            (∀ t, Cls m'' t → Cls 1 (ds' ++ t)) ∧ (∀ d ∈ ds', Nd wd d) ∧ (ds'.length : Int) + m'' ≤ n ∧ Stm (upd H2 r (.lst (xs ++ [v]))) s l ∧ But s H (upd H2 r (.lst (xs ++ [v]))) ∧ ds'.length = ds.length + 1 := by
        intro H2 v d b2 S2 iv nd m' z hz em hle va vb vc
        have k1 : ∀ b o, (H b = Option.none ∧ b ≠ r) → H1 b = some o → (upd H2 r (.lst (xs ++ [v]))) b = some o := fun b o g e => by
          rw [upd_ne g.2]
          exact b2 b o (fun z => by rw [z, hos] at g; cases g.1) e
        have k2 : ∀ b o, H1 b = Option.none → H2 b = some o → (upd H2 r (.lst (xs ++ [v]))) b = some o := fun b o g e => by
          rw [upd_ne (fun z => by rw [z, h1] at g; cases g)]
          exact e
        have k3 : ∀ b, H1 b = Option.none → H b = Option.none ∧ b ≠ r := fun b g => by
          refine ⟨?_, fun z => by rw [z, h1] at g; cases g⟩
          cases eh : H b with
          | none => rfl
          | some o =>
            by_cases z : b = s
            · obtain ⟨o1, ho1⟩ := h6.at_s
              rw [z, ho1] at g; cases g
            · rw [h7 _ _ z eh] at g; cases g
        have k4 : ∀ t, Cls m' t → Cls 1 ((ds ++ [d]) ++ t) := fun t ht => by
          rw [List.append_assoc]
          exact h3 _ ⟨hm, by rw [em] at ht; exact ht⟩
        have k5 : ∀ d' ∈ ds ++ [d], Nd wd d' := fun d' hd' => by
          rcases List.mem_append.mp hd' with z | z
          · exact h4 _ z
          · rw [List.mem_singleton.mp z]; exact nd
        have k6 : ((ds ++ [d]).length : Int) + (m' : Int) ≤ n := by
          rw [List.length_append]
          show ((ds.length + 1 : Nat) : Int) + (m' : Int) ≤ n
          omega
        have k7 : But s H (upd H2 r (.lst (xs ++ [v]))) := fun b o hb e => by
          rw [upd_ne (ne_of_none e nr)]
          exact b2 b o hb (h7 b o hb e)
        exact ⟨m', va, vb, vc, xs ++ [v], ds ++ [d], by rw [hz], upd_same, ImAll.snoc (Im.monoAll k1 (fun _ g => g) _ _ h2) (Im.mono k2 k3 _ _ iv), k4, k5, k6, S2.put sr lr, k7, by rw [List.length_append]; rfl⟩
      have hm1 : (m : Int) - 1 = ((m - 1 : Nat) : Int) := by omega
      -- if room > 0 and draw > 0
      refine ⟨_, rfl, _, _, rfl, rfl, _, rfl, ite2 (fun e1 => ?_) (fun e1 => ?_)⟩
      · have hroom : 0 < n - (xs.length : Int) - ((m : Int) - 1) - 1 := of_decide_eq_true e1
        refine ⟨_, rfl, s, l, 3, rfl, h6, by decide, Nat.lt_of_lt_of_le (by decide) n9, fun r1 H2 _ _ b2 S2 => ⟨_, _, rfl, rfl, _, rfl, ite2 (fun e2 => ?_) (fun e2 => ?_)⟩⟩
        · refine seq_asg ?_
          refine ⟨_, rfl, _, rfl, _, rfl, s, l, 9, rfl, S2, by decide, Nat.lt_of_lt_of_le (by decide) n9, fun r2 H3 _ _ b3 S3 => ⟨rfl, .inr ⟨_, rfl, _, _, rfl, rfl, .inl ⟨by decide, by decide⟩, _, _, rfl, rfl, _, _, rfl, ?_⟩⟩⟩
          have hk : (0 : Int) ≤ (if decide (V.int r2 = V.int 0) = true then 1 else 0) ∧ (if decide (V.int r2 = V.int 0) = true then (1 : Int) else 0) ≤ 1 := by split <;> decide
          generalize (if decide (V.int r2 = V.int 0) = true then (1 : Int) else 0) = k at hk
          refine ⟨s, l, _, rfl, S3, by split <;> omega, Nat.lt_of_lt_of_le (show _ < 2 ^ 140 from Nat.lt_of_le_of_lt (show _ ≤ 1000 by split <;> omega) (by decide)) n9, fun r3 H4 r30 r31 b4 S4 => ⟨_, _, rfl, rfl, ?_⟩⟩
          have h3r : 1 + r3 ≤ n - (xs.length : Int) - ((m : Int) - 1) - 1 := by
            split at r31 <;> omega
          refine gname (seq_asg ?_)
          refine ⟨_, rfl, _, _, rfl, ?_⟩
          refine gname (seq_asg ?_)
          have har : 1 ≤ (if (8 : Int) < 1 + r3 then 8 else 1 + r3) ∧ (if (8 : Int) < 1 + r3 then 8 else 1 + r3) ≤ 8 ∧ (if (8 : Int) < 1 + r3 then 8 else 1 + r3) ≤ 1 + r3 := by split <;> omega
          have e4a : H4 r = some (.lst xs) := b4 _ _ sr.symm (b3 _ _ sr.symm (b2 _ _ sr.symm h1))
          generalize hga : (if (8 : Int) < 1 + r3 then (8 : Int) else 1 + r3) = ar at har
          obtain ⟨ha1, ha8, har3⟩ := har
          refine lit_lst (K := K) (ds := names7.map PyData.str) ?_ (by decide) H4 _ fun v0 H4b t0 i0 => ?_
          · unfold names7
            simp only [List.map_cons, List.map_nil]
            walk_at "lits"
          cases i0 with
          | @lst p0 xs0 _ g0 e0 a0 =>
          obtain ⟨os4, hos4⟩ := S4.at_s
          have np0 : p0 ≠ s := fun z => by
            rw [z, hos4] at g0
            cases g0
          have e4 : H4b r = some (.lst xs) := t0 _ _ e4a
          refine ⟨_, rfl, s, l, 7, rfl, S4.keep t0, by decide, Nat.lt_of_lt_of_le (by decide) n9, fun r7 H5 r70 r71 b5 S5 => ?_⟩
          obtain ⟨x, hx0, hatx⟩ := lit_pick a0 r70 r71
          have hx : okName x = true := (show ∀ x ∈ names7, okName x = true by decide +kernel) x hx0
          refine ⟨_, _, _, _, rfl, rfl, SqL.of (b5 _ _ np0 e0), hatx, ?_⟩
          have e5a : H5 r = some (.lst xs) := b5 _ _ sr.symm e4
          refine gname (seq_any ?_)
          refine ⟨_, rfl, .inl ⟨rfl, _, SqL.of e5a⟩, _, rfl, _, rfl, (by show 3 ≤ sizeLine; decide), fun p np => ?_⟩
          have e5 : H5 r = some (.lst xs) := b5 _ _ sr.symm e4
          obtain ⟨os5, hos5⟩ := S5.at_s
          obtain ⟨ol5, hol5⟩ := S5.at_l
          have bb : But s H1 H5 := (((b2.trans b3).trans b4).trans (But.of t0)).trans b5
          have fp : H1 p = Option.none := by
            cases eh : H1 p with
            | none => rfl
            | some o =>
              by_cases z : p = s
              · rw [z, hos5] at np; cases np
              · rw [bb _ _ z eh] at np; cases np
          have rp : r ≠ p := ne_of_none e5 np
          refine ⟨_, _, _, rfl, rfl, by rw [upd_ne rp]; exact e5, small1000 (by omega), ?_⟩
          refine nxp (asg1 ?_)
          refine ⟨_, rfl, _, rfl, _, _, rfl, rfl, ?_⟩
          refine gname ?_
          have ea : arN (.tuple [.str "f", .str x, .int ar]) = ar.toNat := rfl
          exact put _ (.ref p) (.tuple [.str "f", .str x, .int ar]) (bb.trans (But.of (same_upd np))) (S5.put (ne_of_none hos5 np) (ne_of_none hol5 np)) (.tup fp upd_same (.cons (.str _) (.cons (.str _) (.cons (.int _) .nil)))) (.f x ar hx (by omega) ha8) (m - 1 + ar.toNat) _ (by omega) rfl (by omega) _ _ _
        · have e2r : H2 r = some (.lst xs) := b2 _ _ sr.symm h1
          refine ⟨_, rfl, .inl ⟨rfl, _, SqL.of e2r⟩, _, rfl, _, rfl, s, l, wd, rfl, S2, hw, hw2, fun v d H3 nd na b3 S3 iv => ?_⟩
          have fr : ∀ b, H2 b = Option.none → H1 b = Option.none := fun b g => by
            cases eh : H1 b with
            | none => rfl
            | some o =>
              by_cases z : b = s
              · obtain ⟨o1, ho1⟩ := S2.at_s
                rw [z, ho1] at g; cases g
              · rw [b2 _ _ z eh] at g; cases g
          refine ⟨_, _, _, rfl, rfl, b3 _ _ sr.symm e2r, small1000 (by omega), ?_⟩
          exact put H3 v d (b2.trans b3) S3 (Im.mono (fun _ _ _ e => e) fr _ _ iv) nd (m - 1) _ hm1 (by rw [na]; rfl) (by omega) _ _ _
      · refine iteF ?_
        refine ⟨_, rfl, .inl ⟨rfl, _, SqL.of h1⟩, _, rfl, _, rfl, s, l, wd, rfl, h6, hw, hw2, fun v d H3 nd na b3 S3 iv => ?_⟩
        refine ⟨_, _, _, rfl, rfl, b3 _ _ sr.symm h1, small1000 (by omega), ?_⟩
        exact put H3 v d b3 S3 iv nd (m - 1) _ hm1 (by rw [na]; rfl) (by omega) _ _ _
    · refine nxp ?_
      have hm : m = 0 := by
        cases m with
        | zero => rfl
        | succ m => exact absurd (decide_eq_true (by omega)) e
      subst hm
      have ht : Term wd ds := ⟨by have := h3 [] rfl; rwa [List.append_nil] at this, h4⟩
      refine ⟨_, rfl, _, _, rfl, .inl ⟨SqL.of h1, fun t nt => ?_⟩⟩
      obtain ⟨os1, hos1⟩ := h6.at_s
      obtain ⟨ol1, hol1⟩ := h6.at_l
      have ft : H t = Option.none := by
        cases eh : H t with
        | none => rfl
        | some o =>
          by_cases z : t = s
          · rw [z, hos1] at nt; cases nt
          · rw [h7 _ _ z eh] at nt; cases nt
      exact q _ ds _ ht (by omega) (h7.trans (But.of (same_upd nt))) (h6.put (ne_of_none hos1 nt) (ne_of_none hol1 nt)) (.tup ft upd_same (Im.monoAll (fun b o _ e => same_upd nt b o e) (fun _ g => g.1) _ _ h2))

theorem ok_parts {f : Addr} {fd : FuncData} (F : Fun K "parts" "parts" s_parts f fd) (E : Bi K mg) (D_end_of : Has P w K mg base 3 "end_of" ["nodes", "start"] (sp_end_of K)) : FnOk P w K mg base CX0 4 f fd ["term"] (sp_parts K) := by
  obtain ⟨f_end_of, fd_end_of, G_end_of, g_end_of, kp_end_of, b_end_of⟩ := D_end_of
  refine F.ok sc_parts (fun vs H Q E h => ?_) (fun cdv A outer s H vs Q E' hr h => ?_)
  · obtain ⟨x, d0, rows, rfl, _⟩ := h
    rfl
  · obtain ⟨x, d0, rows, rfl, hd, n0, hrow, hl, hf, q⟩ := h
    refine ⟨_, (pss_cons (ps_set (i := 1) sc_parts.nd rfl (Or.inl rfl) (pe_lst pa_nil))
      (pss_cons (ps_set (i := 2) sc_parts.nd rfl (Or.inl rfl) pe_int)
      (pss_cons (ps_while PassesOwn.never (pt_cmpR op_lt (pv 2) (pe_callB (show CallR _ (.builtin "len") (fun xs H Q => ∃ p ys, xs = [V.ref p] ∧ (SqL K H p ys ∨ SqT K H p ys) ∧ Q (V.int ys.length) H) from call_len_seq) (by rfl) E.b_len PySem.boot_len (pa_cons (pv 0) pa_nil)) (nomark _)) (pss_cons (ps_set (i := 3) sc_parts.nd rfl (Or.inl rfl) (pe_call G_end_of (hr.mono (by decide)) (by rfl) g_end_of kp_end_of b_end_of .nil pass0 (pa_cons (pv 0) (pa_cons (pv 2) pa_nil))))
      (pss_cons (ps_expr (pe_bm PySem.F.plainAttrs_list PySem.F.slot_list_append PySem.F.type_list_append mt_append (pv 1) (pa_cons (pe_slice sl_tupA (pv 0) (po_some (pv 2)) (po_some (pv 3))) pa_nil)))
      (pss_one (ps_set (i := 2) sc_parts.nd rfl (Or.inl rfl) (pv 3))))))
      (pss_one (ps_ret (pv 1)))))), ?_⟩
    cases id hd with
    | @tup a xs _ hs ha =>
    have hxl := DpAll.len ha
    rw [List.length_cons] at hxl
    refine seq_asg ?_
    refine ⟨Nat.zero_le _, fun r nr => ?_⟩
    have s0 := same_upd (o := .lst []) nr
    have e0 : (upd H r (.lst [])) r = some (.lst []) := upd_same
    generalize upd H r (.lst []) = H1 at s0 e0
    refine gname (seq_asg ?_)
    refine gname (seq_any ?_)
    have hnd : ∀ d ∈ d0 :: rows.flatten, NdA d := fun d hd => by
      rcases List.mem_cons.mp hd with z | z
      · rw [z]; exact n0
      · obtain ⟨row, h1, h2⟩ := List.mem_flatten.mp z
        exact (hrow row h1).2 d h2
    have hsplit : ∀ j, rows.flatten = (rows.take j).flatten ++ (rows.drop j).flatten := fun j => by rw [← List.flatten_append, List.take_append_drop]
    refine ⟨fun m σ H' => ∃ (j : Nat) (ys : List V) (v3 : Option V), σ = [some (.ref a), some (.ref r), some (.int ((1 + ((rows.take j).flatten).length : Nat) : Int)), v3] ∧ Same H H' ∧ H' r = some (.lst ys) ∧ DpAll K H' ys ((rows.take j).map PyData.tuple) ∧ j ≤ rows.length ∧ m = rows.length - j,
      ⟨_, 0, [], none, rfl, s0, e0, .nil, Nat.zero_le _, rfl⟩, ?_⟩
    rintro m σ H2 ⟨j, ys, v3, rfl, s2, e2, d2, hj, rfl⟩
    refine ⟨_, rfl, _, rfl, _, _, rfl, .inr (same_sqT s2 hs), _, _, rfl, rfl, _, rfl, ?_⟩
    rcases Nat.lt_or_ge j rows.length with hjl | hjl
    · obtain ⟨row, hrw⟩ : ∃ row, rows[j]? = some row := ⟨_, List.getElem?_eq_getElem hjl⟩
      have hrm := List.mem_of_getElem? hrw
      have hdj : rows.drop j = row :: rows.drop (j + 1) := by
        obtain ⟨h1, h2⟩ := List.getElem?_eq_some_iff.mp hrw
        rw [List.drop_eq_getElem_cons h1, h2]
      have hpos : 0 < row.length := by
        have := (hrow row hrm).1
        cases row with
        | nil => exact absurd (show (1 : Nat) = 0 from this) (by decide)
        | cons => rw [List.length_cons]; omega
      have hfl : rows.flatten.length = ((rows.take j).flatten).length + (row.length + ((rows.drop (j + 1)).flatten).length) := by
        have e := congrArg List.length (hsplit j)
        rw [hdj, List.flatten_cons, List.length_append, List.length_append] at e
        exact e
      have hcls := rows_cls (rows := rows) (rest := rows.drop (j + 1)) (row := row) fun y hy => hrow y (by
        rw [← hdj] at hy
        exact List.mem_of_mem_drop hy)
      rw [List.flatten_cons] at hcls
      have hT : (rows.take (j + 1)).flatten = (rows.take j).flatten ++ row := by rw [List.take_add_one, hrw, List.flatten_append]; show _ ++ (row ++ []) = _; rw [List.append_nil]
      generalize hTt : ((rows.take j).flatten).length = T at hfl
      have hdr : (d0 :: rows.flatten).drop (1 + T) = row ++ (rows.drop (j + 1)).flatten := by
        rw [show 1 + T = T + 1 by omega, List.drop_succ_cons, hsplit j, hdj, List.flatten_cons, ← hTt, List.drop_left']
        rfl
      rw [decide_eq_true (show ((1 + T : Nat) : Int) < (xs.length : Int) by omega)]
      refine ⟨_, fun σ' H' h => h, ?_⟩
      refine seq_asg ?_
      refine ⟨_, rfl, _, rfl, .ref a, _, 1 + T, (rows.drop (j + 1)).length, rfl, dp_same s2 _ _ hd, hnd, by rw [hdr]; exact hcls, ?_⟩
      rw [hdr, tk_row (hrow row hrm).1]
      refine gname ?_
      refine ⟨_, rfl, .inl ⟨rfl, _, SqL.of e2⟩, _, rfl, _, rfl, _, rfl, _, rfl, _, rfl, ?_⟩
      show rSlA K (.ref a) (some ((1 + T : Nat) : Int)) (some ((1 + T + row.length : Nat) : Int)) H2 _
      refine slA_nat (same_sqT s2 hs) (by omega) (by omega) fun b1 H3 s3 t3 _ => ?_
      have e3 := s3 _ _ e2
      have hyl := DpAll.len d2
      rw [List.length_map, List.length_take] at hyl
      have dv : Dp K H3 (.ref b1) (.tuple row) := by
        refine .tup t3 ?_
        have := DpAll.taket (1 + T + row.length - (1 + T)) (DpAll.dropt (1 + T) (dp_sameAll (s2.trans s3) _ _ ha))
        rw [hdr, List.take_left' (by omega)] at this
        exact this
      have n3 : notTup H3 r := .inl ⟨_, e3⟩
      refine ⟨_, _, _, rfl, rfl, e3, small1000 (by omega), ?_⟩
      refine ⟨_, rfl, gname ?_⟩
      have rowsN : ∀ l : List (List PyData), (∀ y ∈ l, ∀ d ∈ y, NdA d) → noLA (l.map PyData.tuple) = true := by
        intro l
        induction l with
        | nil => intro _; simp [noLA]
        | cons y l ih => intro h; rw [List.map_cons, noLA, tup_noL (h y List.mem_cons_self), ih fun z hz => h z (List.mem_cons_of_mem _ hz)]; rfl
      refine ⟨rows.length - (j + 1), by omega, j + 1, _, some (.int ((1 + T + row.length : Nat) : Int)), ?_, fun b o e => by rw [upd_ne (ne_of_none e nr)]; exact s3 _ _ (s2 _ _ e), upd_same, ?_, hjl, rfl⟩
      · rw [hT, List.length_append, hTt, ← Nat.add_assoc]
        rfl
      · rw [List.take_add_one, hrw, List.map_append]
        exact DpAll.app (dp_putAll n3 _ _ (rowsN _ fun y hy => (hrow y (List.mem_of_mem_take hy)).2) (dp_sameAll s3 _ _ d2)) (.cons (dp_put n3 _ _ (tup_noL (hrow row hrm).2) dv) .nil)
    · have hjj : j = rows.length := by omega
      subst hjj
      rw [List.take_length] at d2
      rw [decide_eq_false (by rw [List.take_length]; omega)]
      exact ⟨_, rfl, q r ys H2 s2 nr e2 d2⟩


theorem ok__law_clauses {f : Addr} {fd : FuncData} (F : Fun K "_law_clauses" "_law_clauses" s__law_clauses f fd) (E : Bi K mg) (D__law_term : Has P w K mg base 3 "_law_term" ["stream", "size", "widest"] (sp__law_term K)) (D__law_draw : Has P w K mg base 1 "_law_draw" ["stream", "many"] (sp__law_draw K)) : FnOk P w K mg base CX0 4 f fd ["stream", "arity", "many"] (sp__law_clauses K) := by
  obtain ⟨f__law_term, fd__law_term, G__law_term, g__law_term, kp__law_term, b__law_term⟩ := D__law_term
  obtain ⟨f__law_draw, fd__law_draw, G__law_draw, g__law_draw, kp__law_draw, b__law_draw⟩ := D__law_draw
  refine F.ok sc__law_clauses (fun vs H Q E h => ?_) (fun cdv A outer s H vs Q E' hr h => ?_)
  · obtain ⟨s, l, n, m, rfl, _⟩ := h
    rfl
  · obtain ⟨s, l, n, m, rfl, hS, n4, m12, q⟩ := h
    have n9 : (2 : Nat) ^ 8 ≤ 2 ^ 9000 := Nat.pow_le_pow_right (by decide) (by decide)
    refine ⟨_, (pss_cons (ps_set (i := 3) sc__law_clauses.nd rfl (Or.inl rfl) (pe_lst pa_nil))
      (pss_cons (ps_for PassesOwn.never rfl (pi_range1 (by rfl) E.b_range (pa_cons (pv 2) pa_nil)) (pg_name (i := 4) sc__law_clauses.nd rfl (Or.inl rfl)) (pss_cons (ps_set (i := 5) sc__law_clauses.nd rfl (Or.inl rfl) (pe_tup (pa_cons (pe_tup (pa_cons pe_str (pa_cons pe_str (pa_cons (pv 1) pa_nil)))) pa_nil)))
      (pss_cons (ps_for PassesOwn.never rfl (pi_range1 (by rfl) E.b_range (pa_cons (pv 1) pa_nil)) (pg_name (i := 6) sc__law_clauses.nd rfl (Or.inl rfl)) (pss_one (ps_set (i := 5) sc__law_clauses.nd rfl (Or.inl rfl) (pe_op op_catA (pv 5) (pe_call G__law_term (hr.mono (by decide)) (by rfl) g__law_term kp__law_term b__law_term .nil pass0 (pa_cons (pv 0) (pa_cons (pe_op op_add pe_int (pe_call G__law_draw (hr.mono (by decide)) (by rfl) g__law_draw kp__law_draw b__law_draw .nil pass0 (pa_cons (pv 0) (pa_cons pe_int pa_nil)))) (pa_cons pe_int pa_nil))))))))
      (pss_one (ps_expr (pe_bm PySem.F.plainAttrs_list PySem.F.slot_list_append PySem.F.type_list_append mt_append (pv 3) (pa_cons (pe_tup (pa_cons (pv 5) (pa_cons (pe_tup (pa_cons (pe_tup (pa_cons pe_str (pa_cons pe_str (pa_cons pe_int pa_nil)))) pa_nil)) pa_nil))) pa_nil)))))))
      (pss_one (ps_ret (pv 3))))), ?_⟩
    refine seq_asg ?_
    refine ⟨Nat.zero_le _, fun R nR => ?_⟩
    have s0 : Same H (upd H R (.lst [])) := same_upd nR
    have S0 := hS.keep s0
    obtain ⟨os, hos⟩ := hS.at_s
    obtain ⟨ol, hol⟩ := hS.at_l
    have sR : s ≠ R := ne_of_none hos nR
    have lR : l ≠ R := ne_of_none hol nR
    refine gname (seq_any ?_)
    refine ⟨_, rfl, _, rfl, by omega, by omega, ?_⟩
    refine for_range (lo := 0) (n := ((m : Nat) : Int).toNat) (fun i σ H' => ∃ (vs : List V) (cs : List (List (List PyData))) (v4 v5 v6 : Option V), σ = [some (.ref s), some (.int (n : Int)), some (.int (m : Int)), some (.ref R), v4, v5, v6] ∧ H' R = some (.lst vs) ∧ ImAll K (fun b => H b = Option.none ∧ b ≠ R) H' vs (cs.map (clD n)) ∧ (∀ rows ∈ cs, OkRows n rows) ∧ cs.length = i ∧ Stm H' s l ∧ (∀ b o, b ≠ s → H b = some o → H' b = some o))
      ⟨[], [], none, none, none, rfl, upd_same, .nil, (fun d hd => nomatch hd), rfl, S0, fun b o hb e => s0 _ _ e⟩ ?_ ?_
    · rintro i σ H1 hi ⟨vs, cs, v4, v5, v6, rfl, h1, i1, ok1, c1, S1, k1⟩
      rw [Int.toNat_natCast] at hi
      have hvl := i1.len
      rw [List.length_map] at hvl
      have G0 : ∀ {H' : Hp}, Stm H' s l → (∀ b o, b ≠ s → H b = some o → H' b = some o) → H' R = some (.lst vs) → ∀ b, H' b = Option.none → H b = Option.none ∧ b ≠ R := fun {H'} S' k' e' b g => by
        have bR : b ≠ R := fun z => by rw [z, e'] at g; cases g
        refine ⟨?_, bR⟩
        cases z : H b with
        | none => rfl
        | some o =>
          by_cases hb : b = s
          · obtain ⟨o1, ho1⟩ := S'.at_s
            rw [hb, ho1] at g
            cases g
          · rw [k' b o hb z] at g
            cases g
      refine gname (seq_asg ?_)
      refine ⟨_, rfl, (by show 3 ≤ sizeLine; decide), fun p1 np1 => ⟨(by show 1 ≤ sizeLine; decide), fun p2 np2 => ?_⟩⟩
      have s12 := (same_upd (o := .tup [.str "f", .str "p", .int (n : Int)]) np1).trans (same_upd (o := .tup [.ref p1]) np2)
      have g1 := G0 S1 k1 h1 p1 np1
      have g2 := G0 S1 k1 h1 p2 ((same_upd np1).free np2)
      have ih : Im K (fun b => H b = Option.none ∧ b ≠ R) (upd (upd H1 p1 (.tup [.str "f", .str "p", .int (n : Int)])) p2 (.tup [.ref p1])) (.ref p2) (.tuple (hdD n :: ([] : List (List PyData)).flatten)) := .tup g2 upd_same (.cons (.tup g1 (same_upd np2 _ _ upd_same) (.cons (.str _) (.cons (.str _) (.cons (.int _) .nil)))) .nil)
      have h2 := s12 _ _ h1
      have i2 := Im.monoAll (K := K) (G' := fun b => H b = Option.none ∧ b ≠ R) (fun b o _ e => s12 b o e) (fun _ g => g) _ _ i1
      have S2 := S1.keep s12
      have k2 : ∀ b o, b ≠ s → H b = some o → _ := fun b o hb e => s12 _ _ (k1 b o hb e)
      generalize upd (upd H1 p1 (.tup [.str "f", .str "p", .int (n : Int)])) p2 (.tup [.ref p1]) = H2 at ih h2 i2 S2 k2 ⊢
      refine gname (seq_any ?_)
      refine ⟨_, rfl, _, rfl, by omega, by omega, ?_⟩
      refine for_range (lo := 0) (n := ((n : Nat) : Int).toNat) (fun j σ H' => ∃ (hv : V) (rows : List (List PyData)) (v6 : Option V), σ = [some (.ref s), some (.int (n : Int)), some (.int (m : Int)), some (.ref R), some (.int (0 + (i : Int))), some hv, v6] ∧ H' R = some (.lst vs) ∧ ImAll K (fun b => H b = Option.none ∧ b ≠ R) H' vs (cs.map (clD n)) ∧ Im K (fun b => H b = Option.none ∧ b ≠ R) H' hv (.tuple (hdD n :: rows.flatten)) ∧ (∀ row ∈ rows, OkRow row) ∧ rows.length = j ∧ Stm H' s l ∧ (∀ b o, b ≠ s → H b = some o → H' b = some o))
        ⟨.ref p2, [], v6, rfl, h2, i2, ih, (fun d hd => nomatch hd), rfl, S2, k2⟩ ?_ ?_
      · rintro j σ H3 hj ⟨hv, rows, v6, rfl, h3, i3, ih3, ok3, c3, S3, k3⟩
        rw [Int.toNat_natCast] at hj
        have hfl := flat4 ok3
        refine gname (asg1 ?_)
        have bs : ∀ b, (H b = Option.none ∧ b ≠ R) → b ≠ s := fun b g z => by rw [z, hos] at g; cases g.1
        refine ⟨_, rfl, _, rfl, _, rfl, s, l, 4, rfl, S3, by decide, Nat.lt_of_lt_of_le (by decide) n9, fun w H4 w0 w1 b4 S4 => ⟨_, _, rfl, rfl, s, l, 1 + w, 3, rfl, S4, by omega, by omega, by decide, by decide, fun v ds H5 ht hlen b5 S5 iv => ?_⟩⟩
        have b35 := b4.trans b5
        have h4 := b4 _ _ sR.symm h3
        have h5 := b5 _ _ sR.symm h4
        have k4 : ∀ b o, b ≠ s → H b = some o → H4 b = some o := fun b o hb e => b4 b o hb (k3 b o hb e)
        have ih5 := Im.mono (K := K) (G' := fun b => H b = Option.none ∧ b ≠ R) (fun b o g e => b35 b o (bs b g) e) (fun _ g => g) _ _ ih3
        have iv5 := Im.mono (K := K) (G' := fun b => H b = Option.none ∧ b ≠ R) (fun _ _ _ e => e) (fun b g => G0 S4 k4 h4 b g) _ _ iv
        have hdl : (hdD n :: rows.flatten).length + ds.length ≤ 1000 := by rw [List.length_cons]; omega
        refine im_cat ih5 iv5 hdl fun v' H6 s6 i6 => ?_
        have k5 : ∀ b o, b ≠ s → H b = some o → H5 b = some o := fun b o hb e => b5 b o hb (k4 b o hb e)
        have ef : (hdD n :: rows.flatten) ++ ds = hdD n :: (rows ++ [ds]).flatten := by simp
        rw [ef] at i6
        refine gname ⟨v', rows ++ [ds], _, rfl, s6 _ _ h5, Im.monoAll (fun b o g e => s6 _ _ (b35 b o (bs b g) e)) (fun _ g => g) _ _ i3, Im.mono (fun _ _ _ e => e) (fun b g => g.elim id fun z => G0 S5 k5 h5 b z) _ _ i6, fun row hr => ?_, by rw [List.length_append, c3]; rfl, S5.keep s6, fun b o hb e => s6 _ _ (k5 b o hb e)⟩
        rcases List.mem_append.mp hr with z | z
        · exact ok3 row z
        · rw [List.mem_singleton.mp z]
          exact ⟨ht.cl, fun d hd => ⟨3, ht.nd d hd⟩, by omega⟩
      · rintro σ H3 ⟨hv, rows, v6, rfl, h3, i3, ih3, ok3, c3, S3, k3⟩
        rw [Int.toNat_natCast] at c3
        refine nxp ?_
        refine ⟨_, rfl, .inl ⟨rfl, _, SqL.of h3⟩, _, rfl, (by show 3 ≤ sizeLine; decide), fun q1 nq1 => ⟨(by show 1 ≤ sizeLine; decide), fun q2 nq2 => ⟨(by show 2 ≤ sizeLine; decide), fun q3 nq3 => ?_⟩⟩⟩
        have t1 := same_upd (o := .tup [.str "f", .str "true", .int 0]) nq1
        have t2 := t1.trans (same_upd (o := .tup [.ref q1]) nq2)
        have t3 := t2.trans (same_upd (o := .tup [hv, .ref q2]) nq3)
        have g1 := G0 S3 k3 h3 q1 nq1
        have g2 := G0 S3 k3 h3 q2 (t1.free nq2)
        have g3 := G0 S3 k3 h3 q3 (t2.free nq3)
        have iq : Im K (fun b => H b = Option.none ∧ b ≠ R) (upd (upd (upd H3 q1 (.tup [.str "f", .str "true", .int 0])) q2 (.tup [.ref q1])) q3 (.tup [hv, .ref q2])) (.ref q3) (clD n rows) := .tup g3 upd_same (.cons (Im.mono (fun b o _ e => t3 b o e) (fun _ g => g) _ _ ih3) (.cons (.tup g2 (same_upd nq3 _ _ upd_same) (.cons (.tup g1 (same_upd nq3 _ _ (same_upd nq2 _ _ upd_same)) (.cons (.str _) (.cons (.str _) (.cons (.int _) .nil)))) .nil)) .nil))
        have i3' := Im.monoAll (K := K) (G' := fun b => H b = Option.none ∧ b ≠ R) (fun b o _ e => t3 b o e) (fun _ g => g) _ _ i3
        have S3' := S3.keep t3
        refine ⟨_, _, _, rfl, rfl, t3 _ _ h3, small1000 (by omega), ?_⟩
        refine ⟨vs ++ [.ref q3], cs ++ [rows], _, _, _, rfl, upd_same, ?_, fun r hr => ?_, by rw [List.length_append, c1]; rfl, S3'.put sR lR, fun b o hb e => by rw [upd_ne (ne_of_none e nR)]; exact t3 _ _ (k3 b o hb e)⟩
        · rw [List.map_append]
          exact ImAll.snoc (Im.monoAll (fun b o g e => by rw [upd_ne g.2]; exact e) (fun _ g => g) _ _ i3') (Im.mono (fun b o g e => by rw [upd_ne g.2]; exact e) (fun _ g => g) _ _ iq)
        · rcases List.mem_append.mp hr with z | z
          · exact ok1 r z
          · rw [List.mem_singleton.mp z]
            exact ⟨c3, ok3⟩
    · rintro σ H1 ⟨vs, cs, v4, v5, v6, rfl, h1, i1, ok1, c1, S1, k1⟩
      rw [Int.toNat_natCast] at c1
      refine nxp ?_
      exact ⟨_, rfl, q _ cs H1 ok1 c1 (fun b o hb e => k1 b o hb e) S1 (.lst nR h1 (Im.monoAll (fun _ _ _ e => e) (fun _ g => g.1) _ _ i1))⟩

theorem ok_head_keys {f : Addr} {fd : FuncData} (F : Fun K "head_keys" "head_keys" s_head_keys f fd) (E : Bi K mg) (D_parts : Has P w K mg base 4 "parts" ["term"] (sp_parts K)) (D_key : Has P w K mg base 2 "key" ["term"] (sp_key K)) : FnOk P w K mg base CX0 5 f fd ["head"] (sp_head_keys K) := by
  obtain ⟨f_parts, fd_parts, G_parts, g_parts, kp_parts, b_parts⟩ := D_parts
  obtain ⟨f_key, fd_key, G_key, g_key, kp_key, b_key⟩ := D_key
  refine F.ok sc_head_keys (fun vs H Q E h => ?_) (fun cdv A outer s H vs Q E' hr h => ?_)
  · obtain ⟨x, n, rows, rfl, _⟩ := h
    rfl
  · obtain ⟨x, n, rows, rfl, hx, ok, n4, q⟩ := h
    refine ⟨_, (pss_one (ps_ret (pe_lc (own := [("part", 1)]) (g := gName 1) (tt := tYes) rfl sc_head_keys.nd (pi_list (pe_call G_parts (hr.mono (by decide)) (by rfl) g_parts kp_parts b_parts .nil pass0 (pa_cons (pv 0) pa_nil))) (blkOk_by (N := N_head_keys) (sc := defScope s_head_keys) (by decide +kernel)) (fun _ _ _ _ _ => pg_name (i := 1) sc_head_keys.nd rfl (Or.inl rfl)) (fun _ _ _ _ _ => pts_nil) (fun _ _ _ _ _ => (pe_call G_key (hr.mono (by decide)) (by rfl) g_key kp_key b_key .nil pass0 (pa_cons (pv 1) pa_nil)))))), ?_⟩
    have hf := flat4 ok.row
    have hrl := ok.len
    refine ⟨_, rfl, x, hdD n, rows, rfl, hx, hd_nd (by omega), fun row hr => ⟨(ok.row row hr).cl, (ok.row row hr).nd⟩, by omega, by omega, fun r ys H1 s1 nr e1 d1 => ⟨r, rfl, ⟨_, SqL.of e1⟩, fun R hR => ?_⟩⟩
    have hyl := DpAll.len d1
    rw [List.length_map] at hyl
    have nR : H R = Option.none := s1.free hR
    refine walk_gen (n := ys.length) walk_list (fun i H' => ∃ zs, Same H1 H' ∧ H' R = some (.lst zs) ∧ DpAll K H' zs ((rows.take i).map keyR)) ⟨[], same_upd hR, upd_same, .nil⟩ (fun j H' _ ⟨_, e, _⟩ => SqL.of (e _ _ e1)) ?_ ?_
    · rintro i z H2 H3 hi ⟨zs, s2, h2, d2⟩ ⟨rfl, hz⟩
      obtain ⟨dd, hd, dz0⟩ := DpAll.getV d1 hz
      rw [List.getElem?_map] at hd
      obtain ⟨row, hrow, rfl⟩ : ∃ row, rows[i]? = some row ∧ PyData.tuple row = dd := by
        cases hr2 : rows[i]? with
        | none => rw [hr2] at hd; cases hd
        | some row => rw [hr2] at hd; exact ⟨row, rfl, Option.some.inj hd⟩
      have okr := ok.row row (List.mem_of_getElem? hrow)
      obtain ⟨d, t, rfl, hh, nd⟩ := row_head okr
      have hzl := DpAll.len d2
      rw [List.length_map, List.length_take] at hzl
      refine gname ⟨rfl, _, rfl, z, d, t, rfl, dp_same s2 _ _ dz0, nd, fun v dv => ?_⟩
      have nt : notTup H3 R := .inl ⟨_, h2⟩
      refine ⟨_, h2, small1000 (by omega), zs ++ [v], fun b o e => by rw [upd_ne (ne_of_none e hR)]; exact s2 _ _ e, upd_same, ?_⟩
      rw [List.take_add_one, hrow, List.map_append]
      refine DpAll.app (dp_putAll nt _ _ (keys_noL fun x hx => ok.row x (List.mem_of_mem_take hx)) d2) (.cons ?_ .nil)
      have : keyR (d :: t) = keyD d := by unfold keyR; rw [hh]
      rw [this]
      exact dp_put nt _ _ (keyD_noL nd) dv
    · rintro H2 ⟨zs, s2, h2, d2⟩
      rw [hyl, List.take_length] at d2
      exact q R zs H2 (s1.trans s2) nR h2 d2

theorem ok_candidates {f : Addr} {fd : FuncData} (F : Fun K "candidates" "candidates" s_candidates f fd) (E : Bi K mg) (D_key : Has P w K mg base 2 "key" ["term"] (sp_key K)) (D_is_candidate : Has P w K mg base 2 "is_candidate" ["keys", "wanted"] (sp_is_candidate K)) (D_head_keys : Has P w K mg base 5 "head_keys" ["head"] (sp_head_keys K)) : FnOk P w K mg base CX0 6 f fd ["clauses", "arguments", "plan"] (sp_candidates K) := by
  obtain ⟨f_key, fd_key, G_key, g_key, kp_key, b_key⟩ := D_key
  obtain ⟨f_is_candidate, fd_is_candidate, G_is_candidate, g_is_candidate, kp_is_candidate, b_is_candidate⟩ := D_is_candidate
  obtain ⟨f_head_keys, fd_head_keys, G_head_keys, g_head_keys, kp_head_keys, b_head_keys⟩ := D_head_keys
  refine F.ok sc_candidates (fun vs H Q E h => ?_) (fun cdv A outer s H vs Q E' hr h => ?_)
  · obtain ⟨c, a, p, n, args, cs, plan, rfl, _⟩ := h
    rfl
  · obtain ⟨c, a, p, n, args, cs, plan, rfl, ⟨hc, ha0, hp, n4, oka, okc, lc, lp⟩, q⟩ := h
    refine ⟨_, (pss_cons (ps_set (i := 3) sc_candidates.nd rfl (Or.inr rfl) (pe_dc (own := [("index", 4)]) (g := gName 4) rfl sc_candidates.nd (pi_tup (pv 2)) (blkOk_by (N := N_candidates) (sc := defScope s_candidates) (by decide +kernel)) (fun _ _ _ _ _ => pg_name (i := 4) sc_candidates.nd rfl (Or.inl rfl)) (fun _ _ _ _ _ => pts_one (pt_cmpR op_lt (pv 4) (pe_callB (show CallR _ (.builtin "len") (fun xs H Q => ∃ p ys, xs = [V.ref p] ∧ (SqL K H p ys ∨ SqT K H p ys) ∧ Q (V.int ys.length) H) from call_len_seq) (by rfl) E.b_len PySem.boot_len (pa_cons (pv 1) pa_nil)) (nomark _))) (fun _ _ _ _ _ => (pv 4)) (fun _ _ _ _ _ => (pe_call G_key (hr.mono (by decide)) (by rfl) g_key kp_key b_key .nil pass0 (pa_cons (pe_ix (show IxR _ (rIxL K) from ix_list) (pv 1) (pv 4) (fun _ _ => rfl)) pa_nil)))))
      (pss_one (ps_ret (pe_lc (own := [("position", 5), ("head", 6), ("_", 7)]) (g := gTup K 2 (gCons (gName 5) (gCons (gTup K 2 (gCons (gName 6) (gCons (gName 7) gNil))) gNil))) rfl sc_candidates.nd (pi_enum (by rfl) E.b_enumerate (pa_cons (pv 0) pa_nil)) (blkOk_by (N := N_candidates) (sc := defScope s_candidates) (by decide +kernel)) (fun _ _ _ _ _ => pg_tup rfl (pgs_cons (pg_name (i := 5) sc_candidates.nd rfl (Or.inl rfl)) (pgs_cons (pg_tup rfl (pgs_cons (pg_name (i := 6) sc_candidates.nd rfl (Or.inl rfl)) (pgs_cons (pg_name (i := 7) sc_candidates.nd rfl (Or.inl rfl)) pgs_nil))) pgs_nil))) (fun _ _ _ _ _ => pts_one (pt_val (pe_call G_is_candidate (hr.mono (by decide)) (by rfl) g_is_candidate kp_is_candidate b_is_candidate .nil pass0 (pa_cons (pe_call G_head_keys (hr.mono (by decide)) (by rfl) g_head_keys kp_head_keys b_head_keys .nil pass0 (pa_cons (pv 6) pa_nil)) (pa_cons (pv 3) pa_nil))))) (fun _ _ _ _ _ => (pv 5)))))), ?_⟩
    cases id hc with
    | @lst ac xs _ hs ha =>
    cases id ha0 with
    | @lst aa ys _ ht hb =>
    cases id hp with
    | @tup ap zs _ hz hpz =>
    have hyl := DpAll.len hb
    rw [List.length_map] at hyl
    have hzl := DpAll.len hpz
    have hnl : (natsI plan).length = plan.length := List.length_map ..
    rw [List.length_map, hnl] at hzl
    have hxl := DpAll.len ha
    rw [List.length_map] at hxl
    have hal := oka.len
    refine seq_any (asg1 ?_)
    refine ⟨_, rfl, ap, rfl, ⟨_, hz⟩, fun D hD => ?_⟩
    refine walk_gen (n := zs.length) walk_tup (fun i H' => ∃ kvs, Same H H' ∧ H' D = some (.dK kvs) ∧ WS K H' kvs args n ∧ (∀ p ∈ kvs, ∃ j : Nat, p.1 = Sum.inl (j : Int) ∧ j ∈ plan) ∧ (∀ j ∈ plan.take i, j < n → (Sum.inl (j : Int) : Key) ∈ kvs.map (·.1)) ∧ kvs.length ≤ i)
      ⟨[], same_upd hD, upd_same, (fun p hp => nomatch hp), (fun p hp => nomatch hp), (fun j hj => by rw [List.take_zero] at hj; cases hj), Nat.le_refl 0⟩ (fun i H' _ ⟨_, e, _⟩ => same_sqT e hz) ?_ ?_
    · rintro i z H1 H2 hi ⟨kvs, s1, e1, ws, m1, m2, l1⟩ ⟨rfl, hzi⟩
      obtain ⟨dd, hd, dz⟩ := DpAll.getV hpz hzi
      obtain ⟨j, hj, rfl⟩ : ∃ j : Nat, plan[i]? = some j ∧ PyData.int (j : Int) = dd := by
        unfold natsI at hd
        rw [List.map_map, List.getElem?_map] at hd
        cases hr2 : plan[i]? with
        | none => rw [hr2] at hd; cases hd
        | some j => rw [hr2] at hd; exact ⟨j, rfl, Option.some.inj hd⟩
      cases dz
      have htk : plan.take (i + 1) = plan.take i ++ [j] := by rw [List.take_add_one, hj]; rfl
      refine gname ⟨rfl, _, rfl, _, rfl, aa, ys, rfl, .inl (s1.seq ht), _, _, rfl, rfl, _, rfl, ite2 (fun g => ?_) (fun g => ?_)⟩
      · have hlt : j < n := by
          have := of_decide_eq_true g
          omega
        obtain ⟨row, hrow⟩ : ∃ row, args[j]? = some row := ⟨_, List.getElem?_eq_getElem (by omega)⟩
        obtain ⟨d, t, rfl, hh, nd⟩ := row_head (oka.row row (List.mem_of_getElem? hrow))
        obtain ⟨y, hy, dy⟩ := DpAll.get hb (i := j) (by rw [List.getElem?_map, hrow]; rfl)
        refine ⟨_, rfl, _, rfl, _, rfl, _, _, _, _, rfl, rfl, s1.seq ht, atI_nat (j := j) hy, y, d, t, rfl, dp_same s1 _ _ dy, nd, fun v dv => ?_⟩
        have nt : notTup H2 D := .inr (.inl ⟨_, e1⟩)
        have ple := putK_lenle kvs (Sum.inl (j : Int)) v
        refine ⟨kvs, Sum.inl (j : Int), rfl, e1, small1000 (by omega), putK kvs (Sum.inl (j : Int)) v, fun b o e => by rw [upd_ne (ne_of_none e hD)]; exact s1 _ _ e, upd_same, fun p hp => ?_, fun p hp => ?_, fun j2 hj2 hn2 => ?_, by omega⟩
        · rcases putK_mem hp with ⟨z1, z2⟩ | z
          · refine ⟨j, z1, hlt, ?_⟩
            rw [z2, rowAt_of hrow, hh]
            exact dp_put nt _ _ (keyD_noL nd) dv
          · obtain ⟨j3, b1, b2, b3⟩ := ws p z
            exact ⟨j3, b1, b2, dp_put nt _ _ (keyD_noL (rowAt_nd oka b2)) b3⟩
        · rcases putK_mem hp with ⟨z1, z2⟩ | z
          · exact ⟨j, z1, List.mem_of_getElem? hj⟩
          · exact m1 p z
        · rw [htk] at hj2
          rcases List.mem_append.mp hj2 with z | z
          · exact putK_kin.mpr (.inr (m2 j2 z hn2))
          · rw [List.mem_singleton.mp z]
            exact putK_kin.mpr (.inl rfl)
      · have hge : ¬ j < n := fun z => g (decide_eq_true (by omega))
        refine ⟨kvs, s1, e1, ws, m1, fun j2 hj2 hn2 => ?_, by omega⟩
        rw [htk] at hj2
        rcases List.mem_append.mp hj2 with z | z
        · exact m2 j2 z hn2
        · rw [List.mem_singleton.mp z] at hn2
          exact absurd hn2 hge
    · rintro H1 ⟨kvs, s1, e1, ws, m1, m2, l1⟩
      rw [hzl, List.take_length] at m2
      refine gname (nxp ?_)
      refine ⟨_, rfl, ac, xs, rfl, s1.seq hs, fun R hR => ?_⟩
      have nR : H R = Option.none := s1.free hR
      refine walk_gen (n := xs.length) walk_enum (fun i H' => Same H1 H' ∧ H' R = some (.lst ((natsI (resC plan n args cs i)).map V.int))) ⟨same_upd hR, upd_same⟩ (fun j H' _ h => (s1.trans h.1).seq hs) ?_ ?_
      · rintro i z H2 H3 hi ⟨s2, h2⟩ ⟨T, x, y, rfl, nT, rfl, hx, hy⟩
        cases hx
        change xs[i]? = some y at hy
        obtain ⟨dd, hd, dy0⟩ := DpAll.getV ha hy
        rw [List.getElem?_map] at hd
        obtain ⟨rows, hrows, rfl⟩ : ∃ rows, cs[i]? = some rows ∧ clD n rows = dd := by
          cases hr2 : cs[i]? with
          | none => rw [hr2] at hd; cases hd
          | some j => rw [hr2] at hd; exact ⟨j, rfl, Option.some.inj hd⟩
        have okr := okc rows (List.mem_of_getElem? hrows)
        have RT : R ≠ T := ne_of_none h2 nT
        have s3 := s2.trans (same_upd (o := .tup [.int (i : Int), y]) nT)
        have h3 : (upd H2 T (.tup [.int (i : Int), y])) R = some (.lst ((natsI (resC plan n args cs i)).map V.int)) := by rw [upd_ne RT]; exact h2
        have hT : (upd H2 T (.tup [.int (i : Int), y])) T = some (.tup [.int (i : Int), y]) := upd_same
        have dy := dp_same (s1.trans s3) _ _ dy0
        generalize upd H2 T (.tup [.int (i : Int), y]) = H3 at s3 h3 hT dy
        have hrl := resC_len plan n args cs i
        unfold clD at dy
        cases dy with
        | @tup u us _ hu au =>
        cases au with
        | @cons v1 _ _ _ d1 au =>
        cases au with
        | @cons v2 _ _ _ d2 au =>
        cases au
        refine ⟨T, _, rfl, SqT.of hT, rfl, _, _, rfl, gname ⟨_, [], rfl, ⟨u, _, rfl, hu, rfl, _, _, rfl, gname ⟨_, [], rfl, gname ⟨rfl, ⟨rfl, ?_⟩⟩⟩⟩⟩⟩
        refine ⟨rfl, _, rfl, v1, n, rows, rfl, d1, okr, n4, fun r ys2 H4 s4 nr e4 d4 => ?_⟩
        have e14 := s4 _ _ (s3 _ _ e1)
        have ws4 := ws.mono (H' := H4) fun v j hj d => dp_same (s3.trans s4) _ _ d
        refine ⟨_, rfl, r, D, ys2, kvs, args, rows, n, rfl, e4, d4, okr, oka, e14, ws4, by omega, fun H5 s5 => ⟨_, rfl, ?_⟩⟩
        rw [okW_eq (plan := plan) ws4 m1 m2, resC_succ plan n args hrows]
        have s15 := s3.trans (s4.trans s5)
        have h5 := s5 _ _ (s4 _ _ h3)
        cases okP plan n args rows with
        | true =>
          refine iteT ⟨_, rfl, _, h5, small1000 (by rw [List.length_map]; unfold natsI; rw [List.length_map]; omega), fun b o e => by rw [upd_ne (ne_of_none e hR)]; exact s15 _ _ e, ?_⟩
          rw [upd_same, if_pos rfl, natsI_snoc, List.map_append]
          rfl
        | false =>
          refine iteF ⟨s15, ?_⟩
          rw [if_neg Bool.false_ne_true, List.append_nil]
          exact h5
      · rintro H2 ⟨s2, h2⟩
        rw [hxl] at h2
        exact q R H2 (s1.trans s2) nR h2

theorem ok__law_nestN {f : Addr} {fd : FuncData} (F : Fun K "_law_nest" "_law_nest" s__law_nest f fd) (E : Bi K mg) (D__law_end : Has P w K mg base 1 "_law_end" ["term", "at"] (sp__law_end K)) (g__law_nest : mg "_law_nest" = some (.ref f)) (b__law_nest : Binds K fd ["term", "at"] []) :
    ∀ n, FnOk P w K mg base CX0 (n + 2) f fd ["term", "at"] (sp__law_nestN K n)
  | 0 => by
    refine ⟨fun vs H Q E h => ?_, fun A outer s H args us vs Q E hr he hb hv h => ?_⟩
    · obtain ⟨x, ds, rest, i, m, t, rfl, _⟩ := h
      rfl
    · obtain ⟨x, ds, rest, i, m, t, rfl, _, _, _, _, h0, _⟩ := h
      exact absurd h0 (Nat.lt_irrefl 0)
  | m0 + 1 => by
    obtain ⟨f__law_end, fd__law_end, G__law_end, g__law_end, kp__law_end, b__law_end⟩ := D__law_end
    have G__law_nest := ok__law_nestN F E ⟨f__law_end, fd__law_end, G__law_end, g__law_end, kp__law_end, b__law_end⟩ g__law_nest b__law_nest m0
    have kp__law_nest := F.kp
    refine F.ok (k := m0 + 2) sc__law_nest (fun vs H Q E h => ?_) (fun cdv A outer s H vs Q E' hr h => ?_)
    · obtain ⟨x, ds, rest, i, m, t, rfl, _⟩ := h
      rfl
    · obtain ⟨x, ds, rest, i, m, t, rfl, dx, nd, ed, hc, _, hdl, q⟩ := h
      refine ⟨_, (pss_cons (ps_set (i := 2) sc__law_nest.nd rfl (Or.inl rfl) (pe_ix (show IxR _ (rIxT K) from ix_tup) (pv 0) (pv 1) (fun _ _ => rfl)))
      (pss_cons (ps_if (pw_or (pt_not (pt_val (pe_callB (show CallR _ (.builtin "isinstance") (rIsi K) from call_isi) (by rfl) E.b_isinstance (by decide +kernel) (pa_cons (pv 2) (pa_cons (pe_ty "tuple" (by rfl) E.b_tuple (by decide +kernel)) pa_nil))))) (pw_or1 (pt_cmpR op_eq (pe_ix (show IxR _ (rIxT K) from ix_tup) (pv 2) pe_int (fun _ _ => rfl)) pe_str (nomark _)))).pt (pss_one (ps_ret (pv 2))) pss_nil)
      (pss_cons (ps_set (i := 3) sc__law_nest.nd rfl (Or.inl rfl) (pe_lst pa_nil))
      (pss_cons (ps_set (i := 1) sc__law_nest.nd rfl (Or.inl rfl) (pe_op op_add (pv 1) pe_int))
      (pss_cons (ps_for PassesOwn.never rfl (pi_range1 (by rfl) E.b_range (pa_cons (pe_ix (show IxR _ (rIxT K) from ix_tup) (pv 2) pe_int (fun _ _ => rfl)) pa_nil)) (pg_name (i := 4) sc__law_nest.nd rfl (Or.inl rfl)) (pss_cons (ps_expr (pe_bm PySem.F.plainAttrs_list PySem.F.slot_list_append PySem.F.type_list_append mt_append (pv 3) (pa_cons (pe_call G__law_nest (hr.mono (by omega)) (by rfl) g__law_nest kp__law_nest b__law_nest .nil pass0 (pa_cons (pv 0) (pa_cons (pv 1) pa_nil))) pa_nil)))
      (pss_one (ps_set (i := 1) sc__law_nest.nd rfl (Or.inl rfl) (pe_call G__law_end (hr.mono (by omega)) (by rfl) g__law_end kp__law_end b__law_end .nil pass0 (pa_cons (pv 0) (pa_cons (pv 1) pa_nil)))))))
      (pss_one (ps_ret (pe_tup (pa_cons pe_str (pa_cons (pe_ix (show IxR _ (rIxT K) from ix_tup) (pv 2) pe_int (fun _ _ => rfl)) (pa_cons (pe_callTy call_tuple_of (by rfl) E.b_tuple (by decide +kernel) (pa_cons (pv 3) pa_nil)) pa_nil))))))))))), ?_⟩
      rw [Nat.add_sub_cancel] at hdl
      refine st_of (σ := [some _, some _, none, none, none]) rfl ?_
      obtain ⟨a, xs, rfl, sq, ax⟩ := dp_tup dx
      have at_ : ∀ {d : PyData} {r : List PyData}, ds.drop i = d :: r → ds[i]? = some d := fun e => by rw [← List.head?_drop, e]; rfl
      walk_at "go"
      cases t with
      | i z =>
        rw [fl] at ed
        obtain ⟨v, hv, dv⟩ := DpAll.get ax (at_ ed)
        refine ixT (j := i) sq hv ?_
        walk_at "go"
        refine isi_tup dv ?_
        walk_at "go"
        refine iteT ?_
        walk_at "go"
        exact q _ _ (Same.refl H) (by rw [nD]; exact dv)
      | v n =>
        rw [fl] at ed
        obtain ⟨v, hv, dv⟩ := DpAll.get ax (at_ ed)
        refine ixT (j := i) sq hv ?_
        walk_at "go"
        refine isi_tup dv ?_
        obtain ⟨p, ws, rfl, sp, aw⟩ := dp_tup dv
        obtain ⟨w0, hw0, dw0⟩ := DpAll.get (i := 0) aw rfl
        cases dw0
        walk_at "go"
        refine iteF ?_
        walk_at "go"
        refine ixT (j := 0) sp hw0 ?_
        walk_at "go"
        refine iteT ?_
        walk_at "go"
        exact q _ _ (Same.refl H) (by rw [nD]; exact dv)
      | s y as =>
        rw [fl] at ed
        obtain ⟨v, hv, dv⟩ := DpAll.get ax (at_ ed)
        refine ixT (j := i) sq hv ?_
        walk_at "go"
        refine isi_tup dv ?_
        obtain ⟨p, ws, rfl, sp, aw⟩ := dp_tup dv
        obtain ⟨w0, hw0, dw0⟩ := DpAll.get (i := 0) aw rfl
        obtain ⟨w1, hw1, dw1⟩ := DpAll.get (i := 1) aw rfl
        obtain ⟨w2, hw2, dw2⟩ := DpAll.get (i := 2) aw rfl
        cases dw0
        cases dw1
        cases dw2
        walk_at "go"
        refine iteF ?_
        walk_at "go"
        refine ixT (j := 0) sp hw0 ?_
        walk_at "go"
        refine iteF ?_
        walk_at "go"
        refine newN (n := 0) rfl (by decide) fun R nR => ?_
        walk_at "go"
        have sR := same_upd (o := .lst []) nR
        refine ixT (j := 2) (same_sqT sR sp) hw2 ?_
        obtain ⟨l8, okx⟩ := dl_len hdl
        refine ⟨_, rfl, by omega, by omega, ?_⟩
        rw [Int.toNat_natCast]
        have lx := DpAll.len ax
        have dsi : ds.drop (i + 1) = fls as ++ rest := by rw [← List.drop_drop, ed]; rfl
        have clr : Cls (m + as.length) (ds.drop (i + 1)) := by
          rw [ed] at hc
          have h2 := hc.2
          rw [show m + 1 - 1 + arN (.tuple [.str "f", .str y, .int (as.length : Int)]) = m + as.length by show m + 1 - 1 + (as.length : Int).toNat = _; omega] at h2
          rw [dsi]
          exact h2
        refine for_range (fun j σ H' => ∃ (ys : List V) (vk : Option V) (p0 : Nat), σ = [some (.ref a), some (.int (p0 : Int)), some (.ref p), some (.ref R), vk] ∧ Same H H' ∧ H' R = some (.lst ys) ∧ DpAll K H' ys ((as.take j).map nD) ∧ ds.drop p0 = fls (as.drop j) ++ rest ∧ Cls (m + (as.length - j)) (ds.drop p0))
          ⟨[], none, i + 1, by simp, sR, upd_same, .nil, dsi, clr⟩ ?_ ?_
        · rintro j σ H2 hj ⟨ys, vk, p0, rfl, s2, e2, d2, g2, c2⟩
          have hja := List.getElem?_eq_getElem hj
          have hdr : as.drop j = as[j] :: as.drop (j + 1) := List.drop_eq_getElem_cons hj
          rw [hdr, fls, List.append_assoc] at g2
          have c3 : Cls (m + (as.length - (j + 1)) + 1) (ds.drop p0) := by rwa [show m + (as.length - (j + 1)) + 1 = m + (as.length - j) by omega]
          have hdlj : 0 < m0 ∧ DL (m0 - 1) as[j] := by
            cases hdl with
            | n _ _ _ => exact absurd hj (Nat.not_lt_zero _)
            | s k _ _ _ _ g => exact ⟨Nat.succ_pos k, by rw [Nat.add_sub_cancel]; exact g _ (List.getElem_mem hj)⟩
          walk_at "go"
          refine tyl (SqL.of e2) ?_
          walk_at "go"
          refine ⟨.ref a, ds, _, p0, _, as[j], rfl, .tup (same_sqT s2 sq) (dp_sameAll s2 _ _ ax), nd, g2, c3, hdlj.1, hdlj.2, fun v H3 s3 d3 => ?_⟩
          walk_at "go"
          have e3 := s3 _ _ e2
          have ly := DpAll.len d2
          rw [List.length_map, List.length_take] at ly
          refine rap e3 (by omega) ?_
          walk_at "go"
          have nt : notTup H3 R := .inl ⟨_, e3⟩
          have sH4 : Same H (upd H3 R (.lst (ys ++ [v]))) := same_new nR (s2.trans s3)
          refine ⟨.ref a, ds, p0, _, rfl, .tup (same_sqT sH4 sq) (dp_sameAll sH4 _ _ ax), nd, c3, ?_⟩
          walk_at "go"
          have tkl : tk 1 (ds.drop p0) = (fl as[j]).length := by rw [g2]; exact tk_row (fl_cls _)
          have nlt : ∀ {b : NT}, b ∈ as → noL (nD b) = true := fun hb => by
            cases hdl with
            | n _ _ _ => cases hb
            | s k _ _ _ _ g => exact (nD_lay (g _ hb)).2.2
          refine ⟨ys ++ [v], _, p0 + tk 1 (ds.drop p0), rfl, sH4, upd_same, ?_, ?_, ?_⟩
          · rw [List.take_add_one, hja, List.map_append]
            refine dpAll_end (dp_putAll nt _ _ (noLA_of fun e he => ?_) (dp_sameAll s3 _ _ d2)) (dp_put nt _ _ (nlt (List.getElem_mem hj)) d3)
            obtain ⟨b, hb, rfl⟩ := List.mem_map.mp he
            exact nlt (List.mem_of_mem_take hb)
          · rw [← List.drop_drop, tkl, g2, List.drop_left]
          · have := cls_drop _ _ 1 c3 (by omega)
            rwa [List.drop_drop, Nat.add_sub_cancel] at this
        · rintro σ H2 ⟨ys, vk, p0, rfl, s2, e2, d2, g2, c2⟩
          rw [List.take_length] at d2
          walk_at "go"
          refine ixT (j := 1) (same_sqT s2 sp) hw1 ?_
          walk_at "go"
          refine ⟨R, ys, rfl, .inl ⟨SqL.of e2, fun t nt => ?_⟩⟩
          have st := same_upd (o := .tup ys) nt
          walk_at "go"
          refine newN (n := 3) rfl (by decide) fun t2 nt2 => ?_
          have st2 := st.trans (same_upd (o := .tup [.str "s", .str y, .ref t]) nt2)
          refine q _ _ (s2.trans st2) ?_
          rw [nD, nDs_map]
          exact .tup (SqT.of upd_same) (.cons (.str _) (.cons (.str _) (.cons (.tup (SqT.of (same_upd nt2 _ _ upd_same)) (dp_sameAll st2 _ _ d2)) .nil)))
theorem ok__law_nest {f : Addr} {fd : FuncData} (F : Fun K "_law_nest" "_law_nest" s__law_nest f fd) (E : Bi K mg) (D__law_end : Has P w K mg base 1 "_law_end" ["term", "at"] (sp__law_end K)) (g__law_nest : mg "_law_nest" = some (.ref f)) (b__law_nest : Binds K fd ["term", "at"] []) : FnOk P w K mg base CX0 7 f fd ["term", "at"] (sp__law_nest K) := ok__law_nestN F E D__law_end g__law_nest b__law_nest 5

theorem ok__law_occursN {f : Addr} {fd : FuncData} (F : Fun K "_law_occurs" "_law_occurs" s__law_occurs f fd) (E : Bi K mg) (D__law_walk : Has P w K mg base 1 "_law_walk" ["table", "value"] (sp__law_walk K)) (g__law_occurs : mg "_law_occurs" = some (.ref f)) (b__law_occurs : Binds K fd ["table", "number", "value"] []) :
    ∀ n, FnOk P w K mg base CX0 (n + 2) f fd ["table", "number", "value"] (sp__law_occursN K n)
  | 0 => by
    refine ⟨fun vs H Q E h => ?_, fun A outer s H args us vs Q E hr he hb hv h => ?_⟩
    · obtain ⟨d, x, n, t, U, T, kvs, D, rfl, _⟩ := h
      rfl
    · obtain ⟨d, x, n, t, U, T, kvs, D, rfl, _, _, _, _, h0, _⟩ := h
      exact absurd h0 (Nat.lt_irrefl 0)
  | m0 + 1 => by
    obtain ⟨f__law_walk, fd__law_walk, G__law_walk, g__law_walk, kp__law_walk, b__law_walk⟩ := D__law_walk
    have G__law_occurs := ok__law_occursN F E ⟨f__law_walk, fd__law_walk, G__law_walk, g__law_walk, kp__law_walk, b__law_walk⟩ g__law_occurs b__law_occurs m0
    have kp__law_occurs := F.kp
    refine F.ok (k := m0 + 2) sc__law_occurs (fun vs H Q E h => ?_) (fun cdv A outer s H vs Q E' hr h => ?_)
    · obtain ⟨d, x, n, t, U, T, kvs, D, rfl, _⟩ := h
      rfl
    · obtain ⟨d, x, n, t, U, T, kvs, D, rfl, tk, tg, dx, gt, _, hl, hn, hk, q⟩ := h
      refine ⟨_, (pss_cons (ps_set (i := 2) sc__law_occurs.nd rfl (Or.inl rfl) (pe_call G__law_walk (hr.mono (by omega)) (by rfl) g__law_walk kp__law_walk b__law_walk .nil pass0 (pa_cons (pv 0) (pa_cons (pv 2) pa_nil))))
      (pss_cons (ps_if (pt_not (pt_val (pe_callB (show CallR _ (.builtin "isinstance") (rIsi K) from call_isi) (by rfl) E.b_isinstance (by decide +kernel) (pa_cons (pv 2) (pa_cons (pe_ty "tuple" (by rfl) E.b_tuple (by decide +kernel)) pa_nil))))) (pss_one (ps_ret pe_bl)) pss_nil)
      (pss_cons (ps_if (pt_cmpR op_eq (pe_ix (show IxR _ (rIxT K) from ix_tup) (pv 2) pe_int (fun _ _ => rfl)) pe_str (nomark _)) (pss_one (ps_ret (pe_cmpR op_eq (pe_ix (show IxR _ (rIxT K) from ix_tup) (pv 2) pe_int (fun _ _ => rfl)) (pv 1) (nomark _)))) pss_nil)
      (pss_one (ps_ret (pe_callB (cr_any rfl) (by rfl) E.b_any (by decide +kernel) (pa_cons (pe_lc (own := [("row", 3)]) (g := gName 3) (tt := tYes) rfl sc__law_occurs.nd (pi_tup (pe_ix (show IxR _ (rIxT K) from ix_tup) (pv 2) pe_int (fun _ _ => rfl))) (blkOk_by (N := N__law_occurs) (sc := defScope s__law_occurs) (by decide +kernel)) (fun _ _ _ _ _ => pg_name (i := 3) sc__law_occurs.nd rfl (Or.inl rfl)) (fun _ _ _ _ _ => pts_nil) (fun _ _ _ _ _ => (pe_call G__law_occurs (hr.mono (by omega)) (by rfl) g__law_occurs kp__law_occurs b__law_occurs .nil pass0 (pa_cons (pv 0) (pa_cons (pv 1) (pa_cons (pv 3) pa_nil)))))) pa_nil))))))), ?_⟩
      rw [Nat.add_sub_cancel] at hl
      refine st_of (σ := [some _, some _, some _, none]) rfl ?_
      walk_at "go"
      refine ⟨d, x, t, U, T, kvs, rfl, tk, dx, fun v dv => ?_⟩
      have fn := wk_fin hl 1000 (by omega)
      have hl2 := wk_hl hl 1000
      have oc2 : Oc T n t → Oc T n (wkN T 1000 t) := fun o => wk_oc hn o 1000
      have gt2 := tg.wk gt 1000
      generalize wkN T 1000 t = u at dv fn hl2 oc2 gt2
      walk_at "go"
      cases u with
      | i z =>
        rw [nD] at dv
        refine isi_tup dv ?_
        walk_at "go"
        refine iteT ?_
        walk_at "go"
        exact q false _ (Same.refl H) fun _ o => by cases oc2 o
      | v m =>
        rw [nD] at dv
        refine isi_tup dv ?_
        obtain ⟨p, ws, rfl, sp, aw⟩ := dp_tup dv
        obtain ⟨w0, hw0, dw0⟩ := DpAll.get (i := 0) aw rfl
        obtain ⟨w1, hw1, dw1⟩ := DpAll.get (i := 1) aw rfl
        cases dw0
        cases dw1
        walk_at "go"
        refine iteF ?_
        walk_at "go"
        refine ixT (j := 0) sp hw0 ?_
        walk_at "go"
        refine iteT ?_
        walk_at "go"
        refine ixT (j := 1) sp hw1 ?_
        walk_at "go"
        refine q _ _ (Same.refl H) fun e o => ?_
        have := oc2 o
        cases this with
        | here => simp at e
        | bnd e2 _ => rw [fn m rfl] at e2; cases e2
      | s y as =>
        rw [nD] at dv
        refine isi_tup dv ?_
        obtain ⟨p, ws, rfl, sp, aw⟩ := dp_tup dv
        obtain ⟨w0, hw0, dw0⟩ := DpAll.get (i := 0) aw rfl
        obtain ⟨w2, hw2, dw2⟩ := DpAll.get (i := 2) aw rfl
        cases dw0
        walk_at "go"
        refine iteF ?_
        walk_at "go"
        refine ixT (j := 0) sp hw0 ?_
        walk_at "go"
        refine iteF ?_
        walk_at "go"
        refine ixT (j := 2) sp hw2 ?_
        obtain ⟨pa, xs, rfl, sa, aa⟩ := dp_tup dw2
        rw [nDs_map] at aa
        have lx := DpAll.len aa
        rw [List.length_map] at lx
        refine ⟨pa, rfl, ⟨_, sa⟩, fun R nR => ?_⟩
        have l8 := (dl_len gt2.dl).1
        refine lc_it walk_tup (fun i H' => Same H H' ∧ ∃ bs : List Bool, H' R = some (.lst (bs.map V.bl)) ∧ bs.length = i ∧ ∀ (j : Nat) (a : NT), j < i → bs[j]? = some false → as[j]? = some a → ¬ Oc T n a) ⟨same_upd nR, [], upd_same, rfl, fun j a h => absurd h (Nat.not_lt_zero _)⟩ (fun i H' _ h => same_sqT h.1 sa) ?_ ?_
        · rintro i z H2 H3 hi ⟨s2, bs, e2, lb, ob⟩ ⟨rfl, hz⟩
          rw [lx] at hi
          obtain ⟨dd, hd, dz0⟩ := DpAll.getV aa hz
          have hja := List.getElem?_eq_getElem hi
          rw [List.getElem?_map, hja] at hd
          cases hd
          walk_at "wp"
          walk_at "go"
          refine ⟨rfl, ?_⟩
          walk_at "go"
          have hlj : 0 < m0 ∧ HL T (m0 - 1) as[i] := by
            cases hl2 with
            | n _ _ => exact absurd hi (Nat.not_lt_zero _)
            | @s k _ _ g => exact ⟨Nat.succ_pos k, by rw [Nat.add_sub_cancel]; exact g _ (List.getElem_mem hi)⟩
          refine ⟨d, z, n, as[i], U, T, kvs, D, rfl, tk.same s2, tg, dp_same s2 _ _ dz0, gt2.arg (List.getElem_mem hi), hlj.1, hlj.2, hn, by omega, fun b H4 s4 ob2 => ?_⟩
          have e4 := s4 _ _ e2
          refine ⟨_, e4, Nat.lt_of_le_of_lt (show _ ≤ 100000 by rw [List.length_map]; omega) (by decide), same_new nR (s2.trans s4), bs ++ [b], by rw [upd_same, List.map_append]; rfl, by rw [List.length_append, lb]; rfl, fun j a hj hb ha => ?_⟩
          rcases Nat.lt_or_ge j i with c | c
          · rw [List.getElem?_append_left (by omega)] at hb
            exact ob j a c hb ha
          · obtain rfl : j = i := by omega
            rw [List.getElem?_append_right (by omega), lb, Nat.sub_self] at hb
            rw [hja] at ha
            cases ha
            simp at hb
            exact ob2 hb
        · rintro H2 ⟨s2, bs, e2, lb, ob⟩
          rw [lx] at lb ob
          walk_at "go"
          refine ⟨R, bs, rfl, SqL.of e2, q _ _ s2 fun e o => ?_⟩
          have := oc2 o
          cases this with
          | @arg _ _ a ha h2 =>
            obtain ⟨j, hj⟩ := List.getElem?_of_mem ha
            have hjl := (List.getElem?_eq_some_iff.mp hj).1
            have hb : bs[j]? = some false := by
              rw [List.getElem?_eq_getElem (by omega)]
              congr 1
              cases w : bs[j]'(by omega) with
              | false => rfl
              | true =>
                have : bs.any id = true := List.any_eq_true.mpr ⟨true, by rw [← w]; exact List.getElem_mem _, rfl⟩
                rw [this] at e
                cases e
            exact ob j a hjl hb hj h2
theorem ok__law_occurs {f : Addr} {fd : FuncData} (F : Fun K "_law_occurs" "_law_occurs" s__law_occurs f fd) (E : Bi K mg) (D__law_walk : Has P w K mg base 1 "_law_walk" ["table", "value"] (sp__law_walk K)) (g__law_occurs : mg "_law_occurs" = some (.ref f)) (b__law_occurs : Binds K fd ["table", "number", "value"] []) : FnOk P w K mg base CX0 102 f fd ["table", "number", "value"] (sp__law_occurs K) := ok__law_occursN F E D__law_walk g__law_occurs b__law_occurs 100

theorem ok__law_unifyN {f : Addr} {fd : FuncData} (F : Fun K "_law_unify" "_law_unify" s__law_unify f fd) (E : Bi K mg) (D__law_walk : Has P w K mg base 1 "_law_walk" ["table", "value"] (sp__law_walk K)) (D__law_occurs : Has P w K mg base 102 "_law_occurs" ["table", "number", "value"] (sp__law_occurs K)) (g__law_unify : mg "_law_unify" = some (.ref f)) (b__law_unify : Binds K fd ["table", "left", "right"] []) :
    ∀ n, FnOk P w K mg base CX0 (n + 103) f fd ["table", "left", "right"] (sp__law_unifyN K n)
  | 0 => by
    refine ⟨fun vs H Q E h => ?_, fun A outer s H args us vs Q E hr he hb hv h => ?_⟩
    · obtain ⟨d, x, y, l, r, U, T, kvs, rfl, _⟩ := h
      rfl
    · obtain ⟨d, x, y, l, r, U, T, kvs, rfl, _, _, _, _, _, _, _, _, _, h0, _⟩ := h
      exact absurd h0 (Nat.lt_irrefl 0)
  | m0 + 1 => by
    obtain ⟨f__law_walk, fd__law_walk, G__law_walk, g__law_walk, kp__law_walk, b__law_walk⟩ := D__law_walk
    obtain ⟨f__law_occurs, fd__law_occurs, G__law_occurs, g__law_occurs, kp__law_occurs, b__law_occurs⟩ := D__law_occurs
    have G__law_unify := ok__law_unifyN F E ⟨f__law_walk, fd__law_walk, G__law_walk, g__law_walk, kp__law_walk, b__law_walk⟩ ⟨f__law_occurs, fd__law_occurs, G__law_occurs, g__law_occurs, kp__law_occurs, b__law_occurs⟩ g__law_unify b__law_unify m0
    have kp__law_unify := F.kp
    refine F.ok (k := m0 + 103) sc__law_unify (fun vs H Q E h => ?_) (fun cdv A outer s H vs Q E' hr h => ?_)
    · obtain ⟨d, x, y, l, r, U, T, kvs, rfl, _⟩ := h
      rfl
    · obtain ⟨d, x, y, l, r, U, T, kvs, rfl, tk, tg, hU, dx, dy, gl, gr, cl, cr, _, hl, q⟩ := h
      refine ⟨_, (pss_cons (ps_set (i := 1) sc__law_unify.nd rfl (Or.inr rfl) (pe_call G__law_walk (hr.mono (by omega)) (by rfl) g__law_walk kp__law_walk b__law_walk .nil pass0 (pa_cons (pv 0) (pa_cons (pv 1) pa_nil))))
      (pss_cons (ps_set (i := 2) sc__law_unify.nd rfl (Or.inr rfl) (pe_call G__law_walk (hr.mono (by omega)) (by rfl) g__law_walk kp__law_walk b__law_walk .nil pass0 (pa_cons (pv 0) (pa_cons (pv 2) pa_nil))))
      (pss_cons (ps_if (pt_cmpR (show OpR _ (compareOp .Eq) (rEqD K) from op_eqD hr.units) (pv 1) (pv 2) (nomark _)) (pss_one (ps_ret pe_bl)) pss_nil)
      (pss_cons (ps_if (pw_or (pt_not (pt_val (pe_callB (show CallR _ (.builtin "isinstance") (rIsi K) from call_isi) (by rfl) E.b_isinstance (by decide +kernel) (pa_cons (pv 1) (pa_cons (pe_ty "tuple" (by rfl) E.b_tuple (by decide +kernel)) pa_nil))))) (pw_or1 (pt_cmpR op_ne (pe_ix (show IxR _ (rIxT K) from ix_tup) (pv 1) pe_int (fun _ _ => rfl)) pe_str (nomark _)))).pt (pss_cons (ps_if (pw_and (pt_val (pe_callB (show CallR _ (.builtin "isinstance") (rIsi K) from call_isi) (by rfl) E.b_isinstance (by decide +kernel) (pa_cons (pv 2) (pa_cons (pe_ty "tuple" (by rfl) E.b_tuple (by decide +kernel)) pa_nil)))) (pw_and1 (pt_cmpR op_eq (pe_ix (show IxR _ (rIxT K) from ix_tup) (pv 2) pe_int (fun _ _ => rfl)) pe_str (nomark _)))).pt (pss_one (ps_ret (pe_call G__law_unify (hr.mono (by omega)) (by rfl) g__law_unify kp__law_unify b__law_unify .nil pass0 (pa_cons (pv 0) (pa_cons (pv 2) (pa_cons (pv 1) pa_nil)))))) pss_nil)
      (pss_cons (ps_if (pw_or (pt_not (pt_val (pe_callB (show CallR _ (.builtin "isinstance") (rIsi K) from call_isi) (by rfl) E.b_isinstance (by decide +kernel) (pa_cons (pv 1) (pa_cons (pe_ty "tuple" (by rfl) E.b_tuple (by decide +kernel)) pa_nil))))) (pw_or1 (pt_not (pt_val (pe_callB (show CallR _ (.builtin "isinstance") (rIsi K) from call_isi) (by rfl) E.b_isinstance (by decide +kernel) (pa_cons (pv 2) (pa_cons (pe_ty "tuple" (by rfl) E.b_tuple (by decide +kernel)) pa_nil))))))).pt (pss_one (ps_ret pe_bl)) pss_nil)
      (pss_cons (ps_if (pw_or (pt_cmpR op_ne (pe_ix (show IxR _ (rIxT K) from ix_tup) (pv 1) pe_int (fun _ _ => rfl)) (pe_ix (show IxR _ (rIxT K) from ix_tup) (pv 2) pe_int (fun _ _ => rfl)) (nomark _)) (pw_or1 (pt_cmpR op_ne (pe_callB (show CallR _ (.builtin "len") (fun xs H Q => ∃ p ys, xs = [V.ref p] ∧ (SqL K H p ys ∨ SqT K H p ys) ∧ Q (V.int ys.length) H) from call_len_seq) (by rfl) E.b_len PySem.boot_len (pa_cons (pe_ix (show IxR _ (rIxT K) from ix_tup) (pv 1) pe_int (fun _ _ => rfl)) pa_nil)) (pe_callB (show CallR _ (.builtin "len") (fun xs H Q => ∃ p ys, xs = [V.ref p] ∧ (SqL K H p ys ∨ SqT K H p ys) ∧ Q (V.int ys.length) H) from call_len_seq) (by rfl) E.b_len PySem.boot_len (pa_cons (pe_ix (show IxR _ (rIxT K) from ix_tup) (pv 2) pe_int (fun _ _ => rfl)) pa_nil)) (nomark _)))).pt (pss_one (ps_ret pe_bl)) pss_nil)
      (pss_one (ps_ret (pe_callB (cr_all rfl) (by rfl) E.b_all (by decide +kernel) (pa_cons (pe_lc (own := [("k", 3)]) (g := gName 3) (tt := tYes) rfl sc__law_unify.nd (pi_range1 (by rfl) E.b_range (pa_cons (pe_callB (show CallR _ (.builtin "len") (fun xs H Q => ∃ p ys, xs = [V.ref p] ∧ (SqL K H p ys ∨ SqT K H p ys) ∧ Q (V.int ys.length) H) from call_len_seq) (by rfl) E.b_len PySem.boot_len (pa_cons (pe_ix (show IxR _ (rIxT K) from ix_tup) (pv 1) pe_int (fun _ _ => rfl)) pa_nil)) pa_nil)) (blkOk_by (N := N__law_unify) (sc := defScope s__law_unify) (by decide +kernel)) (fun _ _ _ _ _ => pg_name (i := 3) sc__law_unify.nd rfl (Or.inl rfl)) (fun _ _ _ _ _ => pts_nil) (fun _ _ _ _ _ => (pe_call G__law_unify (hr.mono (by omega)) (by rfl) g__law_unify kp__law_unify b__law_unify .nil pass0 (pa_cons (pv 0) (pa_cons (pe_ix (show IxR _ (rIxT K) from ix_tup) (pe_ix (show IxR _ (rIxT K) from ix_tup) (pv 1) pe_int (fun _ _ => rfl)) (pv 3) (fun _ _ => rfl)) (pa_cons (pe_ix (show IxR _ (rIxT K) from ix_tup) (pe_ix (show IxR _ (rIxT K) from ix_tup) (pv 2) pe_int (fun _ _ => rfl)) (pv 3) (fun _ _ => rfl)) pa_nil)))))) pa_nil))))))) pss_nil)
      (pss_cons (ps_if (pt_val (pe_call G__law_occurs (hr.mono (by omega)) (by rfl) g__law_occurs kp__law_occurs b__law_occurs .nil pass0 (pa_cons (pv 0) (pa_cons (pe_ix (show IxR _ (rIxT K) from ix_tup) (pv 1) pe_int (fun _ _ => rfl)) (pa_cons (pv 2) pa_nil))))) (pss_one (ps_ret pe_bl)) pss_nil)
      (pss_cons (ps_dput (hu_of hr) (pv 0) (pe_ix (show IxR _ (rIxT K) from ix_tup) (pv 1) pe_int (fun _ _ => rfl)) (pv 2) (by rfl))
      (pss_one (ps_ret pe_bl)))))))), ?_⟩
      refine st_of (σ := [some _, some _, some _, none]) rfl ?_
      walk_at "go"
      refine ⟨d, x, l, U, T, kvs, rfl, tk, dx, fun v dv => ?_⟩
      walk_at "go"
      refine ⟨d, y, r, U, T, kvs, rfl, tk, dy, fun u du => ?_⟩
      walk_at "go"
      have fl_ := fin_of tg hU gl
      have fr_ := fin_of tg hU gr
      have gL := wk_gt tg gl 1000
      have gR := wk_gt tg gr 1000
      have cW : Cmp (wkN T 1000 l) (wkN T 1000 r) → Cmp l r := cmp_w
      have gR3 : ∀ n, wkN T 1000 l = .v n → GT U 3 (wkN T 1000 r) := fun n e => by
        obtain ⟨k, e2⟩ := wk_var e
        exact tg.wk (cl k e2) 1000
      have gL3 : ∀ n, wkN T 1000 r = .v n → GT U 3 (wkN T 1000 l) := fun n e => by
        obtain ⟨k, e2⟩ := wk_var e
        exact tg.wk (cr k e2) 1000
      have cL : ∀ n, wkN T 1000 l = .v n → Cmp l r := fun n e => by
        obtain ⟨k, e2⟩ := wk_var e
        rw [e2]
        exact .vl k r
      have cR : ∀ n, wkN T 1000 r = .v n → Cmp l r := fun n e => by
        obtain ⟨k, e2⟩ := wk_var e
        rw [e2]
        exact .vr l k
      have hL : (∀ n, wkN T 1000 l ≠ .v n) → 1 < m0 + 1 ∧ ∀ T', leT T T' → TG U 3 T' → HL T' (m0 - 1) (wkN T 1000 l) := fun z => by
        obtain ⟨h1, h2⟩ := hl z
        exact ⟨h1, fun T' le tg' => wk_hl2 le (h2 T' le tg') 1000⟩
      generalize wkN T 1000 l = L at dv fl_ gL cW gR3 gL3 cL hL
      generalize wkN T 1000 r = R at du fr_ gR cW gR3 gL3 cR
      refine ⟨_, _, dv, du, nD_shaped gL.dl (by decide), nD_shaped gR.dl (by decide), ?_⟩
      walk_at "go"
      refine ite2 (fun e => ?_) (fun e => ?_)
      · walk_at "go"
        refine q true T kvs H (le_refl T) tg tk (fun _ => cW ?_) (But.refl d H)
        rw [nD_inj _ _ e]
        exact cmp_refl _
      have nq : ∀ {b : Bool}, b = false → Q (.bl b) H := fun {b} eb => q b T kvs H (le_refl T) tg tk (fun z => by rw [eb] at z; cases z) (But.refl d H)
      walk_at "go"
      have ntd : notTup H d := .inr (.inl ⟨_, tk.at_⟩)
      cases L with
      | v n =>
        rw [nD] at dv
        refine isi_tup dv ?_
        obtain ⟨p, ws, rfl, sp, aw⟩ := dp_tup dv
        obtain ⟨w0, hw0, dw0⟩ := DpAll.get (i := 0) aw rfl
        obtain ⟨w1, hw1, dw1⟩ := DpAll.get (i := 1) aw rfl
        cases dw0
        cases dw1
        walk_at "go"
        refine iteF ?_
        walk_at "go"
        refine ixT (j := 0) sp hw0 ?_
        walk_at "go"
        refine iteF ?_
        walk_at "go"
        refine ixT (j := 1) sp hw1 ?_
        walk_at "go"
        have g3 := gR3 n rfl
        have hn := fl_ n rfl
        refine ⟨d, u, n, R, U, T, kvs, 3, rfl, tk, tg, du, g3, by decide, tg.hl hU g3, hn, by decide, fun b H2 s2 ob => ?_⟩
        cases b with
        | true =>
          walk_at "go"
          exact q false T kvs H2 (le_refl T) tg (tk.same s2) (fun z => by cases z) (But.of s2)
        | false =>
          walk_at "go"
          refine ixT (j := 1) (same_sqT s2 sp) hw1 ?_
          have nU : n ∈ U := gL.vs n (vIn_v.mpr rfl)
          have tk2 := tk.same s2
          have lsz := tk.size
          refine ⟨d, _, rfl, DPut.k (k := Sum.inl n) tk2.at_ (Nat.lt_of_le_of_lt (show _ ≤ 100000 by omega) (by decide)), ?_⟩
          walk_at "go"
          exact q true (setT T n R) _ _ (le_set hn) (tg.set hn (ob rfl) g3 nU) (tk2.put tg hn nU (dp_same s2 _ _ du) g3.dl) (fun _ => cL n rfl) ((But.of s2).trans But.put)
      | i z =>
        rw [nD] at dv
        refine isi_tup dv ?_
        walk_at "go"
        refine iteT ?_
        walk_at "go"
        cases R with
        | i z2 =>
          rw [nD] at du
          refine isi_tup du ?_
          walk_at "go"
          refine iteF ?_
          walk_at "go"
          refine isi_tup dv ?_
          walk_at "go"
          refine iteT ?_
          walk_at "go"
          exact nq rfl
        | v n =>
          rw [nD] at du
          refine isi_tup du ?_
          obtain ⟨p, ws, rfl, sp, aw⟩ := dp_tup du
          obtain ⟨w0, hw0, dw0⟩ := DpAll.get (i := 0) aw rfl
          cases dw0
          walk_at "go"
          refine iteT ?_
          walk_at "go"
          refine ixT (j := 0) sp hw0 ?_
          walk_at "go"
          refine iteT ?_
          walk_at "go"
          have hn := fr_ n rfl
          have k1 := (hL fun n e => by cases e).1
          refine ⟨d, .ref p, v, .v n, .i z, U, T, kvs, rfl, tk, tg, hU, by rw [nD]; exact du, by rw [nD]; exact dv, gR, gL, fun _ _ => gL3 n rfl, (fun _ e => by cases e), by omega, fun z => absurd (wk_fix (fin_fix fun m e => by cases e; exact hn) 1000) (z n), fun b T' kvs' H2 le tg2 tk2 _ bt => ?_⟩
          exact q b T' kvs' H2 le tg2 tk2 (fun _ => cR n rfl) bt
        | s x as =>
          rw [nD] at du
          refine isi_tup du ?_
          obtain ⟨p, ws, rfl, sp, aw⟩ := dp_tup du
          obtain ⟨w0, hw0, dw0⟩ := DpAll.get (i := 0) aw rfl
          cases dw0
          walk_at "go"
          refine iteT ?_
          walk_at "go"
          refine ixT (j := 0) sp hw0 ?_
          walk_at "go"
          refine iteF ?_
          walk_at "go"
          refine isi_tup dv ?_
          walk_at "go"
          refine iteT ?_
          walk_at "go"
          exact nq rfl
      | s y bs =>
        rw [nD] at dv
        refine isi_tup dv ?_
        obtain ⟨pl, wl, rfl, sl, al⟩ := dp_tup dv
        obtain ⟨l0, hl0, dl0⟩ := DpAll.get (i := 0) al rfl
        obtain ⟨l1, hl1, dl1⟩ := DpAll.get (i := 1) al rfl
        obtain ⟨l2, hl2, dl2⟩ := DpAll.get (i := 2) al rfl
        cases dl0
        cases dl1
        walk_at "go"
        refine iteF ?_
        walk_at "go"
        refine ixT (j := 0) sl hl0 ?_
        walk_at "go"
        refine iteT ?_
        walk_at "go"
        cases R with
        | i z2 =>
          rw [nD] at du
          refine isi_tup du ?_
          walk_at "go"
          refine iteF ?_
          walk_at "go"
          refine isi_tup dv ?_
          walk_at "go"
          refine iteF ?_
          walk_at "go"
          refine isi_tup du ?_
          walk_at "go"
          refine iteT ?_
          walk_at "go"
          exact nq rfl
        | v n =>
          rw [nD] at du
          refine isi_tup du ?_
          obtain ⟨p, ws, rfl, sp, aw⟩ := dp_tup du
          obtain ⟨w0, hw0, dw0⟩ := DpAll.get (i := 0) aw rfl
          cases dw0
          walk_at "go"
          refine iteT ?_
          walk_at "go"
          refine ixT (j := 0) sp hw0 ?_
          walk_at "go"
          refine iteT ?_
          walk_at "go"
          have hn := fr_ n rfl
          have k1 := (hL fun n e => by cases e).1
          refine ⟨d, .ref p, .ref pl, .v n, .s y bs, U, T, kvs, rfl, tk, tg, hU, by rw [nD]; exact du, by rw [nD]; exact dv, gR, gL, fun _ _ => gL3 n rfl, (fun _ e => by cases e), by omega, fun z => absurd (wk_fix (fin_fix fun m e => by cases e; exact hn) 1000) (z n), fun b T' kvs' H2 le tg2 tk2 _ bt => ?_⟩
          exact q b T' kvs' H2 le tg2 tk2 (fun _ => cR n rfl) bt
        | s x as =>
          rw [nD] at du
          refine isi_tup du ?_
          obtain ⟨pr, wr, rfl, sr, ar⟩ := dp_tup du
          obtain ⟨r0, hr0, dr0⟩ := DpAll.get (i := 0) ar rfl
          obtain ⟨r1, hr1, dr1⟩ := DpAll.get (i := 1) ar rfl
          obtain ⟨r2, hr2, dr2⟩ := DpAll.get (i := 2) ar rfl
          cases dr0
          cases dr1
          walk_at "go"
          refine iteT ?_
          walk_at "go"
          refine ixT (j := 0) sr hr0 ?_
          walk_at "go"
          refine iteF ?_
          walk_at "go"
          refine isi_tup dv ?_
          walk_at "go"
          refine iteF ?_
          walk_at "go"
          refine isi_tup du ?_
          walk_at "go"
          refine iteF ?_
          walk_at "go"
          refine ixT (j := 1) sl hl1 ?_
          walk_at "go"
          refine ixT (j := 1) sr hr1 ?_
          walk_at "go"
          by_cases exy : y = x
          case neg =>
            rw [decide_eq_false exy]
            refine iteT ?_
            walk_at "go"
            exact nq rfl
          subst exy
          rw [decide_eq_true rfl]
          refine iteF ?_
          walk_at "go"
          refine ixT (j := 2) sl hl2 ?_
          obtain ⟨ql, xl, rfl, sl2, al2⟩ := dp_tup dl2
          obtain ⟨qr, xr, rfl, sr2, ar2⟩ := dp_tup dr2
          rw [nDs_map] at al2 ar2
          have ll := DpAll.len al2
          have lr := DpAll.len ar2
          rw [List.length_map] at ll lr
          walk_at "go"
          refine ⟨ql, _, rfl, .inr sl2, ?_⟩
          walk_at "go"
          refine ixT (j := 2) sr hr2 ?_
          walk_at "go"
          refine ⟨qr, _, rfl, .inr sr2, ?_⟩
          walk_at "go"
          rw [ll, lr]
          by_cases elen : bs.length = as.length
          case neg =>
            rw [decide_eq_false (fun z => elen (by omega))]
            refine iteT ?_
            walk_at "go"
            exact nq rfl
          rw [decide_eq_true (by rw [elen])]
          refine iteF ?_
          walk_at "go"
          refine ixT (j := 2) sl hl2 ?_
          walk_at "go"
          refine ⟨ql, _, rfl, .inr sl2, ?_⟩
          walk_at "go"
          obtain ⟨l8, _⟩ := dl_len gL.dl
          refine ⟨_, rfl, by omega, by omega, fun B nB => ?_⟩
          rw [Int.toNat_natCast, ll]
          have dB : d ≠ B := ne_of_none tk.at_ nB
          have notB : ∀ {b : Addr} {o : HO}, H b = some o → b ≠ B := fun e => ne_of_none e nB
          have hLs := hL fun n e => by cases e
          have keepT : ∀ {H' : Hp}, But d H H' → ∀ b ws, SqT K H b ws → SqT K H' b ws := fun bt b ws h => sqT_but ntd bt h
          refine lc_it (n := bs.length) walk_range (fun i H' => But d H H' ∧ ∃ (fs : List Bool) (T' : Int → Option NT) (kvs' : List (Key × V)), H' B = some (.lst (fs.map V.bl)) ∧ fs.length = i ∧ leT T T' ∧ TG U 3 T' ∧ TK K H' d U T' kvs' ∧ ∀ (j : Nat) (a b : NT), fs[j]? = some true → bs[j]? = some a → as[j]? = some b → Cmp a b)
            ⟨But.of (same_upd nB), [], T, kvs, upd_same, rfl, le_refl T, tg, tk.same (same_upd nB), fun j a b h => by simp at h⟩ (fun _ _ _ _ => trivial) ?_ ?_
          · rintro i z H2 H3 hi ⟨bt, fs, T', kvs', e2, lf, le, tg2, tk2, ok⟩ ⟨rfl, rfl⟩
            show gName 3 (V.int ((0 : Int) + (i : Int))) _ _ _
            rw [Int.zero_add]
            have hia := List.getElem?_eq_getElem hi
            have hib := List.getElem?_eq_getElem (show i < as.length by omega)
            obtain ⟨va, ha, da⟩ := DpAll.get al2 (i := i) (by rw [List.getElem?_map, hia]; rfl)
            obtain ⟨vb, hb, db⟩ := DpAll.get ar2 (i := i) (by rw [List.getElem?_map, hib]; rfl)
            have gA := gL.arg1 (List.getElem_mem hi)
            have gB := gR.arg1 (List.getElem_mem (show i < as.length by omega))
            walk_at "wp"
            walk_at "go"
            refine ⟨rfl, ?_⟩
            walk_at "go"
            refine ixT (j := 2) (keepT bt _ _ sl) hl2 ?_
            walk_at "go"
            refine ixT (j := i) (keepT bt _ _ sl2) ha ?_
            walk_at "go"
            refine ixT (j := 2) (keepT bt _ _ sr) hr2 ?_
            walk_at "go"
            refine ixT (j := i) (keepT bt _ _ sr2) hb ?_
            have bud : ∀ T'', leT T' T'' → TG U 3 T'' → 0 < m0 - 1 ∧ HL T'' (m0 - 2) bs[i] := fun T'' l2 g2 => by
              have := hLs.2 T'' (le_trans le l2) g2
              cases hm : m0 - 1 with
              | zero =>
                rw [hm] at this
                cases this with
                | n _ _ => exact absurd hi (Nat.not_lt_zero _)
              | succ k =>
                rw [hm] at this
                rw [show m0 - 2 = k by omega]
                cases this with
                | n _ _ => exact absurd hi (Nat.not_lt_zero _)
                | s g => exact ⟨Nat.succ_pos k, g _ (List.getElem_mem hi)⟩
            refine ⟨d, va, vb, bs[i], as[i], U, T', kvs', rfl, tk2, tg2, hU, dp_map (keepT bt) _ _ (nD_lay gA.dl).2.2 da, dp_map (keepT bt) _ _ (nD_lay gB.dl).2.2 db, gA.up (by decide), gB.up (by decide), fun _ _ => gB, fun _ _ => gA, by have := hLs.1; omega, fun _ => ⟨by have := (bud T' (le_refl T') tg2).1; omega, fun T'' l2 g2 => (bud T'' l2 g2).2⟩, fun b T3 kvs3 H4 le3 tg3 tk3 cb bt3 => ?_⟩
            have e4 := bt3 _ _ dB.symm e2
            refine ⟨_, e4, Nat.lt_of_le_of_lt (show _ ≤ 100000 by rw [List.length_map]; omega) (by decide), ?_⟩
            have ntB : notTup H4 B := .inl ⟨_, e4⟩
            refine ⟨fun c o hc e => by rw [upd_ne (notB e)]; exact bt3 c o hc (bt c o hc e), fs ++ [b], T3, kvs3, by rw [upd_same, List.map_append]; rfl, by rw [List.length_append, lf]; rfl, le_trans le le3, tg3, tk3.mono tg3 (by rw [upd_ne dB]; exact tk3.at_) (fun c ws h => sqT_put ntB h), fun j a b2 hj ha2 hb2 => ?_⟩
            rcases Nat.lt_or_ge j i with c | c
            · rw [List.getElem?_append_left (by omega)] at hj
              exact ok j a b2 hj ha2 hb2
            · have hjl := (List.getElem?_eq_some_iff.mp hj).1
              rw [List.length_append, lf] at hjl
              have hjl2 : j < i + 1 := hjl
              obtain rfl : j = i := by omega
              rw [List.getElem?_append_right (by omega), lf, Nat.sub_self] at hj
              rw [hia] at ha2
              rw [hib] at hb2
              cases ha2
              cases hb2
              simp at hj
              exact cb hj
          · rintro H2 ⟨bt, fs, T', kvs', e2, lf, le, tg2, tk2, ok⟩
            walk_at "go"
            refine ⟨B, fs, rfl, SqL.of e2, q _ T' kvs' H2 le tg2 tk2 (fun e => cW (.ss y bs as elen fun k a b ha hb => ok k a b ?_ ha hb)) bt⟩
            have hk := (List.getElem?_eq_some_iff.mp ha).1
            rw [List.getElem?_eq_getElem (by omega)]
            congr 1
            exact List.all_eq_true.mp e _ (List.getElem_mem _)
theorem ok__law_unify {f : Addr} {fd : FuncData} (F : Fun K "_law_unify" "_law_unify" s__law_unify f fd) (E : Bi K mg) (D__law_walk : Has P w K mg base 1 "_law_walk" ["table", "value"] (sp__law_walk K)) (D__law_occurs : Has P w K mg base 102 "_law_occurs" ["table", "number", "value"] (sp__law_occurs K)) (g__law_unify : mg "_law_unify" = some (.ref f)) (b__law_unify : Binds K fd ["table", "left", "right"] []) : FnOk P w K mg base CX0 205 f fd ["table", "left", "right"] (sp__law_unify K) := ok__law_unifyN F E D__law_walk D__law_occurs g__law_unify b__law_unify 102

theorem ok_law {f : Addr} {fd : FuncData} (F : Fun K "law" "law" s_law f fd) (E : Bi K mg) (D__law_stream : Has P w K mg base 1 "_law_stream" ["script"] (sp__law_stream K)) (D__law_draw : Has P w K mg base 1 "_law_draw" ["stream", "many"] (sp__law_draw K)) (D__law_clauses : Has P w K mg base 4 "_law_clauses" ["stream", "arity", "many"] (sp__law_clauses K)) (D__law_term : Has P w K mg base 3 "_law_term" ["stream", "size", "widest"] (sp__law_term K)) (D__law_apart : Has P w K mg base 1 "_law_apart" ["node"] (sp__law_apart K)) (D_candidates : Has P w K mg base 6 "candidates" ["clauses", "arguments", "plan"] (sp_candidates K)) (D__law_unify : Has P w K mg base 205 "_law_unify" ["table", "left", "right"] (sp__law_unify K)) (D__law_nest : Has P w K mg base 7 "_law_nest" ["term", "at"] (sp__law_nest K)) : FnOk P w K mg base CX0 206 f fd ["script"] (sp_law K) := by
  obtain ⟨f__law_stream, fd__law_stream, G__law_stream, g__law_stream, kp__law_stream, b__law_stream⟩ := D__law_stream
  obtain ⟨f__law_draw, fd__law_draw, G__law_draw, g__law_draw, kp__law_draw, b__law_draw⟩ := D__law_draw
  obtain ⟨f__law_clauses, fd__law_clauses, G__law_clauses, g__law_clauses, kp__law_clauses, b__law_clauses⟩ := D__law_clauses
  obtain ⟨f__law_term, fd__law_term, G__law_term, g__law_term, kp__law_term, b__law_term⟩ := D__law_term
  obtain ⟨f__law_apart, fd__law_apart, G__law_apart, g__law_apart, kp__law_apart, b__law_apart⟩ := D__law_apart
  obtain ⟨f_candidates, fd_candidates, G_candidates, g_candidates, kp_candidates, b_candidates⟩ := D_candidates
  obtain ⟨f__law_unify, fd__law_unify, G__law_unify, g__law_unify, kp__law_unify, b__law_unify⟩ := D__law_unify
  obtain ⟨f__law_nest, fd__law_nest, G__law_nest, g__law_nest, kp__law_nest, b__law_nest⟩ := D__law_nest
  refine F.ok sc_law (fun vs H Q E h => ?_) (fun cdv A outer s H vs Q E' hr h => ?_)
  · obtain ⟨a, ns, rfl, _⟩ := h
    rfl
  · obtain ⟨a, ns, rfl, hS, hl, q⟩ := h
    have n9 : (2 : Nat) ^ 8 ≤ 2 ^ 9000 := Nat.pow_le_pow_right (by decide) (by decide)
    refine ⟨_, (pss_cons (ps_set (i := 1) sc_law.nd rfl (Or.inr rfl) (pe_call G__law_stream (hr.mono (by decide)) (by rfl) g__law_stream kp__law_stream b__law_stream .nil pass0 (pa_cons (pv 0) pa_nil)))
      (pss_cons (ps_set (i := 2) sc_law.nd rfl (Or.inl rfl) (pe_op op_add pe_int (pe_call G__law_draw (hr.mono (by decide)) (by rfl) g__law_draw kp__law_draw b__law_draw .nil pass0 (pa_cons (pv 1) (pa_cons pe_int pa_nil)))))
      (pss_cons (ps_set (i := 3) sc_law.nd rfl (Or.inl rfl) (pe_call G__law_clauses (hr.mono (by decide)) (by rfl) g__law_clauses kp__law_clauses b__law_clauses .nil pass0 (pa_cons (pv 1) (pa_cons (pv 2) (pa_cons (pe_call G__law_draw (hr.mono (by decide)) (by rfl) g__law_draw kp__law_draw b__law_draw .nil pass0 (pa_cons (pv 1) (pa_cons pe_int pa_nil))) pa_nil)))))
      (pss_cons (ps_setLc (i := 4) (own := [("k", 5)]) (g := gName 5) (tt := tYes) rfl sc_law.nd rfl rfl (by rfl) (pi_range1 (by rfl) E.b_range (pa_cons (pv 2) pa_nil)) (blkOk_by (N := N_law) (sc := defScope s_law) (by decide +kernel)) (fun _ _ _ _ _ => pg_name (i := 5) sc_law.nd rfl (Or.inl rfl)) (fun _ _ _ _ _ => pts_nil) (fun _ _ _ _ _ => (pe_call G__law_term (hr.mono (by decide)) (by rfl) g__law_term kp__law_term b__law_term .nil pass0 (pa_cons (pv 1) (pa_cons (pe_op op_add pe_int (pe_call G__law_draw (hr.mono (by decide)) (by rfl) g__law_draw kp__law_draw b__law_draw .nil pass0 (pa_cons (pv 1) (pa_cons pe_int pa_nil)))) (pa_cons pe_int pa_nil))))))
      (pss_cons (ps_set (i := 6) sc_law.nd rfl (Or.inl rfl) (pe_tup (pa_cons (pe_tup (pa_cons pe_str (pa_cons pe_str (pa_cons (pv 2) pa_nil)))) pa_nil)))
      (pss_cons (ps_for PassesOwn.never rfl (pi_list (pv 4)) (pg_name (i := 7) sc_law.nd rfl (Or.inl rfl)) (pss_one (ps_set (i := 6) sc_law.nd rfl (Or.inl rfl) (pe_op op_catA (pv 6) (pe_callTy call_tuple_of (by rfl) E.b_tuple (by decide +kernel) (pa_cons (pe_lc (own := [("node", 8)]) (g := gName 8) (tt := tYes) rfl sc_law.nd (pi_tup (pv 7)) (blkOk_by (N := N_law) (sc := defScope s_law) (by decide +kernel)) (fun _ _ _ _ _ => pg_name (i := 8) sc_law.nd rfl (Or.inl rfl)) (fun _ _ _ _ _ => pts_nil) (fun _ _ _ _ _ => (pe_call G__law_apart (hr.mono (by decide)) (by rfl) g__law_apart kp__law_apart b__law_apart .nil pass0 (pa_cons (pv 8) pa_nil)))) pa_nil))))))
      (pss_cons (ps_set (i := 9) sc_law.nd rfl (Or.inl rfl) (pe_callTy call_tuple_of (by rfl) E.b_tuple (by decide +kernel) (pa_cons (pe_lc (own := [("k", 5)]) (g := gName 5) (tt := tYes) rfl sc_law.nd (pi_range1 (by rfl) E.b_range (pa_cons (pe_call G__law_draw (hr.mono (by decide)) (by rfl) g__law_draw kp__law_draw b__law_draw .nil pass0 (pa_cons (pv 1) (pa_cons pe_int pa_nil))) pa_nil)) (blkOk_by (N := N_law) (sc := defScope s_law) (by decide +kernel)) (fun _ _ _ _ _ => pg_name (i := 5) sc_law.nd rfl (Or.inl rfl)) (fun _ _ _ _ _ => pts_nil) (fun _ _ _ _ _ => (pe_call G__law_draw (hr.mono (by decide)) (by rfl) g__law_draw kp__law_draw b__law_draw .nil pass0 (pa_cons (pv 1) (pa_cons pe_int pa_nil))))) pa_nil)))
      (pss_cons (ps_set (i := 10) sc_law.nd rfl (Or.inr rfl) (pe_call G_candidates (hr.mono (by decide)) (by rfl) g_candidates kp_candidates b_candidates .nil pass0 (pa_cons (pe_callTy call_list_of (by rfl) E.b_list (by decide +kernel) (pa_cons (pv 3) pa_nil)) (pa_cons (pe_callTy call_list_of (by rfl) E.b_list (by decide +kernel) (pa_cons (pv 4) pa_nil)) (pa_cons (pv 9) pa_nil)))))
      (pss_cons (ps_set (i := 11) sc_law.nd rfl (Or.inl rfl) (pe_call G_candidates (hr.mono (by decide)) (by rfl) g_candidates kp_candidates b_candidates .nil pass0 (pa_cons (pe_callTy call_list_of (by rfl) E.b_list (by decide +kernel) (pa_cons (pv 3) pa_nil)) (pa_cons (pe_callTy call_list_of (by rfl) E.b_list (by decide +kernel) (pa_cons (pv 4) pa_nil)) (pa_cons (pe_op op_catA (pv 9) (pe_tup (pa_cons (pe_call G__law_draw (hr.mono (by decide)) (by rfl) g__law_draw kp__law_draw b__law_draw .nil pass0 (pa_cons (pv 1) (pa_cons pe_int pa_nil))) pa_nil))) pa_nil)))))
      (pss_cons (ps_if (pt_not (pt_val (pe_callB (cr_all rfl) (by rfl) E.b_all (by decide +kernel) (pa_cons (pe_lc (own := [("position", 12)]) (g := gName 12) (tt := tYes) rfl sc_law.nd (pi_list (pv 11)) (blkOk_by (N := N_law) (sc := defScope s_law) (by decide +kernel)) (fun _ _ _ _ _ => pg_name (i := 12) sc_law.nd rfl (Or.inl rfl)) (fun _ _ _ _ _ => pts_nil) (fun _ _ _ _ _ => (pe_cmpR (show OpR _ (compareOp .In) (rInD K) from op_inD (units65 hr)) (pv 12) (pv 10) (by rfl)))) pa_nil)))) (pss_one (ps_ret pe_bl)) pss_nil)
      (pss_cons (ps_for PassesOwn.never rfl (pi_range1 (by rfl) E.b_range (pa_cons (pe_callB (show CallR _ (.builtin "len") (fun xs H Q => ∃ p ys, xs = [V.ref p] ∧ (SqL K H p ys ∨ SqT K H p ys) ∧ Q (V.int ys.length) H) from call_len_seq) (by rfl) E.b_len PySem.boot_len (pa_cons (pv 3) pa_nil)) pa_nil)) (pg_name (i := 12) sc_law.nd rfl (Or.inl rfl)) (pss_one (ps_if (pw_and (pt_val (pe_call G__law_unify (hr.mono (by decide)) (by rfl) g__law_unify kp__law_unify b__law_unify .nil pass0 (pa_cons pe_dnewK (pa_cons (pe_call G__law_nest (hr.mono (by decide)) (by rfl) g__law_nest kp__law_nest b__law_nest .nil pass0 (pa_cons (pe_ix (show IxR _ (rIxT K) from ix_tup) (pe_ix (show IxR _ (rIxL K) from ix_list) (pv 3) (pv 12) (fun _ _ => rfl)) pe_int (fun _ _ => rfl)) (pa_cons pe_int pa_nil))) (pa_cons (pe_call G__law_nest (hr.mono (by decide)) (by rfl) g__law_nest kp__law_nest b__law_nest .nil pass0 (pa_cons (pv 6) (pa_cons pe_int pa_nil))) pa_nil))))) (pw_and1 (pt_cmpR (op_notInD (units65 hr)) (pv 12) (pv 11) (by rfl)))).pt (pss_one (ps_ret pe_bl)) pss_nil)))
      (pss_one (ps_ret pe_bl))))))))))))), ?_⟩
    refine st_of (σ := [some _, none, none, none, none, none, none, none, none, none, none, none, none]) rfl ?_
    walk_at "go"
    refine ⟨a, ns, rfl, hS, hl, fun s l H1 hs hl1 s1 St1 => ?_⟩
    walk_at "go"
    refine ⟨s, l, 4, rfl, St1, by decide, Nat.lt_of_lt_of_le (by decide) n9, fun n0 H2 n10 n11 b2 S2 => ?_⟩
    walk_at "go"
    obtain ⟨n, hn⟩ : ∃ n : Nat, 1 + n0 = (n : Int) := ⟨(1 + n0).toNat, by omega⟩
    rw [hn]
    have n4 : n ≤ 4 := by omega
    refine ⟨s, l, 13, rfl, S2, by decide, Nat.lt_of_lt_of_le (by decide) n9, fun m1 H3 m10 m11 b3 S3 => ?_⟩
    obtain ⟨m, rfl⟩ : ∃ m : Nat, m1 = (m : Int) := ⟨m1.toNat, by omega⟩
    refine ⟨s, l, n, m, rfl, S3, n4, by omega, fun vc cs H4 okc hcl b4 S4 ic => ?_⟩
    walk_at "go"
    have bs : ∀ b, H3 b = Option.none → b ≠ s := fun b e z => by
      obtain ⟨o, ho⟩ := S3.at_s
      rw [z, ho] at e
      cases e
    have ic4 := Im.mono (K := K) (G' := fun b => b ≠ s) (fun _ _ _ e => e) (fun b g => bs b g) _ _ ic
    refine ⟨_, rfl, by omega, by omega, fun D hD => ?_⟩
    obtain ⟨os4, hos4⟩ := S4.at_s
    obtain ⟨ol4, hol4⟩ := S4.at_l
    have sD : s ≠ D := ne_of_none hos4 hD
    have lD : l ≠ D := ne_of_none hol4 hD
    have ic5 : Im K (fun b => b ≠ s ∧ b ≠ D) H4 vc (.list (cs.map (clD n))) := Im.mono2 (fun _ _ _ e => e) (fun b o e g => ⟨g, ne_of_none e hD⟩) _ _ ic4
    rw [Int.toNat_natCast]
    refine lc_it (n := n) walk_range (fun i H' => ∃ (xs : List V) (rs : List (List PyData)), H' D = some (.lst xs) ∧ ImAll K (fun b => b ≠ s ∧ b ≠ D) H' xs (rs.map PyData.tuple) ∧ (∀ r ∈ rs, OkRow r) ∧ xs.length = i ∧ rs.length = i ∧ Stm H' s l ∧ Im K (fun b => b ≠ s ∧ b ≠ D) H' vc (.list (cs.map (clD n))))
      ⟨[], [], upd_same, .nil, (fun q hq => nomatch hq), rfl, rfl, S4.put sD lD, Im.mono (fun b o g e => by rw [upd_ne g.2]; exact e) (fun _ g => g) _ _ ic5⟩ (fun _ _ _ _ => trivial) ?_ ?_
    · rintro i z H5 H5' hi ⟨xs, rs, h1, h2, h3, h4, h4', h5, h6⟩ ⟨rfl, rfl⟩
      walk_at "wp"
      walk_at "go"
      refine ⟨rfl, ?_⟩
      walk_at "go"
      refine ⟨s, l, 4, rfl, h5, by decide, Nat.lt_of_lt_of_le (by decide) n9, fun w H6 w0 w1 b6 S6 => ?_⟩
      walk_at "go"
      refine ⟨s, l, 1 + w, 3, rfl, S6, by omega, by omega, by decide, by decide, fun v ds H7 ht hlen b7 S7 iv => ?_⟩
      have bb := b6.trans b7
      have e7 : H7 D = some (.lst xs) := bb _ _ sD.symm h1
      have k7 : ∀ b o, (b ≠ s ∧ b ≠ D) → H7 b = some o → (upd H7 D (.lst (xs ++ [v]))) b = some o := fun b o hb e => by rw [upd_ne hb.2]; exact e
      refine ⟨xs, e7, Nat.lt_of_le_of_lt (show xs.length ≤ 1000 by omega) (by decide), xs ++ [v], rs ++ [ds], upd_same, ?_, fun r hr => ?_, by rw [List.length_append, h4]; rfl, by rw [List.length_append, h4']; rfl, S7.put sD lD, Im.mono (fun b o g x => k7 b o g (bb b o g.1 x)) (fun _ g => g) _ _ h6⟩
      · rw [List.map_append]
        refine ImAll.snoc (Im.monoAll (fun b o g x => k7 b o g (bb b o g.1 x)) (fun _ g => g) _ _ h2) (Im.mono (fun b o g e => k7 b o g e) (fun _ g => g) _ _ (Im.mono (G' := fun b => b ≠ s ∧ b ≠ D) (fun _ _ _ e => e) (fun b g => ?_) _ _ iv))
        obtain ⟨o6, ho6⟩ := S6.at_s
        exact ⟨(fun z => by rw [z, ho6] at g; cases g), (fun z => by rw [z, b6 _ _ sD.symm h1] at g; cases g)⟩
      · rcases List.mem_append.mp hr with z | z
        · exact h3 _ z
        · rw [List.mem_singleton.mp z]
          exact ⟨ht.cl, fun d hd => ⟨3, ht.nd d hd⟩, by omega⟩
    · rintro H5 ⟨xs, args, h1, h2, h3, h4, h4', S5, h6⟩
      have oka : OkRows n args := ⟨h4', h3⟩
      walk_at "go"
      refine newN (n := 3) rfl (by decide) fun p0 np0 => ?_
      walk_at "go"
      refine newN (n := 1) rfl (by decide) fun p1 np1 => ?_
      walk_at "go"
      have t1 := (same_upd (o := .tup [.str "f", .str "p", .int (n : Int)]) np0).trans (same_upd (o := .tup [.ref p0]) np1)
      have dcall : Dp K (upd (upd H5 p0 (.tup [.str "f", .str "p", .int (n : Int)])) p1 (.tup [.ref p0])) (.ref p1) (.tuple [hdD n]) := .tup (SqT.of upd_same) (.cons (.tup (SqT.of (same_upd np1 _ _ upd_same)) (.cons (.str _) (.cons (.str _) (.cons (.int _) .nil)))) .nil)
      have icl : Im K (fun b => b ≠ s) H5 vc (.list (cs.map (clD n))) := Im.mono (fun _ _ _ e => e) (fun b g => g.1) _ _ h6
      have iar : Im K (fun b => b ≠ s) H5 (.ref D) (.list (args.map PyData.tuple)) := .lst sD.symm h1 (Im.monoAll (fun _ _ _ e => e) (fun b g => g.1) _ _ h2)
      have haa := Im.dpAll _ _ h2
      clear h2 h6
      generalize upd (upd H5 p0 (.tup [.str "f", .str "p", .int (n : Int)])) p1 (.tup [.ref p0]) = H6 at t1 dcall
      have lx := DpAll.len haa
      rw [List.length_map] at lx
      have flen : ∀ i, (((args.take i).map (List.map apD)).flatten).length ≤ 4 * i := fun i => by
        rw [← List.map_flatten, List.length_map]
        have h := flat4 (rows := args.take i) fun r hr => h3 r (List.mem_of_mem_take hr)
        rw [List.length_take] at h
        omega
      have ndr : ∀ r ∈ args, ∀ d ∈ r, NdA d := fun r hr => (oka.row r hr).nd
      refine ⟨D, rfl, ⟨_, same_sqL t1 (SqL.of h1)⟩, for_list (K := K) (a := D) (xs := xs) (fun i σ H' => ∃ (cv : V) (v7 v8 : Option V), σ = [some (.ref a), some (.ref s), some (.int (n : Int)), some vc, some (.ref D), none, some cv, v7, v8, none, none, none, none] ∧ Same H5 H' ∧ Dp K H' cv (.tuple (hdD n :: ((args.take i).map (List.map apD)).flatten)))
        ⟨_, none, none, rfl, t1, dcall⟩ (fun i σ H' _ ⟨_, _, _, _, s', _⟩ => same_sqL s' (SqL.of h1)) ?_ ?_⟩
      · rintro i z σ H7 hz ⟨cv, v7, v8, rfl, s7, dcv⟩
        obtain ⟨dd, hd, dz0⟩ := DpAll.getV haa hz
        rw [List.getElem?_map] at hd
        obtain ⟨row, hrow, rfl⟩ := Option.map_eq_some_iff.mp hd
        obtain ⟨pz, ws, rfl, sz, az⟩ := dp_tup (dp_same s7 _ _ dz0)
        have lw := DpAll.len az
        have okr := h3 row (List.mem_of_getElem? hrow)
        walk_at "go"
        refine ⟨pz, rfl, ⟨_, sz⟩, fun B nB => ?_⟩
        refine lc_it walk_tup (fun j H' => Same H7 H' ∧ ∃ ys, H' B = some (.lst ys) ∧ DpAll K H' ys ((row.map apD).take j)) ⟨same_upd nB, [], upd_same, .nil⟩ (fun j H' _ h => same_sqT h.1 sz) ?_ ?_
        · rintro j z H8 H9 hj ⟨s8, ys, e8, d8⟩ ⟨rfl, hz2⟩
          obtain ⟨d, hd2, dz2⟩ := DpAll.getV az hz2
          have ndd := okr.nd d (List.mem_of_getElem? hd2)
          walk_at "wp"
          walk_at "go"
          refine ⟨rfl, ?_⟩
          walk_at "go"
          refine ⟨z, d, rfl, dp_same s8 _ _ dz2, ndd, fun v H10 s10 d10 => ?_⟩
          have ly := DpAll.len d8
          rw [List.length_take, List.length_map] at ly
          have hr4 := okr.len
          have e10 := s10 _ _ e8
          refine ⟨ys, e10, Nat.lt_of_le_of_lt (show _ ≤ 100000 by omega) (by decide), same_new nB (s8.trans s10), ys ++ [v], upd_same, ?_⟩
          rw [List.take_add_one, List.getElem?_map, hd2]
          have nt : notTup H10 B := .inl ⟨_, e10⟩
          have nap : ∀ e ∈ row.map apD, NdA e := fun e he => by
            obtain ⟨x, hx, rfl⟩ := List.mem_map.mp he
            exact (ap_nd (okr.nd x hx)).1
          exact dpAll_end (dp_putAll nt _ _ (nds_noL fun e he => nap e (List.mem_of_mem_take he)) (dp_sameAll s10 _ _ d8)) (dp_put nt _ _ (nd_noL (ap_nd ndd).1) d10)
        · rintro H8 ⟨s8, ys, e8, d8⟩
          rw [lw, List.take_of_length_le (by rw [List.length_map]; exact Nat.le_refl _)] at d8
          walk_at "go"
          refine ⟨B, ys, rfl, .inl ⟨SqL.of e8, fun t nt => ?_⟩⟩
          have st := same_upd (o := .tup ys) nt
          have fl1 := flen i
          have hr4 := okr.len
          refine cat_dpA (dp_same (s8.trans st) _ _ dcv) (.tup (SqT.of upd_same) (dp_sameAll st _ _ d8)) (by rw [List.length_cons, List.length_map]; have := (List.getElem?_eq_some_iff.mp hrow).1; omega) fun v H10 s10 d10 => ?_
          walk_at "go"
          refine ⟨v, _, _, rfl, s7.trans (s8.trans (st.trans s10)), ?_⟩
          rw [List.take_add_one, hrow, List.map_append, List.flatten_append]
          have e : Dp K H10 v (.tuple (hdD n :: ((args.take i).map (List.map apD)).flatten ++ row.map apD)) := d10
          simpa using e
      · rintro σ H7 ⟨cv, v7, v8, rfl, s7, dcv⟩
        rw [lx, List.take_length] at dcv
        walk_at "go"
        have S7 := S5.keep s7
        refine ⟨s, l, 5, rfl, S7, by decide, Nat.lt_of_lt_of_le (by decide) n9, fun k1 H8 k10 k11 b8 S8 => ?_⟩
        walk_at "go"
        obtain ⟨j1, rfl⟩ : ∃ j : Nat, k1 = (j : Int) := ⟨k1.toNat, by omega⟩
        refine ⟨_, rfl, by omega, by omega, fun F nF => ?_⟩
        rw [Int.toNat_natCast]
        have hF8 : ∀ {b : Addr} {o : HO}, H8 b = some o → b ≠ F := fun e => ne_of_none e nF
        obtain ⟨os8, hos8⟩ := S8.at_s
        obtain ⟨ol8, hol8⟩ := S8.at_l
        refine lc_it (n := j1) walk_range (fun i H' => ∃ plan : List Nat, H' F = some (.lst ((natsI plan).map V.int)) ∧ plan.length = i ∧ Stm H' s l ∧ (∀ b o, b ≠ s → b ≠ F → H8 b = some o → H' b = some o))
          ⟨[], upd_same, rfl, S8.put (hF8 hos8) (hF8 hol8), fun b o _ hb e => by rw [upd_ne hb]; exact e⟩ (fun _ _ _ _ => trivial) ?_ ?_
        · rintro i z H9 H9' hi ⟨plan, e9, c9, S9, k9⟩ ⟨rfl, rfl⟩
          walk_at "wp"
          walk_at "go"
          refine ⟨rfl, ?_⟩
          walk_at "go"
          refine ⟨s, l, 4, rfl, S9, by decide, Nat.lt_of_lt_of_le (by decide) n9, fun w H10 w0 w1 b10 S10 => ?_⟩
          obtain ⟨j, rfl⟩ : ∃ j : Nat, w = (j : Int) := ⟨w.toNat, by omega⟩
          have hnl : (natsI plan).length = plan.length := List.length_map ..
          refine ⟨_, b10 _ _ (hF8 hos8).symm e9, small1000 (by rw [List.length_map, hnl]; omega), plan ++ [j], ?_, by rw [List.length_append, c9]; rfl, S10.put (hF8 hos8) (hF8 hol8), fun b o hb hb2 e => by rw [upd_ne hb2]; exact b10 b o hb (k9 b o hb hb2 e)⟩
          rw [upd_same, natsI_snoc, List.map_append]
          rfl
        · rintro H9 ⟨plan, e9, c9, S9, k9⟩
          have keep9 : ∀ b o, b ≠ s → H5 b = some o → H9 b = some o := fun b o hb e => k9 b o hb (hF8 (b8 b o hb (s7 _ _ e))) (b8 b o hb (s7 _ _ e))
          have icl9 := Im.mono (G' := fun b => b ≠ s) keep9 (fun _ g => g) _ _ icl
          have iar9 := Im.mono (G' := fun b => b ≠ s) keep9 (fun _ g => g) _ _ iar
          have ndC : ∀ d ∈ hdD n :: (args.map (List.map apD)).flatten, NdA d := fun d hd => by
            rcases List.mem_cons.mp hd with rfl | hd
            · exact hd_nd (by omega)
            · obtain ⟨row, hrow, hd⟩ := List.mem_flatten.mp hd
              obtain ⟨r0, hr0, rfl⟩ := List.mem_map.mp hrow
              obtain ⟨x, hx, rfl⟩ := List.mem_map.mp hd
              exact (ap_nd (ndr r0 hr0 x hx)).1
          have dcv9 : Dp K H9 cv (.tuple (hdD n :: (args.map (List.map apD)).flatten)) := by
            have e8 := dp_but S7 b8 ndC dcv
            exact dp_map (fun b ws h => by
              rcases h with (h | ⟨u, h⟩) | h
              · exact .inl (.inl (k9 _ _ (fun z => by rw [z, hos8] at h; obtain ⟨_, _, _, _, w1, _⟩ := S8.ex; rw [w1] at hos8; rw [← Option.some.inj hos8] at h; cases h) (hF8 h) h))
              · exact .inl (.inr ⟨u, k9 _ _ (fun z => by rw [z, hos8] at h; obtain ⟨_, _, _, _, w1, _⟩ := S8.ex; rw [w1] at hos8; rw [← Option.some.inj hos8] at h; cases h) (hF8 h) h⟩)
              · exact .inr h) _ _ (tup_noL ndC) e8
          walk_at "go"
          refine ⟨F, _, rfl, .inl ⟨SqL.of e9, fun p np => ?_⟩⟩
          walk_at "go"
          have u1 := same_upd (o := .tup ((natsI plan).map V.int)) np
          have dc9 := Im.dp _ _ icl9
          have da9 := Im.dp _ _ iar9
          obtain ⟨ac, xc, rfl, hsc, hac⟩ := dp_lst dc9
          obtain ⟨_, xa, ez, hsa, haa9⟩ := dp_lst da9
          cases ez
          refine ⟨ac, xc, rfl, .inl (u1.seq hsc), fun g ng => ?_⟩
          walk_at "go"
          have u2 := u1.trans (same_upd (o := .lst xc) ng)
          refine ⟨D, xa, rfl, .inl (u2.seq hsa), fun g2 ng2 => ?_⟩
          have u3 := u2.trans (same_upd (o := .lst xa) ng2)
          have dpP : Dp K (upd (upd (upd H9 p (.tup ((natsI plan).map V.int))) g (.lst xc)) g2 (.lst xa)) (.ref p) (.tuple ((natsI plan).map PyData.int)) := .tup (SqT.of (same_upd ng2 _ _ (same_upd ng _ _ upd_same))) (dp_ints _)
          have dpG : Dp K (upd (upd (upd H9 p (.tup ((natsI plan).map V.int))) g (.lst xc)) g2 (.lst xa)) (.ref g) (.list (cs.map (clD n))) := .lst (SqL.of (same_upd ng2 _ _ upd_same)) (dp_sameAll u3 _ _ hac)
          have dpG2 : Dp K (upd (upd (upd H9 p (.tup ((natsI plan).map V.int))) g (.lst xc)) g2 (.lst xa)) (.ref g2) (.list (args.map PyData.tuple)) := .lst (SqL.of upd_same) (dp_sameAll u3 _ _ haa9)
          generalize upd (upd (upd H9 p (.tup ((natsI plan).map V.int))) g (.lst xc)) g2 (.lst xa) = H10 at u3 dpP dpG dpG2
          have hpl : plan.length ≤ 4 := by omega
          walk_at "go"
          refine ⟨.ref g, .ref g2, .ref p, n, args, cs, plan, rfl, ⟨dpG, dpG2, dpP, n4, oka, okc, by omega, by omega⟩, fun r1 H11 s11 nr1 e11 => ?_⟩
          walk_at "go"
          have u11 := u3.trans s11
          refine ⟨ac, xc, rfl, .inl (u11.seq hsc), fun g3 ng3 => ?_⟩
          walk_at "go"
          have u12 := u11.trans (same_upd (o := .lst xc) ng3)
          refine ⟨D, xa, rfl, .inl (u12.seq hsa), fun g4 ng4 => ?_⟩
          have v13 := (same_upd (o := .lst xc) ng3).trans (same_upd (o := .lst xa) ng4)
          have u13 := u12.trans (same_upd (o := .lst xa) ng4)
          have dcl13 : Dp K (upd (upd H11 g3 (.lst xc)) g4 (.lst xa)) (.ref g3) (.list (cs.map (clD n))) := .lst (SqL.of (same_upd ng4 _ _ upd_same)) (dp_sameAll u13 _ _ hac)
          have dar13 : Dp K (upd (upd H11 g3 (.lst xc)) g4 (.lst xa)) (.ref g4) (.list (args.map PyData.tuple)) := .lst (SqL.of upd_same) (dp_sameAll u13 _ _ haa9)
          have g3s : (upd (upd H11 g3 (.lst xc)) g4 (.lst xa)) g3 = some (.lst xc) := same_upd ng4 _ _ upd_same
          have g4s : (upd (upd H11 g3 (.lst xc)) g4 (.lst xa)) g4 = some (.lst xa) := upd_same
          have e13 := v13 _ _ e11
          have dpP13 := dp_same (s11.trans v13) _ _ dpP
          have S13 : Stm (upd (upd H11 g3 (.lst xc)) g4 (.lst xa)) s l := S9.keep u13
          generalize upd (upd H11 g3 (.lst xc)) g4 (.lst xa) = H13 at u13 dcl13 dar13 g3s g4s e13 dpP13 S13
          walk_at "go"
          refine ⟨s, l, 4, rfl, S13, by decide, Nat.lt_of_lt_of_le (by decide) n9, fun w H14 w0 w1 b14 S14 => ?_⟩
          walk_at "go"
          obtain ⟨w', rfl⟩ : ∃ j : Nat, w = (j : Int) := ⟨w.toNat, by omega⟩
          have ntS := stm_nt S13
          obtain ⟨o13, hs13⟩ := S13.at_s
          have g3s' : g3 ≠ s := fun z => by
            have := (S9.keep u11).at_s
            obtain ⟨o, ho⟩ := this
            rw [← z, ng3] at ho
            cases ho
          have g4s' : g4 ≠ s := fun z => by
            have := (S9.keep u12).at_s
            obtain ⟨o, ho⟩ := this
            rw [← z, ng4] at ho
            cases ho
          have r1s' : r1 ≠ s := fun z => by
            have := (S9.keep u3).at_s
            obtain ⟨o, ho⟩ := this
            rw [← z, nr1] at ho
            cases ho
          have mv := fun (b : Addr) (xs : List V) (h : SqT K H13 b xs) => sqT_but (K := K) ntS b14 h
          have nlC : noLA (cs.map (clD n)) = true := noLA_of fun e he => by obtain ⟨r, hr, rfl⟩ := List.mem_map.mp he; exact clD_noL (by omega) (okc r hr)
          have nlA : noLA (args.map PyData.tuple) = true := noLA_of fun e he => by obtain ⟨r, hr, rfl⟩ := List.mem_map.mp he; exact tup_noL (ndr r hr)
          have dcl14 : Dp K H14 (.ref g3) (.list (cs.map (clD n))) := .lst (SqL.of (b14 _ _ g3s' g3s)) (dp_mapAll mv _ _ nlC (dp_sameAll u13 _ _ hac))
          have dar14 : Dp K H14 (.ref g4) (.list (args.map PyData.tuple)) := .lst (SqL.of (b14 _ _ g4s' g4s)) (dp_mapAll mv _ _ nlA (dp_sameAll u13 _ _ haa9))
          have dpP14 : Dp K H14 (.ref p) (.tuple ((natsI plan).map PyData.int)) := dp_map mv _ _ (by rw [noL]; exact ints_noL _) dpP13
          have e14 := b14 _ _ r1s' e13
          have dcv14 : Dp K H14 cv (.tuple (hdD n :: (args.map (List.map apD)).flatten)) := dp_map mv _ _ (tup_noL ndC) (dp_same u13 _ _ dcv9)
          have hsc14 : Dp K H14 (.ref ac) (.list (cs.map (clD n))) := Im.dp _ _ (Im.mono (G' := fun b => b ≠ s) (fun b o hb e => b14 b o hb (u13 b o e)) (fun _ g => g) _ _ icl9)
          refine newN (n := 1) rfl (by decide) fun p2 np2 => ?_
          have z1 := same_upd (o := .tup [.int (w' : Int)]) np2
          have hnl : (natsI plan).length = plan.length := List.length_map ..
          refine cat_dpA (dp_same z1 _ _ dpP14) (.tup (SqT.of upd_same) (.cons (.int _) .nil)) (by rw [List.length_map, hnl]; simp; omega) fun v H16 z2 dv16 => ?_
          have z16 := z1.trans z2
          have dv : Dp K H16 v (.tuple ((natsI (plan ++ [w'])).map PyData.int)) := by
            have e : Dp K H16 v (.tuple ((natsI plan).map PyData.int ++ [.int (w' : Int)])) := dv16
            rw [natsI_snoc, List.map_append]
            exact e
          walk_at "go"
          refine ⟨.ref g3, .ref g4, v, n, args, cs, plan ++ [w'], rfl, ⟨dp_same z16 _ _ dcl14, dp_same z16 _ _ dar14, dv, n4, oka, okc, by omega, by rw [List.length_append, List.length_singleton]; omega⟩, fun r2 H17 s17 nr2 e17 => ?_⟩
          walk_at "go"
          have z17 := z16.trans s17
          have hml := resC_len (plan ++ [w']) n args cs cs.length
          have hll := resC_len plan n args cs cs.length
          have dr1 : Dp K H17 (.ref r1) (.list ((natsI (resC plan n args cs cs.length)).map PyData.int)) := .lst (SqL.of (z17 _ _ e14)) (dp_ints _)
          have dr2 : Dp K H17 (.ref r2) (.list ((natsI (resC (plan ++ [w']) n args cs cs.length)).map PyData.int)) := .lst (SqL.of e17) (dp_ints _)
          have int_sh : ∀ i : Int, SeqAt.shaped (.int i) = true := fun i => by show (PyData.canLay0 (.int i) && decide ((PyData.int i).depth ≤ 64)) = true; simp [PyData.canLay0, PyData.depth]
          have any_in : ∀ (L : List Nat) (j : Nat), ((natsI L).map PyData.int).any (fun z => PyData.eqv z (.int (j : Int))) = decide (j ∈ L) := fun L j => by
            induction L with
            | nil => rfl
            | cons x L ih =>
              unfold natsI at ih ⊢
              rw [List.map_cons, List.map_cons, List.any_cons, ih]
              show ((x : Int) == (j : Int) || _) = _
              by_cases e : x = j
              · subst e; simp
              · have e2 : ¬ ((x : Int) = (j : Int)) := by omega
                have e3 : ¬ (j = x) := fun q => e q.symm
                simp [e2, e3]
          refine ⟨r2, rfl, ⟨_, SqL.of e17⟩, fun G nG => ?_⟩
          refine lc_it (n := ((natsI (resC (plan ++ [w']) n args cs cs.length)).map V.int).length) walk_list (fun i H' => Same H17 H' ∧ H' G = some (.lst (List.replicate i (.bl true)))) ⟨same_upd nG, upd_same⟩ (fun i H' _ h => SqL.of (h.1 _ _ e17)) ?_ ?_
          · rintro i z H18 H19 hi ⟨s18, e18⟩ ⟨rfl, hz⟩
            rw [List.length_map] at hi
            unfold natsI at hi
            rw [List.length_map] at hi
            have hj := List.getElem?_eq_getElem hi
            rw [List.getElem?_map] at hz
            unfold natsI at hz
            rw [List.getElem?_map, hj] at hz
            cases hz
            walk_at "wp"
            walk_at "go"
            refine ⟨rfl, ?_⟩
            walk_at "go"
            refine ⟨_, _, .int _, dp_same s18 _ _ dr1, int_sh _, ints_shaped _, ?_⟩
            have hin : (resC (plan ++ [w']) n args cs cs.length)[i] ∈ resC plan n args cs cs.length := by
              have := List.getElem_mem hi
              unfold resC at this ⊢
              obtain ⟨m1, m2⟩ := List.mem_filter.mp this
              exact List.mem_filter.mpr ⟨m1, okP_less m2⟩
            rw [any_in, decide_eq_true hin]
            refine ⟨_, e18, Nat.lt_of_le_of_lt (show _ ≤ 100000 by rw [List.length_replicate]; omega) (by decide), same_new nG s18, ?_⟩
            rw [upd_same, List.replicate_succ']
          rintro H18 ⟨s18, e18⟩
          walk_at "go"
          refine ⟨G, List.replicate ((natsI (resC (plan ++ [w']) n args cs cs.length)).map V.int).length true, rfl, SqL.of (by rw [List.map_replicate]; exact e18), ?_⟩
          rw [show (List.replicate ((natsI (resC (plan ++ [w']) n args cs cs.length)).map V.int).length true).all id = true by simp]
          walk_at "go"
          have z18 := z17.trans s18
          have dcl18 := dp_same z18 _ _ hsc14
          have dcv18 := dp_same z18 _ _ dcv14
          have dr18 := dp_same s18 _ _ dr2
          obtain ⟨_, xs18, ez, hsq18, hda18⟩ := dp_lst dcl18
          cases ez
          have lx18 := DpAll.len hda18
          rw [List.length_map] at lx18
          refine ⟨ac, _, rfl, .inl hsq18, ?_⟩
          walk_at "go"
          refine ⟨_, rfl, by omega, by omega, ?_⟩
          rw [Int.toNat_natCast, lx18]
          refine for_range (fun i σ H' => ∃ v12 : Option V, σ = [some (.ref a), some (.ref s), some (.int (n : Int)), some (.ref ac), some (.ref D), none, some cv, v7, v8, some (.ref p), some (.ref r1), some (.ref r2), v12] ∧ Same H18 H') ⟨_, rfl, Same.refl H18⟩ ?_ ?_
          · rintro i σ H19 hi ⟨v12, rfl, s19⟩
            rw [Int.zero_add]
            walk_at "go"
            intro pd npd
            have hri := List.getElem?_eq_getElem (show i < cs.length by omega)
            have okr := okc _ (List.getElem_mem (show i < cs.length by omega))
            obtain ⟨u, hu, du0⟩ := DpAll.get hda18 (i := i) (by rw [List.getElem?_map, hri]; rfl)
            generalize cs[i] = rows at hri okr du0
            have y1 := s19.trans (same_upd (o := .dK []) npd)
            have np18 : H18 pd = Option.none := s19.free npd
            have ed1 : (upd H19 pd (.dK [])) pd = some (.dK []) := upd_same
            have dcv20 := dp_same y1 _ _ dcv18
            have du := dp_same y1 _ _ du0
            have hsq20 := same_sqL y1 hsq18
            generalize upd H19 pd (.dK []) = H20 at y1 ed1 dcv20 du hsq20
            unfold clD at du
            obtain ⟨pu, us, rfl, squ, au⟩ := dp_tup du
            obtain ⟨hv, hhv, dhv⟩ := DpAll.get (i := 0) au rfl
            walk_at "go"
            refine ixL (j := i) hsq20 hu ?_
            walk_at "go"
            refine ixT (j := 0) squ hhv ?_
            walk_at "go"
            obtain ⟨as, la, fa, ha⟩ := rows_nst rows fun r hr => okr.row r hr
            obtain ⟨bs, lb, fb, hb⟩ := rows_nst (args.map (List.map apD)) fun r hr => by
              obtain ⟨x, hx, rfl⟩ := List.mem_map.mp hr
              exact ap_row (oka.row x hx)
            have okb : OkRows n (args.map (List.map apD)) := ⟨by rw [List.length_map]; exact oka.len, fun r hr => by
              obtain ⟨x, hx, rfl⟩ := List.mem_map.mp hr
              exact ap_row (oka.row x hx)⟩
            have n8 : n ≤ 8 := by omega
            obtain ⟨dla, dlA⟩ := dl_head okr n8 la ha
            obtain ⟨dlb, dlB⟩ := dl_head okb n8 lb hb
            have la' : as.length = n := la.trans okr.len
            have lb' : bs.length = n := lb.trans okb.len
            have fA := fl_head la' fa
            have fB := fl_head lb' fb
            have ndA : ∀ d ∈ hdD n :: rows.flatten, NdA d := fun d hd => by
              rcases List.mem_cons.mp hd with rfl | hd
              · exact hd_nd n8
              · obtain ⟨row, hrow, hd⟩ := List.mem_flatten.mp hd
                exact (okr.row row hrow).nd d hd
            have clA : Cls 1 (hdD n :: rows.flatten) := by rw [← fA]; exact fl_cls _
            have clB : Cls 1 (hdD n :: (args.map (List.map apD)).flatten) := by rw [← fB]; exact fl_cls _
            refine ⟨hv, _, [], 0, 0, .s "p" as, rfl, dhv, ndA, by rw [List.drop_zero, fA, List.append_nil], clA, by decide, dlA, fun w1 H21 s21 d21 => ?_⟩
            walk_at "go"
            refine ⟨cv, _, [], 0, 0, .s "p" bs, rfl, dp_same s21 _ _ dcv20, ndC, by rw [List.drop_zero, fB, List.append_nil], clB, by decide, dlB, fun w2 H22 s22 d22 => ?_⟩
            have y22 := y1.trans (s21.trans s22)
            have fl4 := flat4 okr.row
            have fl5 := flat4 okb.row
            have hrl := okr.len
            have hbl := okb.len
            have vin1 : ∀ m, vIn m (.s "p" as) → m ∈ varsF rows.flatten ++ varsF (args.map (List.map apD)).flatten := fun m hm => by
              obtain ⟨a', ha', hm⟩ := vIn_s.mp hm
              have := vars_ins as a' ha' m hm
              rw [fa] at this
              exact List.mem_append_left _ this
            have vin2 : ∀ m, vIn m (.s "p" bs) → m ∈ varsF rows.flatten ++ varsF (args.map (List.map apD)).flatten := fun m hm => by
              obtain ⟨a', ha', hm⟩ := vIn_s.mp hm
              have := vars_ins bs a' ha' m hm
              rw [fb] at this
              exact List.mem_append_right _ this
            have hU : (varsF rows.flatten ++ varsF (args.map (List.map apD)).flatten).length ≤ 24 := by
              rw [List.length_append]
              have := varsF_rows okr.row
              have := varsF_rows okb.row
              omega
            generalize varsF rows.flatten ++ varsF (args.map (List.map apD)).flatten = U at vin1 vin2 hU
            refine ⟨pd, w1, w2, .s "p" as, .s "p" bs, U, noT, [], rfl, ⟨s22 _ _ (s21 _ _ ed1), fun _ => .inl ⟨rfl, rfl⟩, by rw [List.length_nil, Nat.zero_add]; exact List.length_filter_le _ _⟩, tg_no U 3, hU, dp_same s22 _ _ d21, d22, ⟨dlA, vin1⟩, ⟨dlB, vin2⟩, (fun _ e => by cases e), (fun _ e => by cases e), by decide, fun _ => ⟨by decide, fun T' _ tg' => .s (k := 99) fun a' ha' => tg'.hl (c := 24) hU ⟨dla a' ha', fun m hm => vin1 m (vIn_s.mpr ⟨a', ha', hm⟩)⟩⟩, fun b T' kvs' H23 le tg tk cb bt => ?_⟩
            have y23 : Same H18 H23 := fun c o e => bt c o (ne_of_none e np18) (y22 c o e)
            walk_at "go"
            cases b with
            | false =>
              walk_at "go"
              exact ⟨_, rfl, y23⟩
            | true =>
              walk_at "go"
              refine ⟨_, _, .int _, dp_same y23 _ _ dr18, int_sh _, ints_shaped _, ?_⟩
              rw [any_in, decide_eq_true (cmp_cand (w := 0) hri oka okr ha hb la' lb' (cb rfl))]
              walk_at "go"
              exact ⟨_, rfl, y23⟩
          · rintro σ H19 ⟨v12, rfl, s19⟩
            walk_at "go"
            exact q _

end
/-! ### the end -/
theorem all_mk {l : PySem.W.OpenLaw} {w : World} {K : PySem.W.Frag} {h : Heap} {mg : Str → Option Value} {fa f1 f2 f3 f4 f5 f6 f7 f8 f9 f10 f11 f12 f13 f14 f15 f16 f17 f18 f19 f20 f21 f22 : Addr} (X : K.In h) (G : h.Ns mainGlobals mg) (hfa : mg "law" = some (.ref fa))
    {od1 an1 od2 an2 od3 an3 od4 an4 od5 an5 od6 an6 od7 an7 od8 an8 od9 an9 od10 an10 od11 an11 od12 an12 od13 an13 od14 an14 od15 an15 od16 an16 od17 an17 od18 an18 od19 an19 od20 an20 od21 an21 od22 an22 : Option Addr} {sl1 sl2 sl3 sl4 sl5 sl6 sl7 sl8 sl9 sl10 sl11 sl12 sl13 sl14 sl15 sl16 sl17 sl18 sl19 sl20 sl21 sl22 : Array (Option Value)} {oc1 kV1 dc1 pm1 cd1 ct1 oc2 kV2 dc2 pm2 cd2 ct2 oc3 kV3 dc3 pm3 cd3 ct3 oc4 kV4 dc4 pm4 cd4 ct4 oc5 kV5 dc5 pm5 cd5 ct5 oc6 kV6 dc6 pm6 cd6 ct6 oc7 kV7 dc7 pm7 cd7 ct7 oc8 kV8 dc8 pm8 cd8 ct8 oc9 kV9 dc9 pm9 cd9 ct9 oc10 kV10 dc10 pm10 cd10 ct10 oc11 kV11 dc11 pm11 cd11 ct11 oc12 kV12 dc12 pm12 cd12 ct12 oc13 kV13 dc13 pm13 cd13 ct13 oc14 kV14 dc14 pm14 cd14 ct14 oc15 kV15 dc15 pm15 cd15 ct15 oc16 kV16 dc16 pm16 cd16 ct16 oc17 kV17 dc17 pm17 cd17 ct17 oc18 kV18 dc18 pm18 cd18 ct18 oc19 kV19 dc19 pm19 cd19 ct19 oc20 kV20 dc20 pm20 cd20 ct20 oc21 kV21 dc21 pm21 cd21 ct21 oc22 kV22 dc22 pm22 cd22 ct22 : Value}

    (a1 : PySem.W.nsIn K mainGlobals "is_variable" = some (some (.ref f1))) (l1 : K.lookup f1 = some ⟨oc1, od1, .func (PySem.W.fnOf "is_variable" "is_variable" (defArgs s_is_variable) (defBody s_is_variable) (defScope s_is_variable) .none kV1 dc1 pm1 an1 cd1 ct1), sl1⟩) (c1 : PySem.W.codeIn K cd1 "is_variable" = true) (k1 : PySem.W.keepIn K (.ref f1) = true)
    (a2 : PySem.W.nsIn K mainGlobals "is_symbol" = some (some (.ref f2))) (l2 : K.lookup f2 = some ⟨oc2, od2, .func (PySem.W.fnOf "is_symbol" "is_symbol" (defArgs s_is_symbol) (defBody s_is_symbol) (defScope s_is_symbol) .none kV2 dc2 pm2 an2 cd2 ct2), sl2⟩) (c2 : PySem.W.codeIn K cd2 "is_symbol" = true) (k2 : PySem.W.keepIn K (.ref f2) = true)
    (a3 : PySem.W.nsIn K mainGlobals "arity_of" = some (some (.ref f3))) (l3 : K.lookup f3 = some ⟨oc3, od3, .func (PySem.W.fnOf "arity_of" "arity_of" (defArgs s_arity_of) (defBody s_arity_of) (defScope s_arity_of) .none kV3 dc3 pm3 an3 cd3 ct3), sl3⟩) (c3 : PySem.W.codeIn K cd3 "arity_of" = true) (k3 : PySem.W.keepIn K (.ref f3) = true)
    (a4 : PySem.W.nsIn K mainGlobals "end_of" = some (some (.ref f4))) (l4 : K.lookup f4 = some ⟨oc4, od4, .func (PySem.W.fnOf "end_of" "end_of" (defArgs s_end_of) (defBody s_end_of) (defScope s_end_of) .none kV4 dc4 pm4 an4 cd4 ct4), sl4⟩) (c4 : PySem.W.codeIn K cd4 "end_of" = true) (k4 : PySem.W.keepIn K (.ref f4) = true)
    (a5 : PySem.W.nsIn K mainGlobals "parts" = some (some (.ref f5))) (l5 : K.lookup f5 = some ⟨oc5, od5, .func (PySem.W.fnOf "parts" "parts" (defArgs s_parts) (defBody s_parts) (defScope s_parts) .none kV5 dc5 pm5 an5 cd5 ct5), sl5⟩) (c5 : PySem.W.codeIn K cd5 "parts" = true) (k5 : PySem.W.keepIn K (.ref f5) = true)
    (a6 : PySem.W.nsIn K mainGlobals "key" = some (some (.ref f6))) (l6 : K.lookup f6 = some ⟨oc6, od6, .func (PySem.W.fnOf "key" "key" (defArgs s_key) (defBody s_key) (defScope s_key) .none kV6 dc6 pm6 an6 cd6 ct6), sl6⟩) (c6 : PySem.W.codeIn K cd6 "key" = true) (k6 : PySem.W.keepIn K (.ref f6) = true)
    (a7 : PySem.W.nsIn K mainGlobals "conflict" = some (some (.ref f7))) (l7 : K.lookup f7 = some ⟨oc7, od7, .func (PySem.W.fnOf "conflict" "conflict" (defArgs s_conflict) (defBody s_conflict) (defScope s_conflict) .none kV7 dc7 pm7 an7 cd7 ct7), sl7⟩) (c7 : PySem.W.codeIn K cd7 "conflict" = true) (k7 : PySem.W.keepIn K (.ref f7) = true)
    (a8 : PySem.W.nsIn K mainGlobals "head_keys" = some (some (.ref f8))) (l8 : K.lookup f8 = some ⟨oc8, od8, .func (PySem.W.fnOf "head_keys" "head_keys" (defArgs s_head_keys) (defBody s_head_keys) (defScope s_head_keys) .none kV8 dc8 pm8 an8 cd8 ct8), sl8⟩) (c8 : PySem.W.codeIn K cd8 "head_keys" = true) (k8 : PySem.W.keepIn K (.ref f8) = true)
    (a9 : PySem.W.nsIn K mainGlobals "is_candidate" = some (some (.ref f9))) (l9 : K.lookup f9 = some ⟨oc9, od9, .func (PySem.W.fnOf "is_candidate" "is_candidate" (defArgs s_is_candidate) (defBody s_is_candidate) (defScope s_is_candidate) .none kV9 dc9 pm9 an9 cd9 ct9), sl9⟩) (c9 : PySem.W.codeIn K cd9 "is_candidate" = true) (k9 : PySem.W.keepIn K (.ref f9) = true)
    (a10 : PySem.W.nsIn K mainGlobals "candidates" = some (some (.ref f10))) (l10 : K.lookup f10 = some ⟨oc10, od10, .func (PySem.W.fnOf "candidates" "candidates" (defArgs s_candidates) (defBody s_candidates) (defScope s_candidates) .none kV10 dc10 pm10 an10 cd10 ct10), sl10⟩) (c10 : PySem.W.codeIn K cd10 "candidates" = true) (k10 : PySem.W.keepIn K (.ref f10) = true)
    (a11 : PySem.W.nsIn K mainGlobals "_law_stream" = some (some (.ref f11))) (l11 : K.lookup f11 = some ⟨oc11, od11, .func (PySem.W.fnOf "_law_stream" "_law_stream" (defArgs s__law_stream) (defBody s__law_stream) (defScope s__law_stream) .none kV11 dc11 pm11 an11 cd11 ct11), sl11⟩) (c11 : PySem.W.codeIn K cd11 "_law_stream" = true) (k11 : PySem.W.keepIn K (.ref f11) = true)
    (a12 : PySem.W.nsIn K mainGlobals "_law_draw" = some (some (.ref f12))) (l12 : K.lookup f12 = some ⟨oc12, od12, .func (PySem.W.fnOf "_law_draw" "_law_draw" (defArgs s__law_draw) (defBody s__law_draw) (defScope s__law_draw) .none kV12 dc12 pm12 an12 cd12 ct12), sl12⟩) (c12 : PySem.W.codeIn K cd12 "_law_draw" = true) (k12 : PySem.W.keepIn K (.ref f12) = true)
    (a13 : PySem.W.nsIn K mainGlobals "_law_end" = some (some (.ref f13))) (l13 : K.lookup f13 = some ⟨oc13, od13, .func (PySem.W.fnOf "_law_end" "_law_end" (defArgs s__law_end) (defBody s__law_end) (defScope s__law_end) .none kV13 dc13 pm13 an13 cd13 ct13), sl13⟩) (c13 : PySem.W.codeIn K cd13 "_law_end" = true) (k13 : PySem.W.keepIn K (.ref f13) = true)
    (a14 : PySem.W.nsIn K mainGlobals "_law_leaf" = some (some (.ref f14))) (l14 : K.lookup f14 = some ⟨oc14, od14, .func (PySem.W.fnOf "_law_leaf" "_law_leaf" (defArgs s__law_leaf) (defBody s__law_leaf) (defScope s__law_leaf) .none kV14 dc14 pm14 an14 cd14 ct14), sl14⟩) (c14 : PySem.W.codeIn K cd14 "_law_leaf" = true) (k14 : PySem.W.keepIn K (.ref f14) = true)
    (a15 : PySem.W.nsIn K mainGlobals "_law_term" = some (some (.ref f15))) (l15 : K.lookup f15 = some ⟨oc15, od15, .func (PySem.W.fnOf "_law_term" "_law_term" (defArgs s__law_term) (defBody s__law_term) (defScope s__law_term) .none kV15 dc15 pm15 an15 cd15 ct15), sl15⟩) (c15 : PySem.W.codeIn K cd15 "_law_term" = true) (k15 : PySem.W.keepIn K (.ref f15) = true)
    (a16 : PySem.W.nsIn K mainGlobals "_law_nest" = some (some (.ref f16))) (l16 : K.lookup f16 = some ⟨oc16, od16, .func (PySem.W.fnOf "_law_nest" "_law_nest" (defArgs s__law_nest) (defBody s__law_nest) (defScope s__law_nest) .none kV16 dc16 pm16 an16 cd16 ct16), sl16⟩) (c16 : PySem.W.codeIn K cd16 "_law_nest" = true) (k16 : PySem.W.keepIn K (.ref f16) = true)
    (a17 : PySem.W.nsIn K mainGlobals "_law_walk" = some (some (.ref f17))) (l17 : K.lookup f17 = some ⟨oc17, od17, .func (PySem.W.fnOf "_law_walk" "_law_walk" (defArgs s__law_walk) (defBody s__law_walk) (defScope s__law_walk) .none kV17 dc17 pm17 an17 cd17 ct17), sl17⟩) (c17 : PySem.W.codeIn K cd17 "_law_walk" = true) (k17 : PySem.W.keepIn K (.ref f17) = true)
    (a18 : PySem.W.nsIn K mainGlobals "_law_occurs" = some (some (.ref f18))) (l18 : K.lookup f18 = some ⟨oc18, od18, .func (PySem.W.fnOf "_law_occurs" "_law_occurs" (defArgs s__law_occurs) (defBody s__law_occurs) (defScope s__law_occurs) .none kV18 dc18 pm18 an18 cd18 ct18), sl18⟩) (c18 : PySem.W.codeIn K cd18 "_law_occurs" = true) (k18 : PySem.W.keepIn K (.ref f18) = true)
    (a19 : PySem.W.nsIn K mainGlobals "_law_unify" = some (some (.ref f19))) (l19 : K.lookup f19 = some ⟨oc19, od19, .func (PySem.W.fnOf "_law_unify" "_law_unify" (defArgs s__law_unify) (defBody s__law_unify) (defScope s__law_unify) .none kV19 dc19 pm19 an19 cd19 ct19), sl19⟩) (c19 : PySem.W.codeIn K cd19 "_law_unify" = true) (k19 : PySem.W.keepIn K (.ref f19) = true)
    (a20 : PySem.W.nsIn K mainGlobals "_law_clauses" = some (some (.ref f20))) (l20 : K.lookup f20 = some ⟨oc20, od20, .func (PySem.W.fnOf "_law_clauses" "_law_clauses" (defArgs s__law_clauses) (defBody s__law_clauses) (defScope s__law_clauses) .none kV20 dc20 pm20 an20 cd20 ct20), sl20⟩) (c20 : PySem.W.codeIn K cd20 "_law_clauses" = true) (k20 : PySem.W.keepIn K (.ref f20) = true)
    (a21 : PySem.W.nsIn K mainGlobals "_law_apart" = some (some (.ref f21))) (l21 : K.lookup f21 = some ⟨oc21, od21, .func (PySem.W.fnOf "_law_apart" "_law_apart" (defArgs s__law_apart) (defBody s__law_apart) (defScope s__law_apart) .none kV21 dc21 pm21 an21 cd21 ct21), sl21⟩) (c21 : PySem.W.codeIn K cd21 "_law_apart" = true) (k21 : PySem.W.keepIn K (.ref f21) = true)
    (a22 : PySem.W.nsIn K mainGlobals "law" = some (some (.ref f22))) (l22 : K.lookup f22 = some ⟨oc22, od22, .func (PySem.W.fnOf "law" "law" (defArgs s_law) (defBody s_law) (defScope s_law) .none kV22 dc22 pm22 an22 cd22 ct22), sl22⟩) (c22 : PySem.W.codeIn K cd22 "law" = true) (k22 : PySem.W.keepIn K (.ref f22) = true)
    (z0 : PySem.W.nsIn K mainGlobals "abs" = some none)
    (z1 : PySem.W.nsIn K mainGlobals "all" = some none)
    (z2 : PySem.W.nsIn K mainGlobals "any" = some none)
    (z3 : PySem.W.nsIn K mainGlobals "enumerate" = some none)
    (z4 : PySem.W.nsIn K mainGlobals "int" = some none)
    (z5 : PySem.W.nsIn K mainGlobals "isinstance" = some none)
    (z6 : PySem.W.nsIn K mainGlobals "len" = some none)
    (z7 : PySem.W.nsIn K mainGlobals "list" = some none)
    (z8 : PySem.W.nsIn K mainGlobals "min" = some none)
    (z9 : PySem.W.nsIn K mainGlobals "range" = some none)
    (z10 : PySem.W.nsIn K mainGlobals "tuple" = some none)
    : ∃ fd : FuncData, (∀ (s : Shared) (v : Value), BindsTo s fd ⟨[v], []⟩ [("script", v)]) ∧ ∀ base : Heap, K.In base → base.Ns mainGlobals mg → FnOk l.prog w K mg base CX0 206 fa fd ["script"] (sp_law K) := by
  have e := hfa.symm.trans (PySem.W.mg_of X G a22)
  cases e
  have F1 := fun_mk (st := s_is_variable) l1 c1 k1
  have b1 := F1.binds (ps := ["node"]) fun _ _ _ _ _ _ us hl => match us, hl with | [_], _ => rfl
  have F2 := fun_mk (st := s_is_symbol) l2 c2 k2
  have b2 := F2.binds (ps := ["node"]) fun _ _ _ _ _ _ us hl => match us, hl with | [_], _ => rfl
  have F3 := fun_mk (st := s_arity_of) l3 c3 k3
  have b3 := F3.binds (ps := ["node"]) fun _ _ _ _ _ _ us hl => match us, hl with | [_], _ => rfl
  have F4 := fun_mk (st := s_end_of) l4 c4 k4
  have b4 := F4.binds (ps := ["nodes", "start"]) fun _ _ _ _ _ _ us hl => match us, hl with | [_, _], _ => rfl
  have F5 := fun_mk (st := s_parts) l5 c5 k5
  have b5 := F5.binds (ps := ["term"]) fun _ _ _ _ _ _ us hl => match us, hl with | [_], _ => rfl
  have F6 := fun_mk (st := s_key) l6 c6 k6
  have b6 := F6.binds (ps := ["term"]) fun _ _ _ _ _ _ us hl => match us, hl with | [_], _ => rfl
  have F7 := fun_mk (st := s_conflict) l7 c7 k7
  have b7 := F7.binds (ps := ["one", "other"]) fun _ _ _ _ _ _ us hl => match us, hl with | [_, _], _ => rfl
  have F8 := fun_mk (st := s_head_keys) l8 c8 k8
  have b8 := F8.binds (ps := ["head"]) fun _ _ _ _ _ _ us hl => match us, hl with | [_], _ => rfl
  have F9 := fun_mk (st := s_is_candidate) l9 c9 k9
  have b9 := F9.binds (ps := ["keys", "wanted"]) fun _ _ _ _ _ _ us hl => match us, hl with | [_, _], _ => rfl
  have F10 := fun_mk (st := s_candidates) l10 c10 k10
  have b10 := F10.binds (ps := ["clauses", "arguments", "plan"]) fun _ _ _ _ _ _ us hl => match us, hl with | [_, _, _], _ => rfl
  have F11 := fun_mk (st := s__law_stream) l11 c11 k11
  have b11 := F11.binds (ps := ["script"]) fun _ _ _ _ _ _ us hl => match us, hl with | [_], _ => rfl
  have F12 := fun_mk (st := s__law_draw) l12 c12 k12
  have b12 := F12.binds (ps := ["stream", "many"]) fun _ _ _ _ _ _ us hl => match us, hl with | [_, _], _ => rfl
  have F13 := fun_mk (st := s__law_end) l13 c13 k13
  have b13 := F13.binds (ps := ["term", "at"]) fun _ _ _ _ _ _ us hl => match us, hl with | [_, _], _ => rfl
  have F14 := fun_mk (st := s__law_leaf) l14 c14 k14
  have b14 := F14.binds (ps := ["stream", "widest"]) fun _ _ _ _ _ _ us hl => match us, hl with | [_, _], _ => rfl
  have F15 := fun_mk (st := s__law_term) l15 c15 k15
  have b15 := F15.binds (ps := ["stream", "size", "widest"]) fun _ _ _ _ _ _ us hl => match us, hl with | [_, _, _], _ => rfl
  have F16 := fun_mk (st := s__law_nest) l16 c16 k16
  have b16 := F16.binds (ps := ["term", "at"]) fun _ _ _ _ _ _ us hl => match us, hl with | [_, _], _ => rfl
  have F17 := fun_mk (st := s__law_walk) l17 c17 k17
  have b17 := F17.binds (ps := ["table", "value"]) fun _ _ _ _ _ _ us hl => match us, hl with | [_, _], _ => rfl
  have F18 := fun_mk (st := s__law_occurs) l18 c18 k18
  have b18 := F18.binds (ps := ["table", "number", "value"]) fun _ _ _ _ _ _ us hl => match us, hl with | [_, _, _], _ => rfl
  have F19 := fun_mk (st := s__law_unify) l19 c19 k19
  have b19 := F19.binds (ps := ["table", "left", "right"]) fun _ _ _ _ _ _ us hl => match us, hl with | [_, _, _], _ => rfl
  have F20 := fun_mk (st := s__law_clauses) l20 c20 k20
  have b20 := F20.binds (ps := ["stream", "arity", "many"]) fun _ _ _ _ _ _ us hl => match us, hl with | [_, _, _], _ => rfl
  have F21 := fun_mk (st := s__law_apart) l21 c21 k21
  have b21 := F21.binds (ps := ["node"]) fun _ _ _ _ _ _ us hl => match us, hl with | [_], _ => rfl
  have F22 := fun_mk (st := s_law) l22 c22 k22
  have E : Bi K mg := ⟨PySem.W.mg_none_of X G z0, PySem.W.mg_none_of X G z1, PySem.W.mg_none_of X G z2, PySem.W.mg_none_of X G z3, PySem.W.mg_none_of X G z4, PySem.W.mg_none_of X G z5, PySem.W.mg_none_of X G z6, PySem.W.mg_none_of X G z7, PySem.W.mg_none_of X G z8, PySem.W.mg_none_of X G z9, PySem.W.mg_none_of X G z10⟩
  refine ⟨PySem.W.fnOf "law" "law" (defArgs s_law) (defBody s_law) (defScope s_law) .none kV22 dc22 pm22 an22 cd22 ct22, fun s v => .of_eq rfl, fun base _ _ => ?_⟩
  have D1 : Has l.prog w K mg base 1 "is_variable" ["node"] (sp_is_variable K) := ⟨_, _, ok_is_variable F1 E , PySem.W.mg_of X G a1, k1, b1⟩
  have D2 : Has l.prog w K mg base 1 "is_symbol" ["node"] (sp_is_symbol K) := ⟨_, _, ok_is_symbol F2 E , PySem.W.mg_of X G a2, k2, b2⟩
  have D7 : Has l.prog w K mg base 1 "conflict" ["one", "other"] (sp_conflict K) := ⟨_, _, ok_conflict F7 E , PySem.W.mg_of X G a7, k7, b7⟩
  have D11 : Has l.prog w K mg base 1 "_law_stream" ["script"] (sp__law_stream K) := ⟨_, _, ok__law_stream F11 E , PySem.W.mg_of X G a11, k11, b11⟩
  have D12 : Has l.prog w K mg base 1 "_law_draw" ["stream", "many"] (sp__law_draw K) := ⟨_, _, ok__law_draw F12 E , PySem.W.mg_of X G a12, k12, b12⟩
  have D13 : Has l.prog w K mg base 1 "_law_end" ["term", "at"] (sp__law_end K) := ⟨_, _, ok__law_end F13 E , PySem.W.mg_of X G a13, k13, b13⟩
  have D17 : Has l.prog w K mg base 1 "_law_walk" ["table", "value"] (sp__law_walk K) := ⟨_, _, ok__law_walk F17 E , PySem.W.mg_of X G a17, k17, b17⟩
  have D21 : Has l.prog w K mg base 1 "_law_apart" ["node"] (sp__law_apart K) := ⟨_, _, ok__law_apart F21 E , PySem.W.mg_of X G a21, k21, b21⟩
  have D3 : Has l.prog w K mg base 2 "arity_of" ["node"] (sp_arity_of K) := ⟨_, _, ok_arity_of F3 E D2, PySem.W.mg_of X G a3, k3, b3⟩
  have D6 : Has l.prog w K mg base 2 "key" ["term"] (sp_key K) := ⟨_, _, ok_key F6 E D1, PySem.W.mg_of X G a6, k6, b6⟩
  have D9 : Has l.prog w K mg base 2 "is_candidate" ["keys", "wanted"] (sp_is_candidate K) := ⟨_, _, ok_is_candidate F9 E D7, PySem.W.mg_of X G a9, k9, b9⟩
  have D14 : Has l.prog w K mg base 2 "_law_leaf" ["stream", "widest"] (sp__law_leaf K) := ⟨_, _, ok__law_leaf F14 E D12, PySem.W.mg_of X G a14, k14, b14⟩
  have D4 : Has l.prog w K mg base 3 "end_of" ["nodes", "start"] (sp_end_of K) := ⟨_, _, ok_end_of F4 E D3, PySem.W.mg_of X G a4, k4, b4⟩
  have D15 : Has l.prog w K mg base 3 "_law_term" ["stream", "size", "widest"] (sp__law_term K) := ⟨_, _, ok__law_term F15 E D12 D14, PySem.W.mg_of X G a15, k15, b15⟩
  have D5 : Has l.prog w K mg base 4 "parts" ["term"] (sp_parts K) := ⟨_, _, ok_parts F5 E D4, PySem.W.mg_of X G a5, k5, b5⟩
  have D20 : Has l.prog w K mg base 4 "_law_clauses" ["stream", "arity", "many"] (sp__law_clauses K) := ⟨_, _, ok__law_clauses F20 E D15 D12, PySem.W.mg_of X G a20, k20, b20⟩
  have D8 : Has l.prog w K mg base 5 "head_keys" ["head"] (sp_head_keys K) := ⟨_, _, ok_head_keys F8 E D5 D6, PySem.W.mg_of X G a8, k8, b8⟩
  have D10 : Has l.prog w K mg base 6 "candidates" ["clauses", "arguments", "plan"] (sp_candidates K) := ⟨_, _, ok_candidates F10 E D6 D9 D8, PySem.W.mg_of X G a10, k10, b10⟩
  have D16 : Has l.prog w K mg base 7 "_law_nest" ["term", "at"] (sp__law_nest K) := ⟨_, _, ok__law_nest F16 E D13 (PySem.W.mg_of X G a16) b16, PySem.W.mg_of X G a16, k16, b16⟩
  have D18 : Has l.prog w K mg base 102 "_law_occurs" ["table", "number", "value"] (sp__law_occurs K) := ⟨_, _, ok__law_occurs F18 E D17 (PySem.W.mg_of X G a18) b18, PySem.W.mg_of X G a18, k18, b18⟩
  have D19 : Has l.prog w K mg base 205 "_law_unify" ["table", "left", "right"] (sp__law_unify K) := ⟨_, _, ok__law_unify F19 E D17 D18 (PySem.W.mg_of X G a19) b19, PySem.W.mg_of X G a19, k19, b19⟩
  exact ok_law F22 E D11 D12 D20 D15 D21 D10 D19 D16
end My
open PySem PySem.W PyProof.Rows
set_option maxRecDepth 100000 in
set_option maxHeartbeats 0 in
theorem PySem.Challenge.cw_hornbook_k82_candidates_lose_nothing_holds : PySem.Challenge.rw_hornbook_k82_candidates_lose_nothing.Holds := by
  w_on; o_law; k_head; (case hw => w_witness2)
  k_fill
  refine L2.walk_of (l := PySem.Challenge.rw_hornbook_k82_candidates_lose_nothing) (n := 63) (k := 206) (x := "script") (CX := fun _ => L2.CX0) (sp := fun w => My.sp_law _) rfl (by decide) rfl ⟨rfl, by decide, by decide⟩ (fun w h Y => PySem.W.kIn_of Y) ?F (fun _ _ a ns hl _ hS => ⟨a, ns, rfl, hS, hl, fun _ => rfl⟩) (fun _ _ _ _ _ h => h)
  case F =>
    intro w mg fa h KX G hmg
    refine' My.all_mk KX G hmg ?a1 ?l1 ?c1 ?k1 ?a2 ?l2 ?c2 ?k2 ?a3 ?l3 ?c3 ?k3 ?a4 ?l4 ?c4 ?k4 ?a5 ?l5 ?c5 ?k5 ?a6 ?l6 ?c6 ?k6 ?a7 ?l7 ?c7 ?k7 ?a8 ?l8 ?c8 ?k8 ?a9 ?l9 ?c9 ?k9 ?a10 ?l10 ?c10 ?k10 ?a11 ?l11 ?c11 ?k11 ?a12 ?l12 ?c12 ?k12 ?a13 ?l13 ?c13 ?k13 ?a14 ?l14 ?c14 ?k14 ?a15 ?l15 ?c15 ?k15 ?a16 ?l16 ?c16 ?k16 ?a17 ?l17 ?c17 ?k17 ?a18 ?l18 ?c18 ?k18 ?a19 ?l19 ?c19 ?k19 ?a20 ?l20 ?c20 ?k20 ?a21 ?l21 ?c21 ?k21 ?a22 ?l22 ?c22 ?k22 ?z0 ?z1 ?z2 ?z3 ?z4 ?z5 ?z6 ?z7 ?z8 ?z9 ?z10
    (case a1 => k_is)
    (case l1 => k_is)
    (case c1 => k_is)
    (case k1 => k_is)
    (case a2 => k_is)
    (case l2 => k_is)
    (case c2 => k_is)
    (case k2 => k_is)
    (case a3 => k_is)
    (case l3 => k_is)
    (case c3 => k_is)
    (case k3 => k_is)
    (case a4 => k_is)
    (case l4 => k_is)
    (case c4 => k_is)
    (case k4 => k_is)
    (case a5 => k_is)
    (case l5 => k_is)
    (case c5 => k_is)
    (case k5 => k_is)
    (case a6 => k_is)
    (case l6 => k_is)
    (case c6 => k_is)
    (case k6 => k_is)
    (case a7 => k_is)
    (case l7 => k_is)
    (case c7 => k_is)
    (case k7 => k_is)
    (case a8 => k_is)
    (case l8 => k_is)
    (case c8 => k_is)
    (case k8 => k_is)
    (case a9 => k_is)
    (case l9 => k_is)
    (case c9 => k_is)
    (case k9 => k_is)
    (case a10 => k_is)
    (case l10 => k_is)
    (case c10 => k_is)
    (case k10 => k_is)
    (case a11 => k_is)
    (case l11 => k_is)
    (case c11 => k_is)
    (case k11 => k_is)
    (case a12 => k_is)
    (case l12 => k_is)
    (case c12 => k_is)
    (case k12 => k_is)
    (case a13 => k_is)
    (case l13 => k_is)
    (case c13 => k_is)
    (case k13 => k_is)
    (case a14 => k_is)
    (case l14 => k_is)
    (case c14 => k_is)
    (case k14 => k_is)
    (case a15 => k_is)
    (case l15 => k_is)
    (case c15 => k_is)
    (case k15 => k_is)
    (case a16 => k_is)
    (case l16 => k_is)
    (case c16 => k_is)
    (case k16 => k_is)
    (case a17 => k_is)
    (case l17 => k_is)
    (case c17 => k_is)
    (case k17 => k_is)
    (case a18 => k_is)
    (case l18 => k_is)
    (case c18 => k_is)
    (case k18 => k_is)
    (case a19 => k_is)
    (case l19 => k_is)
    (case c19 => k_is)
    (case k19 => k_is)
    (case a20 => k_is)
    (case l20 => k_is)
    (case c20 => k_is)
    (case k20 => k_is)
    (case a21 => k_is)
    (case l21 => k_is)
    (case c21 => k_is)
    (case k21 => k_is)
    (case a22 => k_is)
    (case l22 => k_is)
    (case c22 => k_is)
    (case k22 => k_is)
    (case z0 => k_is)
    (case z1 => k_is)
    (case z2 => k_is)
    (case z3 => k_is)
    (case z4 => k_is)
    (case z5 => k_is)
    (case z6 => k_is)
    (case z7 => k_is)
    (case z8 => k_is)
    (case z9 => k_is)
    (case z10 => k_is)
