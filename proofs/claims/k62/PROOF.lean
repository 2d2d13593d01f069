import PyProof.Rows.All
import Wide.All
import OpenK.AllK
import Wide.FinOn
import HandS.ForMost
import HandS.IsInst
import HandS.Wide
import HandS.Codes
import HandS.Style
import HandS.TupLe
import HandS.TupAny
import HandS.EndBits
import HandS.Walk
import HandS.Zip
import KE.LtData
import HandS.SetKeys
import HandS.WordsDict
import HandS.DictComp
import HandS.More
import HandS.SortInts
import PySem.Challenge.RW_hornbook_k62_successors
set_option Elab.async false
set_option linter.all false
set_option maxRecDepth 100000
set_option maxHeartbeats 4000000
set_option exponentiation.threshold 10000
namespace My
open PySem PySem.Spec PyProof.Rows L2
/-- a def of the text that keeps a promise, as its callers want it -/
def Has (P : Program) (w : World) (K : PySem.W.Frag) (mg : Str → Option Value) (base : Heap) (k : Nat) (x : Str) (ps : List Str) (sp : Sp) : Prop :=
  ∃ (f : Addr) (fd : FuncData), FnOk P w K mg base CX0 k f fd ps sp ∧ mg x = some (.ref f) ∧ PySem.W.keepIn K (.ref f) = true ∧ Binds K fd ps []
theorem same_upd {H : Hp} {p : Addr} {o : HO} (h : H p = none) : Same H (upd H p o) := fun b x e => by
  rw [upd_ne (ne_of_none e h)]
  exact e
/-- all but the object at s is as it was -/
def But (s : Addr) (H H' : Hp) : Prop := ∀ b o, b ≠ s → H b = some o → H' b = some o
theorem But.refl (s : Addr) (H : Hp) : But s H H := fun _ _ _ e => e
theorem But.trans {s : Addr} {H H1 H2 : Hp} (a : But s H H1) (b : But s H1 H2) : But s H H2 := fun c o hc e => b c o hc (a c o hc e)
theorem But.of {s : Addr} {H H' : Hp} (a : Same H H') : But s H H' := fun b o _ e => a b o e
theorem But.put {s : Addr} {H : Hp} {o : HO} : But s H (upd H s o) := fun b u hb e => by rw [upd_ne hb]; exact e
/-! ### what a value is -/
mutual
inductive Im (K : PySem.W.Frag) (G : Addr → Prop) (H : Hp) : V → PyData → Prop
  | non : Im K G H .non .none
  | bl (b : Bool) : Im K G H (.bl b) (.bool b)
  | int (i : Int) : Im K G H (.int i) (.int i)
  | str (x : Str) : Im K G H (.str x) (.str x)
  | lst {a : Addr} {xs : List V} {ds : List PyData} : G a → H a = some (.lst xs) → ImAll K G H xs ds → Im K G H (.ref a) (.list ds)
  | tup {a : Addr} {xs : List V} {ds : List PyData} : G a → H a = some (.tup xs) → ImAll K G H xs ds → Im K G H (.ref a) (.tuple ds)
inductive ImAll (K : PySem.W.Frag) (G : Addr → Prop) (H : Hp) : List V → List PyData → Prop
  | nil : ImAll K G H [] []
  | cons {v : V} {vs : List V} {d : PyData} {ds : List PyData} : Im K G H v d → ImAll K G H vs ds → ImAll K G H (v :: vs) (d :: ds)
end
section
variable {K : PySem.W.Frag} {G G' : Addr → Prop} {H H' : Hp}
mutual
theorem Im.mono (hH : ∀ b o, G b → H b = some o → H' b = some o) (hG : ∀ b, G b → G' b) : ∀ (d : PyData) (v : V), Im K G H v d → Im K G' H' v d
  | .none, _, h => by cases h; exact .non
  | .bool b, _, h => by cases h; exact .bl b
  | .int i, _, h => by cases h; exact .int i
  | .str x, _, h => by cases h; exact .str x
  | .list ds, _, h => by
    cases h with
    | lst g e ha => exact .lst (hG _ g) (hH _ _ g e) (Im.monoAll hH hG ds _ ha)
  | .tuple ds, _, h => by
    cases h with
    | tup g e ha => exact .tup (hG _ g) (hH _ _ g e) (Im.monoAll hH hG ds _ ha)
  | .dict _, _, h => by cases h
theorem Im.monoAll (hH : ∀ b o, G b → H b = some o → H' b = some o) (hG : ∀ b, G b → G' b) : ∀ (ds : List PyData) (vs : List V), ImAll K G H vs ds → ImAll K G' H' vs ds
  | [], _, h => by cases h; exact .nil
  | d :: ds, _, h => by
    cases h with
    | cons h1 h2 => exact .cons (Im.mono hH hG d _ h1) (Im.monoAll hH hG ds _ h2)
end
mutual
theorem Im.dp : ∀ (d : PyData) (v : V), Im K G H v d → Dp K H v d
  | .none, _, h => by cases h; exact .non
  | .bool b, _, h => by cases h; exact .bl b
  | .int i, _, h => by cases h; exact .int i
  | .str x, _, h => by cases h; exact .str x
  | .list ds, _, h => by
    cases h with
    | lst g e ha => exact .lst (SqL.of e) (Im.dpAll ds _ ha)
  | .tuple ds, _, h => by
    cases h with
    | tup g e ha => exact .tup (SqT.of e) (Im.dpAll ds _ ha)
  | .dict _, _, h => by cases h
theorem Im.dpAll : ∀ (ds : List PyData) (vs : List V), ImAll K G H vs ds → DpAll K H vs ds
  | [], _, h => by cases h; exact .nil
  | d :: ds, _, h => by
    cases h with
    | cons h1 h2 => exact .cons (Im.dp d _ h1) (Im.dpAll ds _ h2)
end
theorem ImAll.len : ∀ {vs : List V} {ds : List PyData}, ImAll K G H vs ds → vs.length = ds.length
  | _, _, .nil => rfl
  | _, _, .cons _ t => congrArg (· + 1) (ImAll.len t)
theorem ImAll.get : ∀ {vs : List V} {ds : List PyData} {i : Nat} {d : PyData}, ImAll K G H vs ds → ds[i]? = some d → ∃ v, vs[i]? = some v ∧ Im K G H v d
  | _, _, _, _, .nil, e => by simp at e
  | _, _, 0, _, .cons r _, e => by simp at e; subst e; exact ⟨_, rfl, r⟩
  | _, _, i + 1, _, .cons _ t, e => by
    obtain ⟨u, h1, h2⟩ := ImAll.get (i := i) t (by simpa using e)
    exact ⟨u, by simpa using h1, h2⟩
theorem ImAll.getV : ∀ {vs : List V} {ds : List PyData} {i : Nat} {v : V}, ImAll K G H vs ds → vs[i]? = some v → ∃ d, ds[i]? = some d ∧ Im K G H v d
  | _, _, _, _, .nil, e => by simp at e
  | _, _, 0, _, .cons r _, e => by simp at e; subst e; exact ⟨_, rfl, r⟩
  | _, _, i + 1, _, .cons _ t, e => by
    obtain ⟨u, h1, h2⟩ := ImAll.getV (i := i) t (by simpa using e)
    exact ⟨u, by simpa using h1, h2⟩
theorem ImAll.snoc : ∀ {vs : List V} {ds : List PyData} {v : V} {d : PyData}, ImAll K G H vs ds → Im K G H v d → ImAll K G H (vs ++ [v]) (ds ++ [d])
  | _, _, _, _, .nil, r => .cons r .nil
  | _, _, _, _, .cons q t, r => .cons q (ImAll.snoc t r)
theorem ImAll.app : ∀ {vs : List V} {ds : List PyData} {us : List V} {es : List PyData}, ImAll K G H vs ds → ImAll K G H us es → ImAll K G H (vs ++ us) (ds ++ es)
  | _, _, _, _, .nil, r => r
  | _, _, _, _, .cons q t, r => .cons q (ImAll.app t r)
end
section
variable {K : PySem.W.Frag} {H : Hp}
theorem DpAll.len : ∀ {vs : List V} {ds : List PyData}, DpAll K H vs ds → vs.length = ds.length
  | _, _, .nil => rfl
  | _, _, .cons _ t => congrArg (· + 1) (DpAll.len t)
theorem DpAll.get : ∀ {vs : List V} {ds : List PyData} {i : Nat} {d : PyData}, DpAll K H vs ds → ds[i]? = some d → ∃ v, vs[i]? = some v ∧ Dp K H v d
  | _, _, _, _, .nil, e => by simp at e
  | _, _, 0, _, .cons r _, e => by simp at e; subst e; exact ⟨_, rfl, r⟩
  | _, _, i + 1, _, .cons _ t, e => by
    obtain ⟨u, h1, h2⟩ := DpAll.get (i := i) t (by simpa using e)
    exact ⟨u, by simpa using h1, h2⟩
/-- the name of a value's class -/
def tyN : PyData → String
  | .none => "NoneType" | .bool _ => "bool" | .int _ => "int" | .str _ => "str" | .list _ => "list" | .tuple _ => "tuple" | .dict _ => "dict"
theorem tyx_of : ∀ {x : V} {d : PyData}, Dp K H x d → TyX K H x (.type (tyN d))
  | _, _, .non => .base .non
  | _, _, .bl b => .base (.bl b)
  | _, _, .int i => .base (.int i)
  | _, _, .str x => .base (.str x)
  | _, _, .lst h _ => by
    rcases h with (h | ⟨o, h⟩) | ⟨o, its, n, hk, hc, _⟩
    · exact .base (.lst h)
    · exact .base (.frz h)
    · exact .kList hk hc
  | _, _, .tup h _ => by
    rcases h with (h | ⟨o, h⟩) | ⟨o, its, n, hk, hc, _⟩
    · exact .base (.tup h)
    · exact .fTuple h
    · exact .kTuple hk hc
def isI : PyData → Bool
  | .int _ => true | .bool _ => true | _ => false
def isB : PyData → Bool
  | .bool _ => true | _ => false
def isS : PyData → Bool
  | .str _ => true | _ => false
def isT : PyData → Bool
  | .tuple _ => true | _ => false
def isL : PyData → Bool
  | .list _ => true | _ => false
theorem kitI (d : PyData) : kitB (tyN d) "int" = some (isI d) := by cases d <;> (show kitB _ "int" = _; simp only [tyN, isI]; decide +kernel)
theorem kitBo (d : PyData) : kitB (tyN d) "bool" = some (isB d) := by cases d <;> (show kitB _ "bool" = _; simp only [tyN, isB]; decide +kernel)
theorem kitS (d : PyData) : kitB (tyN d) "str" = some (isS d) := by cases d <;> (show kitB _ "str" = _; simp only [tyN, isS]; decide +kernel)
theorem kitT (d : PyData) : kitB (tyN d) "tuple" = some (isT d) := by cases d <;> (show kitB _ "tuple" = _; simp only [tyN, isT]; decide +kernel)
theorem kitL (d : PyData) : kitB (tyN d) "list" = some (isL d) := by cases d <;> (show kitB _ "list" = _; simp only [tyN, isL]; decide +kernel)
theorem isi_int {x : V} {d : PyData} {Q : VK} (h : Dp K H x d) (q : Q (.bl (isI d)) H) : rIsi K [x, .ty "int"] H Q := ⟨x, .ty "int", _, _, _, rfl, .ty _, tyx_of h, kit_ty (kitI d), q⟩
theorem isi_bool {x : V} {d : PyData} {Q : VK} (h : Dp K H x d) (q : Q (.bl (isB d)) H) : rIsi K [x, .ty "bool"] H Q := ⟨x, .ty "bool", _, _, _, rfl, .ty _, tyx_of h, kit_ty (kitBo d), q⟩
theorem isi_str {x : V} {d : PyData} {Q : VK} (h : Dp K H x d) (q : Q (.bl (isS d)) H) : rIsi K [x, .ty "str"] H Q := ⟨x, .ty "str", _, _, _, rfl, .ty _, tyx_of h, kit_ty (kitS d), q⟩
theorem isi_tup {x : V} {d : PyData} {Q : VK} (h : Dp K H x d) (q : Q (.bl (isT d)) H) : rIsi K [x, .ty "tuple"] H Q := ⟨x, .ty "tuple", _, _, _, rfl, .ty _, tyx_of h, kit_ty (kitT d), q⟩
theorem isi_list {x : V} {d : PyData} {Q : VK} (h : Dp K H x d) (q : Q (.bl (isL d)) H) : rIsi K [x, .ty "list"] H Q := ⟨x, .ty "list", _, _, _, rfl, .ty _, tyx_of h, kit_ty (kitL d), q⟩
end
/-! ### the stream of draws -/
structure Stm (H : Hp) (s l : Addr) : Prop where
  ex : ∃ (a b m : Int) (ns : List Int), H s = some (.lst [.ref l, .int a, .int b, .int m]) ∧ H l = some (.lst (ns.map V.int)) ∧ ns.length ≤ 63 ∧ 0 ≤ a ∧ 0 ≤ b ∧ 0 ≤ m ∧ m < 2147483647
theorem Stm.keep {H H' : Hp} {s l : Addr} (h : Stm H s l) (e : Same H H') : Stm H' s l := by
  obtain ⟨a, b, m, ns, h1, h2, r⟩ := h.ex
  exact ⟨a, b, m, ns, e _ _ h1, e _ _ h2, r⟩
/-- another object is changed -/
theorem Stm.put {H : Hp} {s l r : Addr} {o : HO} (h : Stm H s l) (h1 : s ≠ r) (h2 : l ≠ r) : Stm (upd H r o) s l := by
  obtain ⟨a, b, m, ns, e1, e2, q⟩ := h.ex
  exact ⟨a, b, m, ns, by rw [upd_ne h1]; exact e1, by rw [upd_ne h2]; exact e2, q⟩
theorem Stm.at_s {H : Hp} {s l : Addr} (h : Stm H s l) : ∃ o, H s = some o := by
  obtain ⟨a, b, m, ns, e1, e2, q⟩ := h.ex
  exact ⟨_, e1⟩
theorem Stm.at_l {H : Hp} {s l : Addr} (h : Stm H s l) : ∃ o, H l = some o := by
  obtain ⟨a, b, m, ns, e1, e2, q⟩ := h.ex
  exact ⟨_, e2⟩
/-- a constant of the module -/
def GV (mg : Str → Option Value) (x : Str) (v : V) : Prop := ∃ u, mg x = some u ∧ RelV v u
theorem pe_gC {X : Cx} {x : Str} {v : V} {pos : Pos} (hg : Gl X x) (h : GV X.mg x v) (hd : (x == ("__debug__" : Str)) = false := by decide) : PE X (.Name x pos) (tC v) := by
  obtain ⟨u, e, r⟩ := h
  exact pe_glob hg e r hd

/-! ### 'a' * 40 -/
section
variable {X : Cx}
theorem op_mulS : OpR X (binaryOp .Mult) (fun x y H Q => ∃ z i, x = .str z ∧ y = .int i ∧ MulOk z i ∧ Q (.str (Txt.mul z i)) H) := by
  intro pins s σ H x y v u Q I rx ry h
  obtain ⟨z, i, rfl, rfl, hk, q⟩ := h
  obtain ⟨t, rfl⟩ := rx
  obtain ⟨t', rfl⟩ := ry
  exact SB.mul hk fun t2 k => ⟨.str _, H, I.tok k, ⟨_, rfl⟩, q⟩
end
/-! ### data written out: each part of it is new -/
section
variable {K : PySem.W.Frag}
/-- an expression that makes data and changes nothing else -/
def Lit (K : PySem.W.Frag) (σ : L2.St) (t : TE) (d : PyData) : Prop := ∀ (H : Hp) (Q : VK), (∀ v H', Same H H' → Im K (fun b => H b = Option.none) H' v d → Q v H') → t σ H Q
def LitA (K : PySem.W.Frag) (σ : L2.St) (t : TA) (ds : List PyData) : Prop := ∀ (H : Hp) (Q : List V → Hp → Prop), (∀ vs H', Same H H' → ImAll K (fun b => H b = Option.none) H' vs ds → Q vs H') → t σ H Q
variable {σ : L2.St}
theorem lit_int {i : Int} : Lit K σ (tC (.int i)) (.int i) := fun H Q h => h _ H (Same.refl H) (.int i)
theorem lit_str {x : Str} : Lit K σ (tC (.str x)) (.str x) := fun H Q h => h _ H (Same.refl H) (.str x)
theorem lit_bl {b : Bool} : Lit K σ (tC (.bl b)) (.bool b) := fun H Q h => h _ H (Same.refl H) (.bl b)
theorem lit_non : Lit K σ (tC .non) .none := fun H Q h => h _ H (Same.refl H) .non
theorem litA_nil : LitA K σ tNil [] := fun H Q h => h _ H (Same.refl H) .nil
theorem litA_cons {t : TE} {ta : TA} {d : PyData} {ds : List PyData} (h1 : Lit K σ t d) (h2 : LitA K σ ta ds) : LitA K σ (tCons t ta) (d :: ds) := fun H Q h =>
  h1 H _ fun v H1 s1 i1 => h2 H1 _ fun vs H2 s2 i2 => h _ H2 (s1.trans s2) (.cons (Im.mono (fun b o _ e => s2 b o e) (fun _ e => e) _ _ i1) (Im.monoAll (fun _ _ _ e => e) (fun b e => s1.free e) _ _ i2))
theorem lit_tup {ta : TA} {ds : List PyData} (h1 : LitA K σ ta ds) (hz : ds.length ≤ sizeLine) : Lit K σ (tTup ta) (.tuple ds) := fun H Q h =>
  h1 H _ fun vs H1 s1 i1 => ⟨by rw [i1.len]; exact hz, fun p np => h _ _ (s1.trans (same_upd np)) (.tup (s1.free np) upd_same (Im.monoAll (fun b o _ e => same_upd np b o e) (fun _ e => e) _ _ i1))⟩
theorem lit_lst {ta : TA} {ds : List PyData} (h1 : LitA K σ ta ds) (hz : ds.length ≤ sizeLine) : Lit K σ (tLst ta) (.list ds) := fun H Q h =>
  h1 H _ fun vs H1 s1 i1 => ⟨by rw [i1.len]; exact hz, fun p np => h _ _ (s1.trans (same_upd np)) (.lst (s1.free np) upd_same (Im.monoAll (fun b o _ e => same_upd np b o e) (fun _ e => e) _ _ i1))⟩
/-- what is an int -/
theorem lit_neg {t : TE} {i : Int} (h1 : Lit K σ t (.int i)) : Lit K σ (tUn (rU fun i => .int (-i)) t) (.int (-i)) := fun H Q h =>
  h1 H _ fun v H1 s1 i1 => by
    cases i1
    exact ⟨_, rfl, h _ H1 s1 (.int _)⟩
theorem lit_sub {t u : TE} {i j : Int} (h1 : Lit K σ t (.int i)) (h2 : Lit K σ u (.int j)) : Lit K σ (tOp (rI0 fun i j => .int (i - j)) t u) (.int (i - j)) := fun H Q h =>
  h1 H _ fun v H1 s1 i1 => h2 H1 _ fun v2 H2 s2 i2 => by
    cases i1
    cases i2
    exact ⟨_, _, rfl, rfl, h _ H2 (s1.trans s2) (.int _)⟩
theorem lit_pow {t u : TE} {i j : Int} (h1 : Lit K σ t (.int i)) (h2 : Lit K σ u (.int j)) (hc : CPow i j) : Lit K σ (tOp (rI CPow fun i j => .int (i ^ j.toNat)) t u) (.int (i ^ j.toNat)) := fun H Q h =>
  h1 H _ fun v H1 s1 i1 => h2 H1 _ fun v2 H2 s2 i2 => by
    cases i1
    cases i2
    exact ⟨_, _, rfl, rfl, hc, h _ H2 (s1.trans s2) (.int _)⟩
theorem lit_mulS {t u : TE} {z : Str} {j : Int} (h1 : Lit K σ t (.str z)) (h2 : Lit K σ u (.int j)) (hc : MulOk z j) : Lit K σ (tOp (fun x y H Q => ∃ z i, x = .str z ∧ y = .int i ∧ MulOk z i ∧ Q (.str (Txt.mul z i)) H) t u) (.str (Txt.mul z j)) := fun H Q h =>
  h1 H _ fun v H1 s1 i1 => h2 H1 _ fun v2 H2 s2 i2 => by
    cases i1
    cases i2
    exact ⟨_, _, rfl, rfl, hc, h _ H2 (s1.trans s2) (.str _)⟩
end
section
variable {X : Cx} {pos : Pos}
/-- a built-in class as a value -/
theorem pe_ty {x : Str} (n : String) (hg : Gl X x) (hm : X.mg x = Option.none) (hv : bootBuiltins x = some (.type n)) (hn : x ≠ "__name__" := by decide) (hd : (x == ("__debug__" : Str)) = false := by decide) : PE X (.Name x pos) (tC (.ty n)) :=
  pe_bltn hg hm hv rfl hn hd
end
section
variable {K : PySem.W.Frag} {H H' : Hp}
theorem same_sqT {a : Addr} {xs : List V} (e : Same H H') (h : SqT K H a xs) : SqT K H' a xs := by
  rcases h with (h | ⟨o, h⟩) | h
  · exact .inl (.inl (e _ _ h))
  · exact .inl (.inr ⟨o, e _ _ h⟩)
  · exact .inr h
mutual
theorem dp_same (e : Same H H') : ∀ (d : PyData) (v : V), Dp K H v d → Dp K H' v d
  | .none, _, h => by cases h; exact .non
  | .bool b, _, h => by cases h; exact .bl b
  | .int i, _, h => by cases h; exact .int i
  | .str x, _, h => by cases h; exact .str x
  | .list ds, _, h => by
    cases h with
    | lst g ha => exact .lst (e.seq g) (dp_sameAll e ds _ ha)
  | .tuple ds, _, h => by
    cases h with
    | tup g ha => exact .tup (same_sqT e g) (dp_sameAll e ds _ ha)
  | .dict _, _, h => by cases h
theorem dp_sameAll (e : Same H H') : ∀ (ds : List PyData) (vs : List V), DpAll K H vs ds → DpAll K H' vs ds
  | [], _, h => by cases h; exact .nil
  | d :: ds, _, h => by
    cases h with
    | cons h1 h2 => exact .cons (dp_same e d _ h1) (dp_sameAll e ds _ h2)
end
end
theorem small_of {n : Nat} (h : n ≤ 1000) : n ≤ sizeLine := Nat.le_of_lt (small1000 h)
theorem seq_asg {te : TE} {g : TG} {u : TS} {D : Ends} {σ : L2.St} {H : Hp} (h : te σ H fun x H1 => g x σ H1 (u D)) : tSeq (tAsg te g) u D σ H := h
theorem gname {i : Nat} {v : V} {σ : L2.St} {H : Hp} {Q : L2.St → Hp → Prop} (h : Q (σ.set i (some v)) H) : gName i v σ H Q := h
theorem nxp {N : L2.St → Hp → Prop} {R : VK} {B C : L2.St → Hp → Prop} {σ : L2.St} {H : Hp} (h : N σ H) : ({ nx := N, rt := R, bk := B, ct := C } : Ends).nx σ H := h
theorem seq_if {c : TT} {t t2 : TS} {u : TS} {D : Ends} {σ : L2.St} {H : Hp} (h : c σ H fun b H1 => if b = true then t { D with nx := u D } σ H1 else t2 { D with nx := u D } σ H1) : tSeq (tIfS c t t2) u D σ H := h
theorem seq_ifN {c : TT} {t : TS} {u : TS} {D : Ends} {σ : L2.St} {H : Hp} (h : c σ H fun b H1 => if b = true then t { D with nx := u D } σ H1 else u D σ H1) : tSeq (tIfS c t tNext) u D σ H := h
theorem seq_any {t : TS} {u : TS} {D : Ends} {σ : L2.St} {H : Hp} (h : t { D with nx := u D } σ H) : tSeq t u D σ H := h
theorem asg1 {te : TE} {g : TG} {D : Ends} {σ : L2.St} {H : Hp} (h : te σ H fun x H1 => g x σ H1 D.nx) : tAsg te g D σ H := h
section
variable {K : PySem.W.Frag} {G G' : Addr → Prop} {H H' : Hp}
mutual
theorem Im.mono2 (hH : ∀ b o, G b → H b = some o → H' b = some o) (hG : ∀ b o, H b = some o → G b → G' b) : ∀ (d : PyData) (v : V), Im K G H v d → Im K G' H' v d
  | .none, _, h => by cases h; exact .non
  | .bool b, _, h => by cases h; exact .bl b
  | .int i, _, h => by cases h; exact .int i
  | .str x, _, h => by cases h; exact .str x
  | .list ds, _, h => by
    cases h with
    | lst g e ha => exact .lst (hG _ _ e g) (hH _ _ g e) (Im.mono2All hH hG ds _ ha)
  | .tuple ds, _, h => by
    cases h with
    | tup g e ha => exact .tup (hG _ _ e g) (hH _ _ g e) (Im.mono2All hH hG ds _ ha)
  | .dict _, _, h => by cases h
theorem Im.mono2All (hH : ∀ b o, G b → H b = some o → H' b = some o) (hG : ∀ b o, H b = some o → G b → G' b) : ∀ (ds : List PyData) (vs : List V), ImAll K G H vs ds → ImAll K G' H' vs ds
  | [], _, h => by cases h; exact .nil
  | d :: ds, _, h => by
    cases h with
    | cons h1 h2 => exact .cons (Im.mono2 hH hG d _ h1) (Im.mono2All hH hG ds _ h2)
end
end
theorem join_set {c : Prop} [Decidable c] {v : V} {i : Nat} {u : TS} {D : Ends} {σ : L2.St} {H : Hp} (P : L2.St → Prop) (h : ∀ σ2, P σ2 → u D σ2 H) (h1 : c → P (σ.set i (some v))) (h2 : ¬ c → P σ) :
    if c then tAsg (tC v) (gName i) { D with nx := u D } σ H else u D σ H := by
  by_cases hc : c
  · rw [if_pos hc]
    exact h _ (h1 hc)
  · rw [if_neg hc]
    exact h _ (h2 hc)
/-- a constant tuple of the module, by its data -/
def GC (K : PySem.W.Frag) (mg : Str → Option Value) (x : Str) (d : PyData) : Prop := ∃ (u : Value) (v : V), mg x = some u ∧ RelV v u ∧ Dp K (fun _ => Option.none) v d
theorem none_same (H : Hp) : Same (fun _ => Option.none) H := fun _ _ e => nomatch e
theorem kt_of {K : PySem.W.Frag} {a : Addr} {its : Array Value} {n : Nat} {dd : Option Addr} {sl : Array (Option Value)} {xs : List V} {ds : List PyData} (h : K.lookup a = some ⟨.type "tuple", dd, .seq its n, sl⟩) (hz : its.size ≤ 1000) (hv : Vals xs its.toList) (ha : DpAll K (fun _ => Option.none) xs ds) :
    Dp K (fun _ => Option.none) (.ref a) (.tuple ds) := .tup (.inr ⟨_, its, n, h, rfl, rfl, Nat.le_trans hz (by decide), hv⟩) ha
/-! ### list.extend(tuple) -/
section
open Builtin
theorem extT (l b : Addr) (xs ys : Array Value) (n k : Nat) (dd : Option Addr) (sl : Array (Option Value)) (hlong : ¬(!xs.isEmpty && Builtin.List.listTooLong (xs.size + ys.size)) = true) (h1 : xs.size ≤ sizeLine) (h2 : xs.size + ys.size ≤ sizeLine + 1) :
    Meets (Builtin.«list.extend» ⟨[.ref l, .ref b], []⟩) (fun _ R s => s.heap.get? l = some { cls := .type "list", dict := none, data := .seq xs n, slots := #[] } ∧ s.heap.get? b = some { cls := .type "tuple", dict := dd, data := .seq ys k, slots := sl } ∧ R (.ok (.ret Value.none)) { s with heap := s.heap.update l (Obj.mapSeq fun x => x ++ ys), toks := s.toks }) := by
  refine .of_wp fun prog w A R s h => ?_
  obtain ⟨hp, g, d, tk, os⟩ := s
  obtain ⟨ea, eb, q⟩ := h
  have i1 := AutoSeq1.idx_int
  have i2 := AutoSeq1.sub_tuple_tuple
  have i3 := AutoSeq1.sub_list_list
  have i4 := AutoSeq1.sub_tuple_list
  have i5 := AutoSeq1.sub_list_tuple
  have hz : (xs ++ ys).size ≤ sizeLine + 1 := by rw [Array.size_append]; exact h2
  wp_walk using (wpAny_updateSeq ea rfl (hz := h1) (_hz' := hz)), AutoSeq1.wpAny_loadPart' ea, AutoSeq1.wpAny_loadPart' eb
  exact ⟨_, rfl, q⟩
end
section
variable {X : Cx}
def rExtT (K : PySem.W.Frag) : V → List V → Hp → VK → Prop := fun x vs H Q => ∃ l b xs zs, x = .ref l ∧ vs = [.ref b] ∧ H l = some (.lst xs) ∧ SqT K H b zs ∧ xs.length + zs.length ≤ sizeLine ∧ Q .non (upd H l (.lst (xs ++ zs)))
theorem mt_extT : MtR X "list.extend" (rExtT X.K) := by
  intro pins s σ H x vs v us Q I rx rv h
  obtain ⟨l, b, xs, zs, rfl, rfl, hH, hB, hz, q⟩ := h
  cases rx
  obtain ⟨u, rfl, ru⟩ := rv.one
  cases ru
  obtain ⟨z, its, n, r, hl, e⟩ := I.lstM hH
  obtain ⟨its2, r2, ⟨⟨oc, od, dt, sl⟩, e2, ec, k2, ed⟩, _⟩ := I.tuple hB
  simp only at ec ed
  subst ec ed
  have z1 := r.length
  have z2 := r2.length
  have hsz : its.toArray.size + its2.toArray.size ≤ sizeLine := by rw [List.size_toArray, List.size_toArray]; omega
  have nl : ¬ (!its.toArray.isEmpty && Builtin.List.listTooLong (its.toArray.size + its2.toArray.size)) = true := by
    rw [notLongL hsz, Bool.and_false]
    exact Bool.false_ne_true
  refine call_meets F.slot_list_extend ⟨_, e, rfl⟩ F.entry_list_extend (F.args_list_extend_2 _ _) (extT l b its.toArray its2.toArray n k2 od sl nl (by rw [List.size_toArray]; omega) (by omega)) ⟨e, e2, ?_⟩
  refine ⟨.non, _, I.lset (its' := its ++ its2) hH e (by simp) (r.append r2) ?_, rfl, q⟩
  rw [List.length_append]
  omega
/-! ### x in (a, b, ..), data of any depth -/
def rInT (K : PySem.W.Frag) : R2 := fun x y H Q => ∃ d ds, Dp K H x d ∧ Dp K H y (.tuple ds) ∧ SeqAt.shaped d = true ∧ SeqAt.shaped (.tuple ds) = true ∧ Q (.bl (ds.any fun z => PyData.eqv z d)) H
def rNotInT (K : PySem.W.Frag) : R2 := fun x y H Q => ∃ d ds, Dp K H x d ∧ Dp K H y (.tuple ds) ∧ SeqAt.shaped d = true ∧ SeqAt.shaped (.tuple ds) = true ∧ Q (.bl (!ds.any fun z => PyData.eqv z d)) H
theorem op_inT (hu : X.A.units + 65 < cLine) : OpR X (compareOp .In) (rInT X.K) := by
  intro pins s σ H x y v u Q I rx ry h
  obtain ⟨d, ds, hd, he, sd, se, q⟩ := h
  obtain ⟨as, r1⟩ := Dp.reads I d x v hd rx
  obtain ⟨bs, r2⟩ := Dp.reads I (.tuple ds) y u he ry
  exact SeqAt.in_tuple_reads r2 r1 (SeqAt.canLay_of_shaped se) (SeqAt.canLay_of_shaped sd) (room_in_shaped sd hu) ⟨.bl _, H, I, rfl, q⟩
theorem op_notInT (hu : X.A.units + 65 < cLine) : OpR X (compareOp .NotIn) (rNotInT X.K) := by
  intro pins s σ H x y v u Q I rx ry h
  obtain ⟨d, ds, hd, he, sd, se, q⟩ := h
  obtain ⟨as, r1⟩ := Dp.reads I d x v hd rx
  obtain ⟨bs, r2⟩ := Dp.reads I (.tuple ds) y u he ry
  exact SeqAt.notIn_tuple_reads r2 r1 (SeqAt.canLay_of_shaped se) (SeqAt.canLay_of_shaped sd) (room_in_shaped sd hu) ⟨.bl _, H, I, rfl, q⟩
theorem units65 {k : Nat} {A : Around} (r : Room k A) : A.units + 65 < cLine := by
  have := r.un
  omega
end
section
variable {K : PySem.W.Frag} {H : Hp}
theorem DpAll.dropt : ∀ {xs : List V} {ds : List PyData} (n : Nat), DpAll K H xs ds → DpAll K H (xs.drop n) (ds.drop n)
  | _, _, 0, r => r
  | _, _, _ + 1, .nil => .nil
  | _, _, n + 1, .cons _ t => DpAll.dropt n t
theorem DpAll.taket : ∀ {xs : List V} {ds : List PyData} (n : Nat), DpAll K H xs ds → DpAll K H (xs.take n) (ds.take n)
  | _, _, 0, _ => .nil
  | _, _, _ + 1, .nil => .nil
  | _, _, n + 1, .cons r t => .cons r (DpAll.taket n t)
theorem DpAll.app : ∀ {xs ys : List V} {ds es : List PyData}, DpAll K H xs ds → DpAll K H ys es → DpAll K H (xs ++ ys) (ds ++ es)
  | _, _, _, _, .nil, r => r
  | _, _, _, _, .cons q t, r => .cons q (DpAll.app t r)
theorem DpAll.getV : ∀ {vs : List V} {ds : List PyData} {i : Nat} {v : V}, DpAll K H vs ds → vs[i]? = some v → ∃ d, ds[i]? = some d ∧ Dp K H v d
  | _, _, _, _, .nil, e => by simp at e
  | _, _, 0, _, .cons r _, e => by simp at e; subst e; exact ⟨_, rfl, r⟩
  | _, _, i + 1, _, .cons _ t, e => by
    obtain ⟨u, h1, h2⟩ := DpAll.getV (i := i) t (by simpa using e)
    exact ⟨u, by simpa using h1, h2⟩
end
/-- a part of a tuple, also the whole -/
theorem cut_nat (xs : List V) (i j : Nat) (h1 : i ≤ xs.length) (h2 : j ≤ xs.length) : cutV xs (some (i : Int)) (some (j : Int)) = (xs.drop i).take (j - i) := by
  unfold cutV
  rw [HT.sIx_nat, HT.sIx_nat, Nat.min_eq_left h1, Nat.min_eq_left h2]
theorem slA_nat {K : PySem.W.Frag} {H : Hp} {a : Addr} {xs : List V} {i j : Nat} {Q : VK} (hs : SqT K H a xs) (h1 : i ≤ xs.length) (h2 : j ≤ xs.length) (h : ∀ b H', Same H H' → SqT K H' b ((xs.drop i).take (j - i)) → (∀ c, H c = Option.none → c ≠ b → H' c = Option.none) → Q (.ref b) H') :
    rSlA K (.ref a) (some (i : Int)) (some (j : Int)) H Q := by
  refine ⟨a, xs, rfl, hs, fun z => ?_, fun z p np => ?_⟩
  · rw [HT.sIx_nat, HT.sIx_nat, Nat.min_eq_left h1, Nat.min_eq_left h2] at z
    refine h a H (Same.refl H) ?_ fun _ e _ => e
    rw [z.1, z.2, List.drop_zero, Nat.sub_zero, List.take_length]
    exact hs
  · rw [cut_nat xs i j h1 h2]
    exact h p _ (same_upd np) (SqT.of upd_same) fun c e hc => by rw [upd_ne hc]; exact e
theorem cat_dp {K : PySem.W.Frag} {H : Hp} {x y : V} {ds es : List PyData} {Q : VK} (hx : Dp K H x (.tuple ds)) (hy : Dp K H y (.tuple es)) (hne : ds ≠ []) (hz : ds.length + es.length ≤ 1000) (h : ∀ v H', Same H H' → Dp K H' v (.tuple (ds ++ es)) → Q v H') : rCatT K x y H Q := by
  cases hx with
  | @tup a xs _ sx ax =>
  cases hy with
  | @tup b ys _ sy ay =>
  have lx := DpAll.len ax
  have ly := DpAll.len ay
  refine ⟨a, b, xs, ys, rfl, rfl, sx, sy, fun z => ?_, small_of (by omega), fun z => ?_, fun z p np => ?_⟩
  · rw [z] at lx
    exact hne (List.eq_nil_of_length_eq_zero lx.symm)
  · subst z
    cases ay
    rw [List.append_nil] at h
    exact h _ H (Same.refl H) (.tup sx ax)
  · exact h _ _ (same_upd np) (.tup (SqT.of upd_same) (dp_sameAll (same_upd np) _ _ (DpAll.app ax ay)))
theorem cut_from1 (v : V) (xs : List V) : cutV (v :: xs) (some 1) Option.none = xs := by
  unfold cutV
  rw [show (some (1 : Int)) = some ((1 : Nat) : Int) from rfl, HT.sIx_nat, HT.sIx_none, List.length_cons, Nat.min_eq_left (by omega), List.drop_succ_cons, List.drop_zero, Nat.add_sub_cancel]
  exact List.take_length
section
variable {σ : L2.St} {H : Hp}
theorem args1 {t : TE} {ta : TA} {Q : List V → Hp → Prop} (h : t σ H fun x H1 => ta σ H1 fun xs H2 => Q (x :: xs) H2) : tCons t ta σ H Q := h
theorem tup_of {ta : TA} {Q : VK} (h : ta σ H fun xs H1 => xs.length ≤ sizeLine ∧ ∀ p, H1 p = Option.none → Q (.ref p) (upd H1 p (.tup xs))) : tTup ta σ H Q := h
theorem const_of {v : V} {Q : VK} (h : Q v H) : tC v σ H Q := h
theorem op_of {r : R2} {ta tb : TE} {Q : VK} (h : ta σ H fun x H1 => tb σ H1 fun y H2 => r x y H2 Q) : tOp r ta tb σ H Q := h
theorem nil_of {Q : List V → Hp → Prop} (h : Q [] H) : tNil σ H Q := h
end
section
variable {σ : L2.St} {H : Hp}
theorem call_of {sp : Sp} {dvs : List V} {E : XK} {t : TA} {Q : VK} (h : t σ H fun vs H1 => sp (vs ++ dvs) H1 Q E) : tCall sp dvs E t σ H Q := h
theorem args_and {r : R2} {sp : Sp} {dvs : List V} {E : XK} {t : TA} {tb tc : TE} {D : Ends} (h : t σ H fun vs H1 => sp (vs ++ dvs) H1 (fun x H1 => tb σ H1 fun y H2 => r x y H2 fun x H1 => ∃ c, x = .bl c ∧ if c = true then tc σ H1 D.rt else D.rt (.bl false) H1) E) : tRet (tAndV (tOp r (tCall sp dvs E t) tb) tc) D σ H := h
end
theorem relStr (x : Str) (t : Tok) : RelV (.str x) (.str x t) := ⟨_, rfl⟩
theorem relInt (i : Int) (t : Tok) : RelV (.int i) (.int i t) := ⟨_, rfl⟩
theorem relRef (a : Addr) : RelV (.ref a) (.ref a) := rfl
/-! ### a < b of data whose places are alike -/
section
variable {X : Cx}
def rLtD (K : PySem.W.Frag) : R2 := fun x y H Q => ∃ d e, Dp K H x d ∧ Dp K H y e ∧ PySem.W.alike d e = true ∧ d ≠ .none ∧ d.depth ≤ 8 ∧ Q (.bl (PySem.W.dataLt d e)) H
theorem op_ltD (hu : X.A.units + 64 < cLine) : OpR X (compareOp .Lt) (rLtD X.K) := by
  intro pins s σ H x y v u Q I rx ry h
  obtain ⟨d, e, hd, he, ha, hn, hz, q⟩ := h
  obtain ⟨as, r1⟩ := Dp.reads I d x v hd rx
  obtain ⟨bs, r2⟩ := Dp.reads I e y u he ry
  have R := PySem.W.rcLt_alike d e X.A s v u as bs r1 r2 ha hn (Nat.lt_of_le_of_lt (Nat.add_le_add_left (Nat.le_trans (Nat.min_le_left _ _) (Nat.le_trans hz (by decide : 8 ≤ 64))) _) hu)
  have z : wpAny (model X.prog X.w) X.A (compareOp .Lt v u) (EP X pins σ Q) X.xe s := R X.prog X.w X.xe (EP X pins σ Q) ⟨.bl _, H, I, rfl, q⟩
  exact z
end
/-! ### zip of two tuples -/
theorem walk_zipT {K : PySem.W.Frag} {a b : Addr} {xs ys : List V} {n : Nat} (hn : n = min xs.length ys.length) : Walk (RZ.ItzT K a b) n (fun H => SqT K H a xs ∧ SqT K H b ys) (YPair (fun i => xs[i]?) (fun i => ys[i]?)) := by
  subst hn
  refine ⟨fun i H hi q => ?_, fun H q => ⟨xs, ys, q.1, q.2, by omega⟩, fun i H v H' hi q y => ?_⟩
  · have h1 : i < xs.length := by omega
    have h2 : i < ys.length := by omega
    exact ⟨xs, ys, _, _, q.1, q.2, List.getElem?_eq_getElem h1, List.getElem?_eq_getElem h2⟩
  · obtain ⟨T, x, y, e1, e2, e3, e4, e5⟩ := y
    exact ⟨T, x, y, e1, e2, e3, e4 xs q.1, e5 ys q.2⟩
/-! ### () + t -/
section
open Builtin
theorem addE (l b : Addr) (xs ys : Array Value) (n k : Nat) (dd dd2 : Option Addr) (sl sl2 : Array (Option Value)) (he : xs.isEmpty = true) :
    Meets (Builtin.«tuple.__add__» ⟨[.ref l, .ref b], []⟩) (fun _ R s => s.heap.get? l = some { cls := .type "tuple", dict := dd, data := .seq xs n, slots := sl } ∧ s.heap.get? b = some { cls := .type "tuple", dict := dd2, data := .seq ys k, slots := sl2 } ∧ R (.ok (.ret (Value.ref b))) s) := by
  refine .of_wp fun prog w A R s h => ?_
  obtain ⟨hp, g, d, tk, os⟩ := s
  obtain ⟨ea, eb, q⟩ := h
  have i1 := AutoSeq1.idx_int
  have i2 := AutoSeq1.sub_tuple_tuple
  have i3 := AutoSeq1.sub_list_list
  have i4 := AutoSeq1.sub_tuple_list
  have i5 := AutoSeq1.sub_list_tuple
  wp_walk using AutoSeq1.wpAny_loadPart' ea, AutoSeq1.wpAny_loadPart' eb
  exact ⟨_, rfl, q⟩
end
section
variable {X : Cx}
def rCatA (K : PySem.W.Frag) : R2 := fun x y H Q => ∃ a b xs ys, x = .ref a ∧ y = .ref b ∧ SqT K H a xs ∧ SqT K H b ys ∧ xs.length + ys.length ≤ sizeLine ∧ (xs = [] → Q (.ref b) H) ∧ (ys = [] → Q (.ref a) H) ∧ ∀ p, H p = Option.none → Q (.ref p) (upd H p (.tup (xs ++ ys)))
theorem op_catA : OpR X (binaryOp .Add) (rCatA X.K) := by
  intro pins s σ H x y v u Q I rx ry h
  obtain ⟨a, b, xs, ys, rfl, rfl, ha, hb, hz, q1, q2, q3⟩ := h
  by_cases hx : xs = []
  · subst hx
    cases rx
    cases ry
    obtain ⟨its, r1, p1, _⟩ := I.tuple ha
    obtain ⟨its2, r2, p2, _⟩ := I.tuple hb
    cases r1
    obtain ⟨⟨oc, od, dt, sl⟩, e1, c1, n, d1⟩ := p1
    obtain ⟨⟨oc2, od2, dt2, sl2⟩, e2, c2, n2, d2⟩ := p2
    simp only at c1 d1 c2 d2
    subst c1 d1 c2 d2
    exact concat_meets ⟨_, e1, rfl⟩ ⟨_, e2, rfl⟩ noFill_tuple_add seq_tuple_add PySem.F.slot_tuple_add PySem.F.entry_tuple_add (PySem.F.args_tuple_add_2 _ _)
      (addE a b #[] its2.toArray n n2 od od2 sl sl2 rfl) ⟨e1, e2, ⟨.ref b, H, I, rfl, q1 rfl⟩⟩
  · exact op_catT pins s σ H (.ref a) (.ref b) v u Q I rx ry ⟨a, b, xs, ys, rfl, rfl, ha, hb, hx, hz, q2, fun _ p np => q3 p np⟩
end
section
variable {K : PySem.W.Frag} {G : Addr → Prop} {H : Hp}
theorem ImAll.dropt : ∀ {xs : List V} {ds : List PyData} (n : Nat), ImAll K G H xs ds → ImAll K G H (xs.drop n) (ds.drop n)
  | _, _, 0, r => r
  | _, _, _ + 1, .nil => .nil
  | _, _, n + 1, .cons _ t => ImAll.dropt n t
theorem ImAll.taket : ∀ {xs : List V} {ds : List PyData} (n : Nat), ImAll K G H xs ds → ImAll K G H (xs.take n) (ds.take n)
  | _, _, 0, _ => .nil
  | _, _, _ + 1, .nil => .nil
  | _, _, n + 1, .cons r t => .cons r (ImAll.taket n t)
theorem im_new {xs : List V} {ds : List PyData} {p : Addr} (np : H p = Option.none) (ia : ImAll K G H xs ds) : Im K (fun b => G b ∨ H b = Option.none) (upd H p (.tup xs)) (.ref p) (.tuple ds) :=
  .tup (.inr np) upd_same (Im.monoAll (fun b o _ e => same_upd np b o e) (fun _ g => .inl g) _ _ ia)
theorem im_cut {x : V} {ds es : List PyData} {lo hi : Option Int} {Q : VK} (iv : Im K G H x (.tuple ds)) (hc : ∀ xs : List V, ImAll K G H xs ds → ImAll K G H (cutV xs lo hi) es) (h : ∀ v H', Same H H' → (∀ b, G b ∨ H b = Option.none → G b ∨ H b = Option.none) → Im K (fun b => G b ∨ H b = Option.none) H' v (.tuple es) → Q v H') : rSlA K x lo hi H Q := by
  cases iv with
  | @tup a xs _ g e ia =>
  refine ⟨a, xs, rfl, SqT.of e, fun z => ?_, fun z p np => ?_⟩
  · have hw : cutV xs lo hi = xs := by
      unfold cutV
      rw [z.1, z.2, List.drop_zero, Nat.sub_zero, List.take_length]
    have := hc xs ia
    rw [hw] at this
    exact h _ H (Same.refl H) (fun _ q => q) (.tup (.inl g) e (Im.monoAll (fun _ _ _ e => e) (fun _ g => .inl g) _ _ this))
  · exact h _ _ (same_upd np) (fun _ q => q) (im_new np (hc xs ia))
theorem im_take {x : V} {ds : List PyData} {k : Nat} {Q : VK} (iv : Im K G H x (.tuple ds)) (hk : k ≤ ds.length) (h : ∀ v H', Same H H' → Im K (fun b => G b ∨ H b = Option.none) H' v (.tuple (ds.take k)) → Q v H') : rSlA K x Option.none (some (k : Int)) H Q :=
  im_cut iv (fun xs ia => by
    unfold cutV
    rw [HT.sIx_none, HT.sIx_nat, Nat.min_eq_left (by rw [ia.len]; exact hk), List.drop_zero, Nat.sub_zero]
    exact ImAll.taket _ ia) fun v H' s _ i => h v H' s i
theorem im_drop {x : V} {ds : List PyData} {k : Nat} {Q : VK} (iv : Im K G H x (.tuple ds)) (hk : k ≤ ds.length) (h : ∀ v H', Same H H' → Im K (fun b => G b ∨ H b = Option.none) H' v (.tuple (ds.drop k)) → Q v H') : rSlA K x (some (k : Int)) Option.none H Q :=
  im_cut iv (fun xs ia => by
    unfold cutV
    rw [HT.sIx_none, HT.sIx_nat, Nat.min_eq_left (by rw [ia.len]; exact hk), List.take_of_length_le (by rw [List.length_drop]; exact Nat.le_refl _)]
    exact ImAll.dropt _ ia) fun v H' s _ i => h v H' s i
theorem im_cat {x y : V} {ds es : List PyData} {Q : VK} (iv : Im K G H x (.tuple ds)) (iw : Im K G H y (.tuple es)) (hz : ds.length + es.length ≤ 1000) (h : ∀ v H', Same H H' → Im K (fun b => G b ∨ H b = Option.none) H' v (.tuple (ds ++ es)) → Q v H') : rCatA K x y H Q := by
  have w1 := Im.mono (G' := fun b => G b ∨ H b = Option.none) (fun _ _ _ e => e) (fun _ g => .inl g) _ _ iv
  have w2 := Im.mono (G' := fun b => G b ∨ H b = Option.none) (fun _ _ _ e => e) (fun _ g => .inl g) _ _ iw
  cases iv with
  | @tup a xs _ g e ia =>
  cases iw with
  | @tup b ys _ g2 e2 ib =>
  have l1 := ia.len
  have l2 := ib.len
  refine ⟨a, b, xs, ys, rfl, rfl, SqT.of e, SqT.of e2, small_of (by omega), fun z => ?_, fun z => ?_, fun p np => ?_⟩
  · subst z
    cases ia
    exact h _ H (Same.refl H) w2
  · subst z
    cases ib
    rw [List.append_nil] at h
    exact h _ H (Same.refl H) w1
  · exact h _ _ (same_upd np) (im_new np (ImAll.app ia ib))
end
end My

namespace My
open PySem PySem.Spec PyProof.Rows L2
/-! ### the text -/
def topS (i : Nat) : Stmt := PySem.Challenge.pw_hornbook_k62_successors.main.body.getD i (.Pass ⟨0, 0, 0, 0⟩)
abbrev s_successors : Stmt := topS 2
abbrev N_successors : List Str := ["code", "at", "word", "found", "label"]
theorem sc_successors : FnScope N_successors ["code", "at"] (defScope s_successors) := ⟨rfl, rfl, rfl, by decide +kernel, rfl, by decide +kernel, by decide +kernel⟩
abbrev s__law_stream : Stmt := topS 4
abbrev N__law_stream : List Str := ["script", "mixed", "cell"]
theorem sc__law_stream : FnScope N__law_stream ["script"] (defScope s__law_stream) := ⟨rfl, rfl, rfl, by decide +kernel, rfl, by decide +kernel, by decide +kernel⟩
abbrev s__law_draw : Stmt := topS 5
abbrev N__law_draw : List Str := ["stream", "many", "value"]
theorem sc__law_draw : FnScope N__law_draw ["stream", "many"] (defScope s__law_draw) := ⟨rfl, rfl, rfl, by decide +kernel, rfl, by decide +kernel, by decide +kernel⟩
abbrev s__law_instruction : Stmt := topS 6
abbrev N__law_instruction : List Str := ["stream", "size", "pick", "label", "plain"]
theorem sc__law_instruction : FnScope N__law_instruction ["stream", "size"] (defScope s__law_instruction) := ⟨rfl, rfl, rfl, by decide +kernel, rfl, by decide +kernel, by decide +kernel⟩
abbrev s__law_due : Stmt := topS 7
abbrev N__law_due : List Str := ["code", "at", "word"]
theorem sc__law_due : FnScope N__law_due ["code", "at"] (defScope s__law_due) := ⟨rfl, rfl, rfl, by decide +kernel, rfl, by decide +kernel, by decide +kernel⟩
abbrev s_law : Stmt := topS 8
abbrev N_law : List Str := ["script", "stream", "size", "code", "k", "at", "actual"]
theorem sc_law : FnScope N_law ["script"] (defScope s_law) := ⟨rfl, rfl, rfl, by decide +kernel, rfl, by decide +kernel, by decide +kernel⟩
/-- names that the top leaves to the built-ins, and its constants -/
structure Bi (K : PySem.W.Frag) (mg : Str → Option Value) : Prop where
  b_abs : mg "abs" = Option.none
  b_int : mg "int" = Option.none
  b_isinstance : mg "isinstance" = Option.none
  b_len : mg "len" = Option.none
  b_list : mg "list" = Option.none
  b_range : mg "range" = Option.none
  b_sorted : mg "sorted" = Option.none
  b_tuple : mg "tuple" = Option.none
  c_LAST : GC K mg "LAST" (.tuple [.str "execute", .str "proceed", .str "fail"])

/-! ### names, nodes, terms -/
def okSign (c : Nat) : Bool := decide (32 ≤ c) && decide (c ≤ 126) && !decide (c = 37)
def okName (x : Str) : Bool := decide (1 ≤ x.length) && decide (x.length ≤ 40) && x.cps.toList.all okSign
def names20 : List Str := ["a", "b", "f", "g", "hello", "[]", "+", "-", ",", "it's", "X", "a b", "{}", ".", "=", "'", "aB_1", "!", "0", "lvjkuwnd"]
def signs : Str := (Str.ofString " !\"#$&'()*+,-./0123456789:;<=>?@ABCDEFGHIJKLMNOPQRSTUVWXYZ[\\]^_`") ++ (Str.ofString "abcdefghijklmnopqrstuvwxyz{|}~")
theorem names20_ok : names20.all okName = true := by decide +kernel
theorem signs_ok : signs.cps.toList.all okSign = true := by decide +kernel
theorem signs_len : signs.length = 94 := by decide +kernel
theorem join_ones (e : Str) (he : e.cps = #[]) : ∀ cs : List Nat, (Str.join e (cs.map fun c => ⟨#[c]⟩)).cps.toList = cs
  | [] => rfl
  | [c] => rfl
  | c :: d :: r => by
    have ih := join_ones e he (d :: r)
    show ((⟨#[c]⟩ : Str) ++ e ++ Str.join e ((d :: r).map fun c => (⟨#[c]⟩ : Str))).cps.toList = c :: d :: r
    show (#[c] ++ e.cps ++ (Str.join e ((d :: r).map fun c => (⟨#[c]⟩ : Str))).cps).toList = c :: d :: r
    rw [he, Array.toList_append, ih]
    rfl
inductive Nd (wd : Int) : PyData → Prop
  | v (n : Int) : 0 ≤ n → n < wd → Nd wd (.tuple [.str "v", .int n])
  | i (n : Int) : -(10 ^ 40) < n → n < 10 ^ 40 → Nd wd (.int n)
  | f (x : Str) (n : Int) : okName x = true → 0 ≤ n → n ≤ 8 → Nd wd (.tuple [.str "f", .str x, .int n])
def arN : PyData → Nat
  | .tuple [_, _, c] => (match c with | .int n => n.toNat | _ => 0) | _ => 0
/-- from m missing terms on, the nodes are just these terms -/
def Cls : Nat → List PyData → Prop
  | m, [] => m = 0
  | m, d :: r => 0 < m ∧ Cls (m - 1 + arN d) r
structure Term (wd : Int) (ds : List PyData) : Prop where
  cl : Cls 1 ds
  nd : ∀ d ∈ ds, Nd wd d
/-! ### the promises -/
def sp__law_stream (K : PySem.W.Frag) : Sp := fun vs H Q _ => ∃ (a : Addr) (ns : List Int), vs = [.ref a] ∧ SqL K H a (ns.map V.int) ∧ ns.length ≤ 63 ∧ ∀ s l H', H s = Option.none → H l = Option.none → Same H H' → Stm H' s l → Q (.ref s) H'
def sp__law_draw (K : PySem.W.Frag) : Sp := fun vs H Q _ => ∃ (s l : Addr) (n : Int), vs = [.ref s, .int n] ∧ Stm H s l ∧ 0 < n ∧ n.natAbs < 2 ^ 9000 ∧ ∀ r H', 0 ≤ r → r < n → But s H H' → Stm H' s l → Q (.int r) H'
/-! ### walks, ints, picks -/
theorem walk_gen {J : It} {n : Nat} {G : Hp → Prop} {Y : Nat → Hp → V → Hp → Prop} (wk : Walk J n G Y) {B : V → Hp → (Hp → Prop) → Prop} {H0 : Hp} {Qd : Hp → Prop} (Pv : Nat → Hp → Prop) (p0 : Pv 0 H0) (pG : ∀ i H, i ≤ n → Pv i H → G H)
    (turn : ∀ i x H H', i < n → Pv i H → Y i H x H' → B x H' (Pv (i + 1))) (pd : ∀ H, Pv n H → Qd H) :
    ∃ W : Nat → Nat → Hp → Prop, (∃ m, W 0 m H0) ∧ ∀ i m H, W i m H → (J.stop i H ∧ Qd H) ∨ (J.go i H ∧ ∃ Nx : Hp → Prop, (∀ H', Nx H' → ∃ m', m' < m ∧ W (i + 1) m' H') ∧ ∀ x H', J.yld i H x H' → B x H' Nx) := by
  refine ⟨fun i m H => m = n - i ∧ i ≤ n ∧ Pv i H, ⟨n, by simp, Nat.zero_le _, p0⟩, ?_⟩
  rintro i m H ⟨rfl, hi, hp⟩
  have hg := pG i H hi hp
  rcases Nat.lt_or_ge i n with hlt | hge
  · exact .inr ⟨wk.goes i H hlt hg, Pv (i + 1), fun σ' p' => ⟨n - (i + 1), by omega, rfl, hlt, p'⟩, fun x H' y => turn i x H H' hlt hp (wk.yields i H x H' hlt hg y)⟩
  · obtain rfl : i = n := by omega
    exact .inl ⟨wk.stops H hg, pd H hp⟩
theorem ints_lay : ∀ (ns : List Int), PyData.canLayAll0 (ns.map PyData.int) = true ∧ PyData.depthAll (ns.map PyData.int) = 0 ∧ PyData.eqvAll (ns.map PyData.int) (ns.map PyData.int) = true
  | [] => ⟨by simp [PyData.canLayAll0], by simp [PyData.depthAll], by simp [PyData.eqvAll]⟩
  | n :: ns => by
    obtain ⟨a, b, c⟩ := ints_lay ns
    rw [List.map_cons]
    refine ⟨by simp only [PyData.canLayAll0, PyData.canLay0, a, Bool.and_self], ?_, by simp only [PyData.eqvAll, PyData.eqv, c, beq_self_eq_true, Bool.and_self]⟩
    simp only [PyData.depthAll, PyData.depth, b]
    rfl
theorem ints_shaped (ns : List Int) : SeqAt.shaped (.list (ns.map PyData.int)) = true := by
  obtain ⟨a, b, _⟩ := ints_lay ns
  have hd : (PyData.list (ns.map PyData.int)).depth ≤ 64 := by simp only [PyData.depth, b]; decide
  have hc : (PyData.list (ns.map PyData.int)).canLay0 = true := by simp only [PyData.canLay0]; exact a
  show ((PyData.list (ns.map PyData.int)).canLay0 && decide ((PyData.list (ns.map PyData.int)).depth ≤ 64)) = true
  rw [hc, decide_eq_true hd]
  rfl
theorem ints_eqv (ns : List Int) : PyData.eqv (.list (ns.map PyData.int)) (.list (ns.map PyData.int)) = true := by
  simp only [PyData.eqv]
  exact (ints_lay ns).2.2
theorem dp_ints {K : PySem.W.Frag} {H : Hp} : ∀ ns : List Int, DpAll K H (ns.map V.int) (ns.map PyData.int)
  | [] => .nil
  | n :: r => .cons (.int n) (dp_ints r)
theorem lit_pick {K : PySem.W.Frag} {G : Addr → Prop} {H : Hp} {xs : List V} {names : List Str} {r : Int} (a : ImAll K G H xs (names.map PyData.str)) (r0 : 0 ≤ r) (r1 : r < (names.length : Int)) : ∃ x, x ∈ names ∧ atI xs r = some (.str x) := by
  have hr : r.toNat < names.length := by omega
  have hd : (names.map PyData.str)[r.toNat]? = some (.str names[r.toNat]) := by
    rw [List.getElem?_map, List.getElem?_eq_getElem hr]
    rfl
  obtain ⟨v, hv, iv⟩ := ImAll.get a hd
  cases iv
  exact ⟨_, List.getElem_mem hr, at_of (j := r.toNat) (by omega) hv⟩
/-! ### codes -/
def stopsV : List V := [.str "execute", .str "proceed", .str "fail"]
def isStop (w : Str) : Bool := inV (.str w) stopsV
def isLab (w : Str) : Bool := inV (.str w) [.str "try_else", .str "jump"]
def wordN : PyData → Str
  | .tuple (.str w :: _) => w
  | _ => ""
def labN : PyData → Int
  | .tuple [_, .int l] => l
  | _ => 0
inductive InsN (n : Int) : PyData → Prop
  | jump (l : Int) : 0 ≤ l → l < n → InsN n (.tuple [.str "jump", .int l])
  | tr (l : Int) : 0 ≤ l → l < n → InsN n (.tuple [.str "try_else", .int l])
  | stop (w : Str) (r : List PyData) : isStop w = true → isLab w = false → InsN n (.tuple (.str w :: r))
  | go (w : Str) (r : List PyData) : isStop w = false → isLab w = false → w ≠ "jump" → w ≠ "try_else" → InsN n (.tuple (.str w :: r))
def dueN (d : PyData) (a : Int) : List Int :=
  if isStop (wordN d) = true then [] else if wordN d = "jump" then [labN d] else if wordN d = "try_else" then (if labN d < a + 1 then [labN d, a + 1] else if a + 1 < labN d then [a + 1, labN d] else [a + 1]) else [a + 1]
theorem due_jump (l a : Int) : dueN (.tuple [.str "jump", .int l]) a = [l] := by
  show (if isStop "jump" = true then [] else if ("jump" : Str) = "jump" then [l] else (if ("jump" : Str) = "try_else" then (if l < a + 1 then [l, a + 1] else if a + 1 < l then [a + 1, l] else [a + 1]) else [a + 1])) = [l]
  rw [if_neg (by decide +kernel), if_pos rfl]
theorem due_tr (l a : Int) : dueN (.tuple [.str "try_else", .int l]) a = if l < a + 1 then [l, a + 1] else if a + 1 < l then [a + 1, l] else [a + 1] := by
  show (if isStop "try_else" = true then [] else if ("try_else" : Str) = "jump" then [l] else (if ("try_else" : Str) = "try_else" then (if l < a + 1 then [l, a + 1] else if a + 1 < l then [a + 1, l] else [a + 1]) else [a + 1])) = _
  rw [if_neg (by decide +kernel), if_neg (by decide +kernel), if_pos rfl]
theorem due_stop {w : Str} (r : List PyData) (a : Int) (h : isStop w = true) : dueN (.tuple (.str w :: r)) a = [] := by
  unfold dueN
  exact if_pos h
theorem due_go {w : Str} (r : List PyData) (a : Int) (h : isStop w = false) (h1 : w ≠ "jump") (h2 : w ≠ "try_else") : dueN (.tuple (.str w :: r)) a = [a + 1] := by
  show (if isStop w = true then [] else if w = "jump" then _ else (if w = "try_else" then _ else [a + 1])) = _
  rw [if_neg (by rw [h]; exact Bool.false_ne_true), if_neg h1, if_neg h2]
def plainD : List PyData := [.tuple [.str "cut"], .tuple [.str "allocate", .int 3], .tuple [.str "call", .str "p", .int 2, .int 1], .tuple [.str "put_value", .tuple [.str "y", .int 1], .int 0], .tuple [.str "mark", .tuple [.str "y", .int 2]]]
theorem plain_ok (n : Int) : ∀ d ∈ plainD, InsN n d := by
  intro d hd
  simp only [plainD, List.mem_cons, List.not_mem_nil, or_false] at hd
  rcases hd with rfl | rfl | rfl | rfl | rfl <;> exact .go _ _ (by decide +kernel) (by decide +kernel) (by decide +kernel) (by decide +kernel)
theorem perm2 {ns : List Int} {x y : Int} (h : ns.Perm [x, y]) (p : ns.Pairwise (· ≤ ·)) (hxy : x < y) : ns = [x, y] := by
  have hl := h.length_eq
  match ns, hl with
  | [u, v], _ =>
    have hu : u ∈ [x, y] := h.mem_iff.mp (by simp)
    have hv : v ∈ [x, y] := h.mem_iff.mp (by simp)
    have hx : x ∈ [u, v] := h.mem_iff.mpr (by simp)
    have hy : y ∈ [u, v] := h.mem_iff.mpr (by simp)
    have huv : u ≤ v := (List.pairwise_cons.mp p).1 v (by simp)
    simp only [List.mem_cons, List.not_mem_nil, or_false] at hu hv hx hy
    have e1 : u = x := by omega
    have e2 : v = y := by omega
    rw [e1, e2]
/-! ### the promises -/
def sp__law_instruction (K : PySem.W.Frag) : Sp := fun vs H Q _ => ∃ (s l : Addr) (n : Int), vs = [.ref s, .int n] ∧ Stm H s l ∧ 0 < n ∧ n ≤ 40 ∧ ∀ v d H', InsN n d → But s H H' → Stm H' s l → Im K (fun b => H b = Option.none) H' v d → Q v H'
def sp__law_due (K : PySem.W.Frag) : Sp := fun vs H Q _ => ∃ (c : V) (i : Nat) (ds : List PyData) (d : PyData), vs = [c, .int (i : Int)] ∧ Dp K H c (.tuple ds) ∧ ds[i]? = some d ∧ InsN (ds.length : Int) d ∧ ∀ v H', Same H H' → Dp K H' v (.list ((dueN d (i : Int)).map PyData.int)) → Q v H'
def sp_successors (K : PySem.W.Frag) : Sp := fun vs H Q _ => ∃ (c : V) (i : Nat) (ds : List PyData) (d : PyData), vs = [c, .int (i : Int)] ∧ Dp K H c (.tuple ds) ∧ ds[i]? = some d ∧ InsN (ds.length : Int) d ∧ (i + 1 < ds.length ∨ isStop (wordN d) = true) ∧ ∀ v H', Same H H' → Dp K H' v (.list ((dueN d (i : Int)).map PyData.int)) → Q v H'
def sp_law (K : PySem.W.Frag) : Sp := fun vs H Q _ => ∃ (a : Addr) (ns : List Int), vs = [.ref a] ∧ SqL K H a (ns.map V.int) ∧ ns.length ≤ 63 ∧ ∀ H', Q (.bl true) H'

local macro_rules | `(tactic| walk_at "lits") => `(tactic| repeat' (first | exact lit_int | exact lit_str | exact lit_bl | exact lit_non | exact litA_nil | refine litA_cons ?_ ?_ | refine lit_tup ?_ (by decide) | refine lit_lst ?_ (by decide) | refine lit_neg ?_ | refine lit_sub ?_ ?_ | refine lit_pow ?_ ?_ ⟨by decide, by decide, by decide⟩ | refine lit_mulS ?_ ?_ ⟨by decide, by decide, by decide⟩))
section
variable {P : Program} {w : World} {K : PySem.W.Frag} {mg : Str → Option Value} {base : Heap}
theorem ok_successors {f : Addr} {fd : FuncData} (F : Fun K "successors" "successors" s_successors f fd) (E : Bi K mg)  : FnOk P w K mg base CX0 1 f fd ["code", "at"] (sp_successors K) := by
  obtain ⟨u_LAST, v_LAST, e_LAST, r_LAST, d_LAST⟩ := E.c_LAST
  refine F.ok sc_successors (fun vs H Q E h => ?_) (fun cdv A outer s H vs Q E' hr h => ?_)
  · obtain ⟨c, i, ds, d, rfl, _⟩ := h
    rfl
  · obtain ⟨c, i, ds, d, rfl, hc, hd, hi, hb, q⟩ := h
    refine ⟨_, (pss_cons (ps_set (i := 2) sc_successors.nd rfl (Or.inl rfl) (pe_ix ix_tup (pe_ix ix_tup (pv 0) (pv 1) (fun _ _ => rfl)) pe_int (fun _ _ => rfl)))
      (pss_cons (ps_set (i := 3) sc_successors.nd rfl (Or.inl rfl) pe_dnewK)
      (pss_cons (ps_if (pw_and (pt_cmpR (show OpR _ (compareOp .NotIn) (rIn K true) from op_notIn_seq) (pv 2) (pe_glob (by rfl) e_LAST r_LAST) (by rfl)) (pw_and1 (pt_cmpR op_ne (pv 2) pe_str (nomark _)))).pt (pss_one (ps_dput (hu_of hr) (pv 3) (pe_op op_add (pv 1) pe_int) pe_bl (by rfl))) pss_nil)
      (pss_cons (ps_if (pt_cmpR (show OpR _ (compareOp .In) (rIn K false) from op_in_seq) (pv 2) (pe_tup (pa_cons pe_str (pa_cons pe_str pa_nil))) (by rfl)) (pss_one (ps_dput (hu_of hr) (pv 3) (pe_ix ix_tup (pe_ix ix_tup (pv 0) (pv 1) (fun _ _ => rfl)) pe_int (fun _ _ => rfl)) pe_bl (by rfl))) pss_nil)
      (pss_one (ps_ret (pe_lc (own := [("label", 4)]) (g := gName 4) rfl sc_successors.nd (pi_list (pe_callB cr_sortedI (by rfl) E.b_sorted (by decide +kernel) (pa_cons (pe_callTy (call_listD rfl) (by rfl) E.b_list (by decide +kernel) (pa_cons (pv 3) pa_nil)) pa_nil))) (blkOk_by (N := N_successors) (sc := defScope s_successors) (by decide +kernel)) (fun _ _ _ _ _ => pg_name (i := 4) sc_successors.nd rfl (Or.inl rfl)) (fun _ _ _ _ _ => pts_one (pt_cmpR op_lt (pv 4) (pe_callB (show CallR _ (.builtin "len") (fun xs H Q => ∃ p ys, xs = [V.ref p] ∧ (SqL K H p ys ∨ SqT K H p ys) ∧ Q (V.int ys.length) H) from call_len_seq) (by rfl) E.b_len PySem.boot_len (pa_cons (pv 0) pa_nil)) (nomark _))) (fun _ _ _ _ _ => (pv 4))))))))), ?_⟩
    obtain ⟨aL, rfl, hL⟩ : ∃ aL, v_LAST = .ref aL ∧ ∀ H', SqT K H' aL [.str "execute", .str "proceed", .str "fail"] := by
      cases d_LAST with
      | tup hs ha =>
      cases ha with
      | cons e1 ha =>
      cases ha with
      | cons e2 ha =>
      cases ha with
      | cons e3 ha =>
      cases ha
      cases e1
      cases e2
      cases e3
      exact ⟨_, rfl, fun H' => same_sqT (none_same _) hs⟩
    cases id hc with
    | @tup a xs _ hs ha =>
    have hxl := DpAll.len ha
    have hil := (List.getElem?_eq_some_iff.mp hd).1
    obtain ⟨y, hy, dy⟩ := DpAll.get ha hd
    have fin : ∀ (w : Str) (f0 : Addr) (H1 : Hp) (kvs : List (Key × V)) (ns : List Int), Same H H1 → H1 f0 = some (.dK kvs) → kvs.map (fun kv => kV kv.1) = ns.map V.int → ns.length ≤ 2 → (∀ n ∈ ns, n < (ds.length : Int)) → (∀ ns' : List Int, ns'.Perm ns → ns'.Pairwise (· ≤ ·) → ns' = dueN d (i : Int)) →
        tLc (iList K (tCB (rSortedI K) (tCons (tCB (fun xs H Q => ∃ a kvs, xs = [V.ref a] ∧ Rd H a (HO.dK kvs) ∧ ∀ (p : Addr), H p = Option.none → Q (V.ref p) (upd H p (HO.lst (List.map (fun kv => kV kv.fst) kvs)))) (tCons (tVar 3) tNil)) tNil))) (gName 4)
          (tTest (tOp (rI0 fun i j => V.bl (decide (i < j))) (tVar 4) (tCB (fun xs H Q => ∃ p ys, xs = [V.ref p] ∧ (SqL K H p ys ∨ SqT K H p ys) ∧ Q (V.int ys.length) H) (tCons (tVar 0) tNil)))) (tVar 4) [4]
          [some (.ref a), some (.int (i : Int)), some (.str w), some (.ref f0), none] H1 Q := by
      intro w f0 H1 kvs ns s1 hf hk hl2 hlow hdue
      refine ⟨_, rfl, f0, kvs, rfl, .inl hf, fun p np => ?_⟩
      rw [hk]
      refine ⟨p, ns, rfl, SqL.of upd_same, fun ns' p2 hp hw np2 => ⟨p2, rfl, ⟨_, SqL.of upd_same⟩, fun R hR => ?_⟩⟩
      have s2 := (s1.trans (same_upd (o := .lst (ns.map V.int)) np)).trans (same_upd (o := .lst (ns'.map V.int)) np2)
      have e2 : (upd (upd H1 p (.lst (ns.map V.int))) p2 (.lst (ns'.map V.int))) p2 = some (.lst (ns'.map V.int)) := upd_same
      generalize upd (upd H1 p (.lst (ns.map V.int))) p2 (.lst (ns'.map V.int)) = H2 at s2 e2 hR ⊢
      have hpl := hp.length_eq
      refine walk_gen (n := (ns'.map V.int).length) walk_list (fun j H' => Same H2 H' ∧ H' R = some (.lst ((ns'.take j).map V.int))) ⟨same_upd hR, upd_same⟩ (fun j H' _ h => SqL.of (h.1 _ _ e2)) ?_ ?_
      · rintro j z H3 H4 hj ⟨s3, e3⟩ ⟨rfl, hz⟩
        rw [List.getElem?_map] at hz
        obtain ⟨v, hv, rfl⟩ : ∃ v, ns'[j]? = some v ∧ V.int v = z := by
          cases hv : ns'[j]? with
          | none => rw [hv] at hz; cases hz
          | some v => rw [hv] at hz; exact ⟨v, rfl, Option.some.inj hz⟩
        have hvl := hlow v (hp.mem_iff.mp (List.mem_of_getElem? hv))
        have htk : ns'.take (j + 1) = ns'.take j ++ [v] := by rw [List.take_add_one, hv]; rfl
        refine gname ⟨rfl, _, rfl, _, rfl, a, xs, rfl, .inr (same_sqT (s2.trans s3) hs), _, _, rfl, rfl, _, rfl, ?_⟩
        rw [decide_eq_true (show v < (xs.length : Int) by rw [hxl]; exact hvl)]
        refine iteT ⟨_, rfl, _, e3, small1000 (by rw [List.length_map, List.length_take]; omega), fun b o e => by rw [upd_ne (ne_of_none e hR)]; exact s3 _ _ e, ?_⟩
        rw [upd_same, htk, List.map_append]
        rfl
      · rintro H3 ⟨s3, e3⟩
        rw [List.length_map, List.take_length] at e3
        refine q _ _ (s2.trans s3) (.lst (SqL.of e3) ?_)
        rw [← hdue ns' hp hw]
        exact dp_ints _
    have nsl : ∀ {w : Str}, isStop w = false → rIn K true = rIn K true → (!inV (.str w) [.str "execute", .str "proceed", .str "fail"]) = true := fun h _ => by
      rw [show inV (.str _) [.str "execute", .str "proceed", .str "fail"] = false from h]
      rfl
    have nst : ∀ {w : Str}, isStop w = true → (!inV (.str w) [.str "execute", .str "proceed", .str "fail"]) = false := fun h => by
      rw [show inV (.str _) [.str "execute", .str "proceed", .str "fail"] = true from h]
      rfl
    have one : ∀ {n : Int} {ns' : List Int}, ns'.Perm [n] → ns' = [n] := fun h => List.perm_singleton.mp h
    cases hi with
    | jump l l0 l1 =>
      cases dy with
      | @tup b zs _ hz az =>
      cases az with
      | cons e1 az =>
      cases az with
      | cons e2 az =>
      cases az
      cases e1
      cases e2
      refine seq_asg ?_
      refine ⟨_, rfl, _, rfl, _, _, _, _, rfl, rfl, hs, atI_nat hy, _, _, _, _, rfl, rfl, hz, atI_nat (j := 0) rfl, ?_⟩
      refine gname (seq_asg fun p np => gname (seq_ifN ?_))
      have s1 := same_upd (o := .dK []) np
      refine ⟨_, rfl, aL, _, rfl, .inr (hL _), rfl, rfl, _, rfl, ?_⟩
      show (if (!inV (.str "jump") [.str "execute", .str "proceed", .str "fail"]) = true then _ else _)
      rw [nsl (by decide +kernel) rfl]
      refine iteT ?_
      refine ⟨_, rfl, rfl, _, rfl, ?_⟩
      rw [decide_eq_true rfl]
      refine iteF ?_
      refine seq_ifN ?_
      refine ⟨_, rfl, (by show 2 ≤ sizeLine; decide), fun p2 np2 => ⟨p2, _, rfl, .inr (SqT.of upd_same), rfl, rfl, _, rfl, ?_⟩⟩
      have s2 := s1.trans (same_upd (o := .tup [.str "try_else", .str "jump"]) np2)
      have pp : p ≠ p2 := fun z => by rw [← z, upd_same] at np2; cases np2
      rw [show inV (.str "jump") [.str "try_else", .str "jump"] = true by decide +kernel]
      refine iteT ?_
      refine ⟨_, rfl, _, rfl, _, rfl, _, _, _, _, rfl, rfl, same_sqT s2 hs, atI_nat hy, _, _, _, _, rfl, rfl, same_sqT s2 hz, atI_nat (j := 1) rfl, p, _, rfl, DPut.k (k := Sum.inl l) (by rw [upd_ne pp]; exact upd_same) (small1000 (by show 0 ≤ 1000; omega)), ?_⟩
      have s3 : Same H (upd (upd (upd H p (.dK [])) p2 (.tup [.str "try_else", .str "jump"])) p (.dK (putK [] (Sum.inl l) (.bl true)))) := fun b o e => by rw [upd_ne (ne_of_none e np)]; exact s2 _ _ e
      exact fin "jump" p _ _ [l] s3 upd_same rfl (by simp) (fun n hn => by rw [List.mem_singleton.mp hn]; exact l1) fun ns' hp _ => by rw [due_jump]; exact one hp
    | tr l l0 l1 =>
      cases dy with
      | @tup b zs _ hz az =>
      cases az with
      | cons e1 az =>
      cases az with
      | cons e2 az =>
      cases az
      cases e1
      cases e2
      refine seq_asg ?_
      refine ⟨_, rfl, _, rfl, _, _, _, _, rfl, rfl, hs, atI_nat hy, _, _, _, _, rfl, rfl, hz, atI_nat (j := 0) rfl, ?_⟩
      refine gname (seq_asg fun p np => gname (seq_ifN ?_))
      have s1 := same_upd (o := .dK []) np
      refine ⟨_, rfl, aL, _, rfl, .inr (hL _), rfl, rfl, _, rfl, ?_⟩
      show (if (!inV (.str "try_else") [.str "execute", .str "proceed", .str "fail"]) = true then _ else _)
      rw [nsl (by decide +kernel) rfl]
      refine iteT ?_
      refine ⟨_, rfl, rfl, _, rfl, ?_⟩
      rw [show decide (V.str (Str.ofString "try_else") = V.str (Str.ofString "jump")) = false by decide +kernel]
      refine iteT ?_
      have hlt : i + 1 < ds.length := hb.elim id fun z => absurd z (by show ¬ isStop "try_else" = true; decide +kernel)
      refine ⟨_, rfl, _, rfl, _, _, rfl, rfl, p, _, rfl, DPut.k (k := Sum.inl ((i : Int) + 1)) upd_same (small1000 (by show 0 ≤ 1000; omega)), ?_⟩
      have s2 : Same H (upd (upd H p (.dK [])) p (.dK (putK [] (Sum.inl ((i : Int) + 1)) (.bl true)))) := fun b o e => by rw [upd_ne (ne_of_none e np)]; exact s1 _ _ e
      have e2 : (upd (upd H p (.dK [])) p (.dK (putK [] (Sum.inl ((i : Int) + 1)) (.bl true)))) p = some (.dK [(Sum.inl ((i : Int) + 1), .bl true)]) := upd_same
      generalize upd (upd H p (.dK [])) p (.dK (putK [] (Sum.inl ((i : Int) + 1)) (.bl true))) = H2 at s2 e2 ⊢
      refine nxp (seq_ifN ?_)
      refine ⟨_, rfl, (by show 2 ≤ sizeLine; decide), fun p2 np2 => ⟨p2, _, rfl, .inr (SqT.of upd_same), rfl, rfl, _, rfl, ?_⟩⟩
      have s3 := s2.trans (same_upd (o := .tup [.str "try_else", .str "jump"]) np2)
      have pp : p ≠ p2 := fun z => by rw [← z, e2] at np2; cases np2
      rw [show inV (.str "try_else") [.str "try_else", .str "jump"] = true by decide +kernel]
      refine iteT ?_
      refine ⟨_, rfl, _, rfl, _, rfl, _, _, _, _, rfl, rfl, same_sqT s3 hs, atI_nat hy, _, _, _, _, rfl, rfl, same_sqT s3 hz, atI_nat (j := 1) rfl, p, _, rfl, DPut.k (k := Sum.inl l) (by rw [upd_ne pp]; exact e2) (small1000 (by show 1 ≤ 1000; omega)), ?_⟩
      have s4 : Same H (upd (upd H2 p2 (.tup [.str "try_else", .str "jump"])) p (.dK (putK [(Sum.inl ((i : Int) + 1), .bl true)] (Sum.inl l) (.bl true)))) := fun b o e => by rw [upd_ne (ne_of_none e np)]; exact s3 _ _ e
      by_cases c : l = (i : Int) + 1
      · subst c
        refine fin "try_else" p _ _ [(i : Int) + 1] s4 upd_same ?_ (by simp) (fun n hn => by rw [List.mem_singleton.mp hn]; exact l1) fun ns' hp _ => by rw [due_tr, if_neg (by omega), if_neg (by omega)]; exact one hp
        simp [putK]
        rfl
      · have hk : putK [((Sum.inl ((i : Int) + 1) : Key), V.bl true)] (Sum.inl l) (.bl true) = [(Sum.inl ((i : Int) + 1), .bl true), (Sum.inl l, .bl true)] := putK_new _ ((valV_neg fun z => c (Sum.inl.inj z).symm).trans valV_nil)
        rw [hk] at s4 ⊢
        refine fin "try_else" p _ _ [(i : Int) + 1, l] s4 upd_same rfl (by simp) (fun n hn => ?_) fun ns' hp hw => ?_
        · simp only [List.mem_cons, List.not_mem_nil, or_false] at hn
          omega
        · rw [due_tr]
          by_cases g : l < (i : Int) + 1
          · rw [if_pos g]
            exact perm2 (hp.trans (List.Perm.swap _ _ _)) hw g
          · rw [if_neg g, if_pos (by omega)]
            exact perm2 hp hw (by omega)
    | stop w r h1 h2 =>
      cases dy with
      | @tup b zs _ hz az =>
      cases az with
      | cons e1 az =>
      cases e1
      refine seq_asg ?_
      refine ⟨_, rfl, _, rfl, _, _, _, _, rfl, rfl, hs, atI_nat hy, _, _, _, _, rfl, rfl, hz, atI_nat (j := 0) rfl, ?_⟩
      refine gname (seq_asg fun p np => gname (seq_ifN ?_))
      have s1 := same_upd (o := .dK []) np
      refine ⟨_, rfl, aL, _, rfl, .inr (hL _), rfl, rfl, _, rfl, ?_⟩
      show (if (!inV (.str w) [.str "execute", .str "proceed", .str "fail"]) = true then _ else _)
      rw [nst h1]
      refine iteF (iteF ?_)
      refine seq_ifN ?_
      refine ⟨_, rfl, (by show 2 ≤ sizeLine; decide), fun p2 np2 => ⟨p2, _, rfl, .inr (SqT.of upd_same), rfl, rfl, _, rfl, ?_⟩⟩
      have s2 := s1.trans (same_upd (o := .tup [.str "try_else", .str "jump"]) np2)
      have pp : p ≠ p2 := fun z => by rw [← z, upd_same] at np2; cases np2
      rw [show inV (.str w) [.str "try_else", .str "jump"] = false from h2]
      refine iteF ?_
      exact fin w p _ [] [] s2 (by rw [upd_ne pp]; exact upd_same) rfl (by simp) (fun n hn => nomatch hn) fun ns' hp _ => by rw [due_stop _ _ h1]; exact List.perm_nil.mp hp
    | go w r h1 h2 h3 h4 =>
      cases dy with
      | @tup b zs _ hz az =>
      cases az with
      | cons e1 az =>
      cases e1
      refine seq_asg ?_
      refine ⟨_, rfl, _, rfl, _, _, _, _, rfl, rfl, hs, atI_nat hy, _, _, _, _, rfl, rfl, hz, atI_nat (j := 0) rfl, ?_⟩
      refine gname (seq_asg fun p np => gname (seq_ifN ?_))
      have s1 := same_upd (o := .dK []) np
      refine ⟨_, rfl, aL, _, rfl, .inr (hL _), rfl, rfl, _, rfl, ?_⟩
      show (if (!inV (.str w) [.str "execute", .str "proceed", .str "fail"]) = true then _ else _)
      rw [nsl h1 rfl]
      refine iteT ?_
      refine ⟨_, rfl, rfl, _, rfl, ?_⟩
      rw [show decide (V.str w = V.str (Str.ofString "jump")) = false from decide_eq_false fun z => h3 (V.str.inj z)]
      refine iteT ?_
      have hlt : i + 1 < ds.length := hb.elim id fun z => absurd z (by show ¬ isStop w = true; rw [h1]; exact Bool.false_ne_true)
      refine ⟨_, rfl, _, rfl, _, _, rfl, rfl, p, _, rfl, DPut.k (k := Sum.inl ((i : Int) + 1)) upd_same (small1000 (by show 0 ≤ 1000; omega)), ?_⟩
      have s2 : Same H (upd (upd H p (.dK [])) p (.dK (putK [] (Sum.inl ((i : Int) + 1)) (.bl true)))) := fun b o e => by rw [upd_ne (ne_of_none e np)]; exact s1 _ _ e
      have e2 : (upd (upd H p (.dK [])) p (.dK (putK [] (Sum.inl ((i : Int) + 1)) (.bl true)))) p = some (.dK [(Sum.inl ((i : Int) + 1), .bl true)]) := upd_same
      generalize upd (upd H p (.dK [])) p (.dK (putK [] (Sum.inl ((i : Int) + 1)) (.bl true))) = H2 at s2 e2 ⊢
      refine nxp (seq_ifN ?_)
      refine ⟨_, rfl, (by show 2 ≤ sizeLine; decide), fun p2 np2 => ⟨p2, _, rfl, .inr (SqT.of upd_same), rfl, rfl, _, rfl, ?_⟩⟩
      have s3 := s2.trans (same_upd (o := .tup [.str "try_else", .str "jump"]) np2)
      have pp : p ≠ p2 := fun z => by rw [← z, e2] at np2; cases np2
      rw [show inV (.str w) [.str "try_else", .str "jump"] = false from h2]
      refine iteF ?_
      exact fin w p _ _ [(i : Int) + 1] s3 (by rw [upd_ne pp]; exact e2) rfl (by simp) (fun n hn => by rw [List.mem_singleton.mp hn]; omega) fun ns' hp _ => by rw [due_go _ _ h1 h3 h4]; exact one hp

theorem ok__law_stream {f : Addr} {fd : FuncData} (F : Fun K "_law_stream" "_law_stream" s__law_stream f fd) (E : Bi K mg)  : FnOk P w K mg base CX0 1 f fd ["script"] (sp__law_stream K) := by
  refine F.ok sc__law_stream (fun vs H Q E h => ?_) (fun cdv A outer s H vs Q E' hr h => ?_)
  · obtain ⟨a, ns, rfl, _⟩ := h
    rfl
  · obtain ⟨a, ns, rfl, hS, hl, q⟩ := h
    refine ⟨_, (pss_cons (ps_set (i := 1) sc__law_stream.nd rfl (Or.inl rfl) pe_int)
      (pss_cons (ps_for PassesOwn.never rfl (pi_list (pv 0)) (pg_name (i := 2) sc__law_stream.nd rfl (Or.inl rfl)) (pss_one (ps_set (i := 1) sc__law_stream.nd rfl (Or.inl rfl) (pe_op op_mod (pe_callTy call_int1 (by rfl) E.b_int (by decide +kernel) (pa_cons (pe_op op_add (pe_op op_add (pe_op op_mul (pv 1) pe_int) (pe_op op_mod (pe_callTy call_int1 (by rfl) E.b_int (by decide +kernel) (pa_cons (pv 2) pa_nil)) pe_int)) pe_int) pa_nil)) pe_int))))
      (pss_one (ps_ret (pe_lst (pa_cons (pe_callTy call_list_of (by rfl) E.b_list (by decide +kernel) (pa_cons (pv 0) pa_nil)) (pa_cons pe_int (pa_cons pe_int (pa_cons (pv 1) pa_nil))))))))), ?_⟩
    refine ⟨_, rfl, a, rfl, ⟨_, hS⟩, for_list (K := K) (a := a) (xs := ns.map V.int) (fun i σ H1 => ∃ (m : Int) (v : Option V), σ = [some (.ref a), some (.int m), v] ∧ H1 = H ∧ 0 ≤ m ∧ m < 2147483647)
      ⟨17, none, rfl, rfl, by decide, by decide⟩ (fun i σ H1 _ ⟨_, _, _, e, _⟩ => by rw [e]; exact hS) ?_ ?_⟩
    · rintro i y σ H1 hi ⟨m, v, rfl, rfl, h0, h1⟩
      obtain ⟨z, rfl⟩ : ∃ z, y = V.int z := by
        rw [List.getElem?_map] at hi
        cases e : ns[i]? with
        | none =>
          rw [e] at hi
          cases hi
        | some z =>
          rw [e] at hi
          exact ⟨z, (Option.some.inj hi).symm⟩
      refine ⟨_, rfl, _, _, rfl, rfl, .inr ⟨by decide, by decide⟩, _, rfl, .inl ⟨_, rfl, _, _, rfl, rfl, (by decide : (0 : Int) < 65521), _, _, rfl, rfl, _, _, rfl, rfl, .inl ⟨_, rfl, _, _, rfl, rfl, (by decide : (0 : Int) < 2147483647), ?_⟩⟩⟩
      exact ⟨_, _, rfl, rfl, Int.emod_nonneg _ (by decide), Int.emod_lt_of_pos _ (by decide)⟩
    · rintro σ H1 ⟨m, v, rfl, rfl, h0, h1⟩
      refine ⟨_, rfl, a, _, rfl, .inl hS, fun l hl2 => ⟨_, rfl, (by show 4 ≤ sizeLine; decide), fun p hp => ?_⟩⟩
      have npl : l ≠ p := fun z => by
        rw [← z, upd_same] at hp
        cases hp
      refine q p l _ ((same_upd hl2).free hp) hl2 ((same_upd hl2).trans (same_upd hp)) ⟨0, 0, m, ns, upd_same, ?_, hl, Int.le_refl 0, Int.le_refl 0, h0, h1⟩
      rw [upd_ne npl, upd_same]

theorem ok__law_draw {f : Addr} {fd : FuncData} (F : Fun K "_law_draw" "_law_draw" s__law_draw f fd) (E : Bi K mg)  : FnOk P w K mg base CX0 1 f fd ["stream", "many"] (sp__law_draw K) := by
  refine F.ok sc__law_draw (fun vs H Q E h => ?_) (fun cdv A outer s H vs Q E' hr h => ?_)
  · obtain ⟨s, l, n, rfl, _⟩ := h
    rfl
  · obtain ⟨p, l, n, rfl, hS, hn, hn2, q⟩ := h
    obtain ⟨a, b, m, ns, h1, h2, hlen, ha, hb, hm, hm2⟩ := hS.ex
    have nlp : l ≠ p := fun z => by
      rw [z, h1] at h2
      have h3 := HO.lst.inj (Option.some.inj h2)
      cases ns with
      | nil => cases h3
      | cons x r => cases (List.cons.inj h3).1
    refine ⟨_, (pss_cons (ps_if (pw_and (pt_cmpR op_eq (pe_ix ix_list (pv 0) pe_int (fun _ _ => rfl)) pe_int (nomark _)) (pw_and1 (pt_cmpR op_lt (pe_ix ix_list (pv 0) pe_int (fun _ _ => rfl)) (pe_callB call_len_seq (by rfl) E.b_len PySem.boot_len (pa_cons (pe_ix ix_list (pv 0) pe_int (fun _ _ => rfl)) pa_nil)) (nomark _)))).pt (pss_cons (ps_asg (pe_callB call_abs (by rfl) E.b_abs (by decide +kernel) (pa_cons (pe_callTy call_int1 (by rfl) E.b_int (by decide +kernel) (pa_cons (pe_ix ix_list (pe_ix ix_list (pv 0) pe_int (fun _ _ => rfl)) (pe_ix ix_list (pv 0) pe_int (fun _ _ => rfl)) (fun _ _ => rfl)) pa_nil)) pa_nil)) (pg_sub (pv 0) pe_int set_list))
      (pss_one (ps_asg (pe_op op_add (pe_ix ix_list (pv 0) pe_int (fun _ _ => rfl)) pe_int) (pg_sub (pv 0) pe_int set_list)))) pss_nil)
      (pss_cons (ps_if (pt_cmpR op_eq (pe_ix ix_list (pv 0) pe_int (fun _ _ => rfl)) pe_int (nomark _)) (pss_cons (ps_asg (pe_op op_mod (pe_callTy call_int1 (by rfl) E.b_int (by decide +kernel) (pa_cons (pe_op op_add (pe_op op_mul (pe_ix ix_list (pv 0) pe_int (fun _ _ => rfl)) pe_int) pe_int) pa_nil)) pe_int) (pg_sub (pv 0) pe_int set_list))
      (pss_one (ps_ret (pe_op op_mod (pe_callTy call_int1 (by rfl) E.b_int (by decide +kernel) (pa_cons (pe_op op_fdivW (pe_ix ix_list (pv 0) pe_int (fun _ _ => rfl)) pe_int) pa_nil)) (pv 1))))) pss_nil)
      (pss_cons (ps_set (i := 2) sc__law_draw.nd rfl (Or.inl rfl) (pe_op op_mod (pe_callTy call_int1 (by rfl) E.b_int (by decide +kernel) (pa_cons (pe_ix ix_list (pv 0) pe_int (fun _ _ => rfl)) pa_nil)) (pv 1)))
      (pss_cons (ps_asg (pe_op op_fdivW (pe_ix ix_list (pv 0) pe_int (fun _ _ => rfl)) (pv 1)) (pg_sub (pv 0) pe_int set_list))
      (pss_one (ps_ret (pv 2))))))), ?_⟩
    refine ⟨_, rfl, _, _, _, _, rfl, rfl, SqL.of h1, atI_nat (j := 1) rfl, rfl, _, rfl, ite2 (fun e => ?_) (fun e => ?_)⟩
    · refine ⟨_, rfl, _, _, _, _, rfl, rfl, SqL.of h1, atI_nat (j := 2) rfl, _, rfl, _, _, _, _, rfl, rfl, SqL.of h1, atI_nat (j := 0) rfl, _, _, rfl, .inl (SqL.of h2), _, _, rfl, rfl, _, rfl, ite2 (fun e1 => ?_) (fun e1 => ?_)⟩
      · have e2 : b < (ns.map V.int).length := of_decide_eq_true e1
        rw [List.length_map] at e2
        have hz : (ns.map V.int)[b.toNat]? = some (V.int (ns[b.toNat]'(by omega))) := by
          rw [List.getElem?_map, List.getElem?_eq_getElem (by omega)]
          rfl
        refine ⟨_, rfl, _, _, _, _, rfl, rfl, SqL.of h1, atI_nat (j := 0) rfl, _, rfl, _, _, _, _, rfl, rfl, SqL.of h1, atI_nat (j := 2) rfl, _, _, _, _, rfl, rfl, SqL.of h2, at_of (j := b.toNat) (by omega) hz, .inl ⟨_, rfl, _, rfl, _, rfl, _, _, _, _, rfl, rfl, h1, rfl, ?_⟩⟩
        refine ⟨_, rfl, _, _, _, _, rfl, rfl, SqL.of upd_same, atI_nat (j := 2) rfl, _, _, rfl, rfl, _, rfl, _, _, _, _, rfl, rfl, upd_same, rfl, ?_⟩
        generalize hH : upd _ p _ = H1
        have hX : ∃ a' b' : Int, H1 p = some (.lst [.ref l, .int a', .int b', .int m]) ∧ 0 ≤ a' ∧ 0 ≤ b' := ⟨_, _, by rw [← hH]; exact upd_same, by split <;> omega, by omega⟩
        have hB : But p H H1 := by rw [← hH]; exact But.put.trans But.put
        have hL : H1 l = some (.lst (ns.map V.int)) := hB l _ nlp h2
        clear hH
        obtain ⟨a', b', hX, ha', hb'⟩ := hX
        refine ⟨_, rfl, _, _, _, _, rfl, rfl, SqL.of hX, atI_nat (j := 1) rfl, rfl, _, rfl, ite2 (fun e3 => ?_) (fun e3 => ?_)⟩
        · refine ⟨_, rfl, _, _, _, _, rfl, rfl, SqL.of hX, atI_nat (j := 3) rfl, _, _, rfl, rfl, .inr ⟨by decide, by decide⟩, _, _, rfl, rfl, .inl ⟨_, rfl, _, _, rfl, rfl, (by decide : (0 : Int) < 2147483647), _, rfl, _, _, _, _, rfl, rfl, hX, rfl, ?_⟩⟩
          refine ⟨_, rfl, _, _, _, _, rfl, rfl, SqL.of upd_same, atI_nat (j := 3) rfl, _, _, rfl, rfl, wide_div (b := 64) (by decide) (by decide) (by decide) (by decide), .inl ⟨_, rfl, _, rfl, _, _, rfl, rfl, hn, ?_⟩⟩
          exact q _ _ (Int.emod_nonneg _ (by omega)) (Int.emod_lt_of_pos _ hn) (hB.trans But.put) ⟨a', b', _, ns, upd_same, by rw [upd_ne nlp]; exact hL, hlen, ha', hb', Int.emod_nonneg _ (by decide), Int.emod_lt_of_pos _ (by decide)⟩
        · refine ⟨_, rfl, _, _, _, _, rfl, rfl, SqL.of hX, atI_nat (j := 1) rfl, .inl ⟨_, rfl, _, rfl, _, _, rfl, rfl, hn, ?_⟩⟩
          refine ⟨_, rfl, _, _, _, _, rfl, rfl, SqL.of hX, atI_nat (j := 1) rfl, _, rfl, _, _, rfl, rfl, wide_div hn hn2 (by decide) (by decide), _, rfl, _, _, _, _, rfl, rfl, hX, rfl, ?_⟩
          refine ⟨_, rfl, ?_⟩
          exact q _ _ (Int.emod_nonneg _ (by omega)) (Int.emod_lt_of_pos _ hn) (hB.trans But.put) ⟨_, b', m, ns, upd_same, by rw [upd_ne nlp]; exact hL, hlen, Int.ediv_nonneg ha' (by omega), hb', hm, hm2⟩
      · have hX : ∃ a' b' : Int, H p = some (.lst [.ref l, .int a', .int b', .int m]) ∧ 0 ≤ a' ∧ 0 ≤ b' := ⟨_, _, h1, ha, hb⟩
        have hB : But p H H := But.refl p H
        have hL := h2
        obtain ⟨a', b', hX, ha', hb'⟩ := hX
        refine ⟨_, rfl, _, _, _, _, rfl, rfl, SqL.of hX, atI_nat (j := 1) rfl, rfl, _, rfl, ite2 (fun e3 => ?_) (fun e3 => ?_)⟩
        · refine ⟨_, rfl, _, _, _, _, rfl, rfl, SqL.of hX, atI_nat (j := 3) rfl, _, _, rfl, rfl, .inr ⟨by decide, by decide⟩, _, _, rfl, rfl, .inl ⟨_, rfl, _, _, rfl, rfl, (by decide : (0 : Int) < 2147483647), _, rfl, _, _, _, _, rfl, rfl, hX, rfl, ?_⟩⟩
          refine ⟨_, rfl, _, _, _, _, rfl, rfl, SqL.of upd_same, atI_nat (j := 3) rfl, _, _, rfl, rfl, wide_div (b := 64) (by decide) (by decide) (by decide) (by decide), .inl ⟨_, rfl, _, rfl, _, _, rfl, rfl, hn, ?_⟩⟩
          exact q _ _ (Int.emod_nonneg _ (by omega)) (Int.emod_lt_of_pos _ hn) (hB.trans But.put) ⟨a', b', _, ns, upd_same, by rw [upd_ne nlp]; exact hL, hlen, ha', hb', Int.emod_nonneg _ (by decide), Int.emod_lt_of_pos _ (by decide)⟩
        · refine ⟨_, rfl, _, _, _, _, rfl, rfl, SqL.of hX, atI_nat (j := 1) rfl, .inl ⟨_, rfl, _, rfl, _, _, rfl, rfl, hn, ?_⟩⟩
          refine ⟨_, rfl, _, _, _, _, rfl, rfl, SqL.of hX, atI_nat (j := 1) rfl, _, rfl, _, _, rfl, rfl, wide_div hn hn2 (by decide) (by decide), _, rfl, _, _, _, _, rfl, rfl, hX, rfl, ?_⟩
          refine ⟨_, rfl, ?_⟩
          exact q _ _ (Int.emod_nonneg _ (by omega)) (Int.emod_lt_of_pos _ hn) (hB.trans But.put) ⟨_, b', m, ns, upd_same, by rw [upd_ne nlp]; exact hL, hlen, Int.ediv_nonneg ha' (by omega), hb', hm, hm2⟩
    · have hX : ∃ a' b' : Int, H p = some (.lst [.ref l, .int a', .int b', .int m]) ∧ 0 ≤ a' ∧ 0 ≤ b' := ⟨_, _, h1, ha, hb⟩
      have hB : But p H H := But.refl p H
      have hL := h2
      obtain ⟨a', b', hX, ha', hb'⟩ := hX
      refine ⟨_, rfl, _, _, _, _, rfl, rfl, SqL.of hX, atI_nat (j := 1) rfl, rfl, _, rfl, ite2 (fun e3 => ?_) (fun e3 => ?_)⟩
      · refine ⟨_, rfl, _, _, _, _, rfl, rfl, SqL.of hX, atI_nat (j := 3) rfl, _, _, rfl, rfl, .inr ⟨by decide, by decide⟩, _, _, rfl, rfl, .inl ⟨_, rfl, _, _, rfl, rfl, (by decide : (0 : Int) < 2147483647), _, rfl, _, _, _, _, rfl, rfl, hX, rfl, ?_⟩⟩
        refine ⟨_, rfl, _, _, _, _, rfl, rfl, SqL.of upd_same, atI_nat (j := 3) rfl, _, _, rfl, rfl, wide_div (b := 64) (by decide) (by decide) (by decide) (by decide), .inl ⟨_, rfl, _, rfl, _, _, rfl, rfl, hn, ?_⟩⟩
        exact q _ _ (Int.emod_nonneg _ (by omega)) (Int.emod_lt_of_pos _ hn) (hB.trans But.put) ⟨a', b', _, ns, upd_same, by rw [upd_ne nlp]; exact hL, hlen, ha', hb', Int.emod_nonneg _ (by decide), Int.emod_lt_of_pos _ (by decide)⟩
      · refine ⟨_, rfl, _, _, _, _, rfl, rfl, SqL.of hX, atI_nat (j := 1) rfl, .inl ⟨_, rfl, _, rfl, _, _, rfl, rfl, hn, ?_⟩⟩
        refine ⟨_, rfl, _, _, _, _, rfl, rfl, SqL.of hX, atI_nat (j := 1) rfl, _, rfl, _, _, rfl, rfl, wide_div hn hn2 (by decide) (by decide), _, rfl, _, _, _, _, rfl, rfl, hX, rfl, ?_⟩
        refine ⟨_, rfl, ?_⟩
        exact q _ _ (Int.emod_nonneg _ (by omega)) (Int.emod_lt_of_pos _ hn) (hB.trans But.put) ⟨_, b', m, ns, upd_same, by rw [upd_ne nlp]; exact hL, hlen, Int.ediv_nonneg ha' (by omega), hb', hm, hm2⟩

theorem ok__law_due {f : Addr} {fd : FuncData} (F : Fun K "_law_due" "_law_due" s__law_due f fd) (E : Bi K mg)  : FnOk P w K mg base CX0 1 f fd ["code", "at"] (sp__law_due K) := by
  refine F.ok sc__law_due (fun vs H Q E h => ?_) (fun cdv A outer s H vs Q E' hr h => ?_)
  · obtain ⟨c, i, ds, d, rfl, _⟩ := h
    rfl
  · obtain ⟨c, i, ds, d, rfl, hc, hd, hi, q⟩ := h
    refine ⟨_, (pss_cons (ps_set (i := 2) sc__law_due.nd rfl (Or.inl rfl) (pe_ix ix_tup (pe_ix ix_tup (pv 0) (pv 1) (fun _ _ => rfl)) pe_int (fun _ _ => rfl)))
      (pss_cons (ps_if (pt_cmpR (show OpR _ (compareOp .In) (rIn K false) from op_in_seq) (pv 2) (pe_tup (pa_cons pe_str (pa_cons pe_str (pa_cons pe_str pa_nil)))) (by rfl)) (pss_one (ps_ret (pe_lst pa_nil))) pss_nil)
      (pss_cons (ps_if (pt_cmpR op_eq (pv 2) pe_str (nomark _)) (pss_one (ps_ret (pe_lst (pa_cons (pe_ix ix_tup (pe_ix ix_tup (pv 0) (pv 1) (fun _ _ => rfl)) pe_int (fun _ _ => rfl)) pa_nil)))) pss_nil)
      (pss_cons (ps_if (pw_and (pt_cmpR op_eq (pv 2) pe_str (nomark _)) (pw_and1 (pt_cmpR op_lt (pe_ix ix_tup (pe_ix ix_tup (pv 0) (pv 1) (fun _ _ => rfl)) pe_int (fun _ _ => rfl)) (pe_op op_add (pv 1) pe_int) (nomark _)))).pt (pss_one (ps_ret (pe_lst (pa_cons (pe_ix ix_tup (pe_ix ix_tup (pv 0) (pv 1) (fun _ _ => rfl)) pe_int (fun _ _ => rfl)) (pa_cons (pe_op op_add (pv 1) pe_int) pa_nil))))) pss_nil)
      (pss_cons (ps_if (pw_and (pt_cmpR op_eq (pv 2) pe_str (nomark _)) (pw_and1 (pt_cmpR op_gt (pe_ix ix_tup (pe_ix ix_tup (pv 0) (pv 1) (fun _ _ => rfl)) pe_int (fun _ _ => rfl)) (pe_op op_add (pv 1) pe_int) (nomark _)))).pt (pss_one (ps_ret (pe_lst (pa_cons (pe_op op_add (pv 1) pe_int) (pa_cons (pe_ix ix_tup (pe_ix ix_tup (pv 0) (pv 1) (fun _ _ => rfl)) pe_int (fun _ _ => rfl)) pa_nil))))) pss_nil)
      (pss_one (ps_ret (pe_lst (pa_cons (pe_op op_add (pv 1) pe_int) pa_nil))))))))), ?_⟩
    cases id hc with
    | @tup a xs _ hs ha =>
    obtain ⟨y, hy, dy⟩ := DpAll.get ha hd
    have fin : ∀ (ns : List Int) (p : Addr) (H1 : Hp), Same H H1 → H1 p = Option.none → dueN d (i : Int) = ns → Q (.ref p) (upd H1 p (.lst (ns.map V.int))) := fun ns p H1 s np e => q _ _ (s.trans (same_upd np)) (.lst (SqL.of upd_same) (by rw [e]; exact dp_ints ns))
    have ino : ∀ {t t2 : Prop} {w : Str}, isStop w = false → t2 → if inV (.str w) [.str "execute", .str "proceed", .str "fail"] = true then t else t2 := fun h t2 => by
      rw [show inV (.str _) [.str "execute", .str "proceed", .str "fail"] = false from h]
      exact iteF t2
    cases hi with
    | jump l l0 l1 =>
      cases dy with
      | @tup b zs _ hz az =>
      cases az with
      | cons e1 az =>
      cases az with
      | cons e2 az =>
      cases az
      cases e1
      cases e2
      refine seq_asg ?_
      refine ⟨_, rfl, _, rfl, _, _, _, _, rfl, rfl, hs, atI_nat hy, _, _, _, _, rfl, rfl, hz, atI_nat (j := 0) rfl, ?_⟩
      refine gname (seq_ifN ?_)
      refine ⟨_, rfl, (by show 3 ≤ sizeLine; decide), fun p np => ⟨p, _, rfl, .inr (SqT.of upd_same), rfl, rfl, _, rfl, ino (by decide +kernel) ?_⟩⟩
      have s1 := same_upd (o := .tup [.str "execute", .str "proceed", .str "fail"]) np
      refine seq_ifN ?_
      refine ⟨_, rfl, rfl, _, rfl, ?_⟩
      rw [decide_eq_true rfl]
      refine iteT ?_
      exact ⟨_, rfl, _, rfl, _, _, _, _, rfl, rfl, same_sqT s1 hs, atI_nat hy, _, _, _, _, rfl, rfl, same_sqT s1 hz, atI_nat (j := 1) rfl, (by show 1 ≤ sizeLine; decide), fun p2 np2 => fin [l] p2 _ s1 np2 (due_jump l _)⟩
    | tr l l0 l1 =>
      cases dy with
      | @tup b zs _ hz az =>
      cases az with
      | cons e1 az =>
      cases az with
      | cons e2 az =>
      cases az
      cases e1
      cases e2
      refine seq_asg ?_
      refine ⟨_, rfl, _, rfl, _, _, _, _, rfl, rfl, hs, atI_nat hy, _, _, _, _, rfl, rfl, hz, atI_nat (j := 0) rfl, ?_⟩
      refine gname (seq_ifN ?_)
      refine ⟨_, rfl, (by show 3 ≤ sizeLine; decide), fun p np => ⟨p, _, rfl, .inr (SqT.of upd_same), rfl, rfl, _, rfl, ino (by decide +kernel) ?_⟩⟩
      have s1 := same_upd (o := .tup [.str "execute", .str "proceed", .str "fail"]) np
      have hs1 := same_sqT s1 hs
      have hz1 := same_sqT s1 hz
      refine seq_ifN ?_
      refine ⟨_, rfl, rfl, _, rfl, ?_⟩
      rw [show decide (V.str (Str.ofString "try_else") = V.str (Str.ofString "jump")) = false by decide +kernel]
      refine iteF (seq_ifN ?_)
      refine ⟨_, rfl, rfl, _, rfl, ?_⟩
      rw [decide_eq_true rfl]
      refine iteT ?_
      refine ⟨_, rfl, _, rfl, _, _, _, _, rfl, rfl, hs1, atI_nat hy, _, _, _, _, rfl, rfl, hz1, atI_nat (j := 1) rfl, _, rfl, _, _, rfl, rfl, _, _, rfl, rfl, _, rfl, ite2 (fun c => ?_) (fun c => ?_)⟩
      · have c := of_decide_eq_true c
        exact ⟨_, rfl, _, rfl, _, _, _, _, rfl, rfl, hs1, atI_nat hy, _, _, _, _, rfl, rfl, hz1, atI_nat (j := 1) rfl, _, rfl, _, _, rfl, rfl, (by show 2 ≤ sizeLine; decide), fun p2 np2 => fin [l, (i : Int) + 1] p2 _ s1 np2 (by rw [due_tr, if_pos c])⟩
      · have c : ¬ l < (i : Int) + 1 := fun z => c (decide_eq_true z)
        refine seq_ifN ?_
        refine ⟨_, rfl, rfl, _, rfl, ?_⟩
        rw [decide_eq_true rfl]
        refine iteT ?_
        refine ⟨_, rfl, _, rfl, _, _, _, _, rfl, rfl, hs1, atI_nat hy, _, _, _, _, rfl, rfl, hz1, atI_nat (j := 1) rfl, _, rfl, _, _, rfl, rfl, _, _, rfl, rfl, _, rfl, ite2 (fun g => ?_) (fun g => ?_)⟩
        · have g := of_decide_eq_true g
          exact ⟨_, rfl, _, _, rfl, rfl, _, rfl, _, rfl, _, _, _, _, rfl, rfl, hs1, atI_nat hy, _, _, _, _, rfl, rfl, hz1, atI_nat (j := 1) rfl, (by show 2 ≤ sizeLine; decide), fun p2 np2 => fin [(i : Int) + 1, l] p2 _ s1 np2 (by rw [due_tr, if_neg c, if_pos g])⟩
        · have g : ¬ (i : Int) + 1 < l := fun z => g (decide_eq_true z)
          exact ⟨_, rfl, _, _, rfl, rfl, (by show 1 ≤ sizeLine; decide), fun p2 np2 => fin [(i : Int) + 1] p2 _ s1 np2 (by rw [due_tr, if_neg c, if_neg g])⟩
    | stop w r h1 h2 =>
      cases dy with
      | @tup b zs _ hz az =>
      cases az with
      | cons e1 az =>
      cases e1
      refine seq_asg ?_
      refine ⟨_, rfl, _, rfl, _, _, _, _, rfl, rfl, hs, atI_nat hy, _, _, _, _, rfl, rfl, hz, atI_nat (j := 0) rfl, ?_⟩
      refine gname (seq_ifN ?_)
      refine ⟨_, rfl, (by show 3 ≤ sizeLine; decide), fun p np => ⟨p, _, rfl, .inr (SqT.of upd_same), rfl, rfl, _, rfl, ?_⟩⟩
      have s1 := same_upd (o := .tup [.str "execute", .str "proceed", .str "fail"]) np
      rw [show inV (.str w) [.str "execute", .str "proceed", .str "fail"] = true from h1]
      refine iteT ?_
      exact ⟨Nat.zero_le _, fun p2 np2 => fin [] p2 _ s1 np2 (due_stop r _ h1)⟩
    | go w r h1 h2 h3 h4 =>
      cases dy with
      | @tup b zs _ hz az =>
      cases az with
      | cons e1 az =>
      cases e1
      refine seq_asg ?_
      refine ⟨_, rfl, _, rfl, _, _, _, _, rfl, rfl, hs, atI_nat hy, _, _, _, _, rfl, rfl, hz, atI_nat (j := 0) rfl, ?_⟩
      refine gname (seq_ifN ?_)
      refine ⟨_, rfl, (by show 3 ≤ sizeLine; decide), fun p np => ⟨p, _, rfl, .inr (SqT.of upd_same), rfl, rfl, _, rfl, ino h1 ?_⟩⟩
      have s1 := same_upd (o := .tup [.str "execute", .str "proceed", .str "fail"]) np
      have ne : ∀ {u : Str}, w ≠ u → decide (V.str w = V.str u) = false := fun h => decide_eq_false fun z => h (V.str.inj z)
      refine seq_ifN ?_
      refine ⟨_, rfl, rfl, _, rfl, ?_⟩
      rw [ne h3]
      refine iteF (seq_ifN ?_)
      refine ⟨_, rfl, rfl, _, rfl, ?_⟩
      rw [ne h4]
      refine iteF (seq_ifN ?_)
      refine ⟨_, rfl, rfl, _, rfl, ?_⟩
      rw [ne h4]
      refine iteF ?_
      exact ⟨_, rfl, _, _, rfl, rfl, (by show 1 ≤ sizeLine; decide), fun p2 np2 => fin [(i : Int) + 1] p2 _ s1 np2 (due_go r _ h1 h3 h4)⟩

theorem ok__law_instruction {f : Addr} {fd : FuncData} (F : Fun K "_law_instruction" "_law_instruction" s__law_instruction f fd) (E : Bi K mg) (D__law_draw : Has P w K mg base 1 "_law_draw" ["stream", "many"] (sp__law_draw K)) : FnOk P w K mg base CX0 2 f fd ["stream", "size"] (sp__law_instruction K) := by
  obtain ⟨f__law_draw, fd__law_draw, G__law_draw, g__law_draw, kp__law_draw, b__law_draw⟩ := D__law_draw
  refine F.ok sc__law_instruction (fun vs H Q E h => ?_) (fun cdv A outer s H vs Q E' hr h => ?_)
  · obtain ⟨s, l, n, rfl, _⟩ := h
    rfl
  · obtain ⟨s, l, n, rfl, hS, hn, hn2, q⟩ := h
    have n9 : (2 : Nat) ^ 8 ≤ 2 ^ 9000 := Nat.pow_le_pow_right (by decide) (by decide)
    refine ⟨_, (pss_cons (ps_set (i := 2) sc__law_instruction.nd rfl (Or.inl rfl) (pe_call G__law_draw (hr.mono (by decide)) (by rfl) g__law_draw kp__law_draw b__law_draw .nil pass0 (pa_cons (pv 0) (pa_cons pe_int pa_nil))))
      (pss_cons (ps_set (i := 3) sc__law_instruction.nd rfl (Or.inl rfl) (pe_call G__law_draw (hr.mono (by decide)) (by rfl) g__law_draw kp__law_draw b__law_draw .nil pass0 (pa_cons (pv 0) (pa_cons (pv 1) pa_nil))))
      (pss_cons (ps_set (i := 4) sc__law_instruction.nd rfl (Or.inl rfl) (pe_lst (pa_cons (pe_tup (pa_cons pe_str pa_nil)) (pa_cons (pe_tup (pa_cons pe_str (pa_cons pe_int pa_nil))) (pa_cons (pe_tup (pa_cons pe_str (pa_cons pe_str (pa_cons pe_int (pa_cons pe_int pa_nil))))) (pa_cons (pe_tup (pa_cons pe_str (pa_cons (pe_tup (pa_cons pe_str (pa_cons pe_int pa_nil))) (pa_cons pe_int pa_nil)))) (pa_cons (pe_tup (pa_cons pe_str (pa_cons (pe_tup (pa_cons pe_str (pa_cons pe_int pa_nil))) pa_nil))) pa_nil)))))))
      (pss_cons (ps_if (pt_cmpR op_eq (pv 2) pe_int (nomark _)) (pss_one (ps_ret (pe_tup (pa_cons pe_str (pa_cons (pv 3) pa_nil))))) pss_nil)
      (pss_cons (ps_if (pt_cmpR op_eq (pv 2) pe_int (nomark _)) (pss_one (ps_ret (pe_tup (pa_cons pe_str (pa_cons (pv 3) pa_nil))))) pss_nil)
      (pss_cons (ps_if (pt_cmpR op_eq (pv 2) pe_int (nomark _)) (pss_one (ps_ret (pe_tup (pa_cons pe_str (pa_cons pe_str (pa_cons (pe_call G__law_draw (hr.mono (by decide)) (by rfl) g__law_draw kp__law_draw b__law_draw .nil pass0 (pa_cons (pv 0) (pa_cons pe_int pa_nil))) pa_nil)))))) pss_nil)
      (pss_cons (ps_if (pt_cmpR op_eq (pv 2) pe_int (nomark _)) (pss_one (ps_ret (pe_tup (pa_cons (pe_ix ix_list (pe_lst (pa_cons pe_str (pa_cons pe_str pa_nil))) (pe_call G__law_draw (hr.mono (by decide)) (by rfl) g__law_draw kp__law_draw b__law_draw .nil pass0 (pa_cons (pv 0) (pa_cons pe_int pa_nil))) (fun _ _ => rfl)) pa_nil)))) pss_nil)
      (pss_one (ps_ret (pe_ix ix_list (pv 4) (pe_op op_sub (pv 2) pe_int) (fun _ _ => rfl))))))))))), ?_⟩
    refine seq_asg ?_
    refine ⟨_, rfl, s, l, 9, rfl, hS, by decide, Nat.lt_of_lt_of_le (by decide) n9, fun p H1 p0 p1 b1 S1 => ?_⟩
    refine gname (seq_asg ?_)
    refine ⟨_, rfl, _, rfl, s, l, n, rfl, S1, hn, Nat.lt_of_lt_of_le (by omega : n.natAbs < 2 ^ 8) n9, fun t H2 t0 t1 b2 S2 => ?_⟩
    refine gname (seq_asg ?_)
    refine lit_lst (K := K) (ds := plainD) ?_ (by decide) H2 _ fun v0 H3 t3 i0 => ?_
    · unfold plainD
      walk_at "lits"
    cases i0 with
    | @lst p0 xs0 _ g0 e0 a0 =>
    have b3 := (b1.trans b2).trans (But.of t3)
    have S3 := S2.keep t3
    obtain ⟨os2, hos2⟩ := S2.at_s
    have np0 : p0 ≠ s := fun z => by
      rw [z, hos2] at g0
      cases g0
    have old : ∀ {b : Addr} {H' : Hp}, But s H H' → H' b = Option.none → b ≠ s → H b = Option.none := fun {b H'} bb e hb => by
      cases z : H b with
      | none => rfl
      | some o => rw [bb b o hb z] at e; cases e
    have pair : ∀ (w : Str), InsN n (.tuple [.str w, .int t]) → ∀ p, H3 p = Option.none → Q (.ref p) (upd H3 p (.tup [.str w, .int t])) := fun w hw p np => by
      obtain ⟨os3, hos3⟩ := S3.at_s
      have ps : p ≠ s := fun z => by rw [z, hos3] at np; cases np
      exact q _ _ _ hw (b3.trans (But.of (same_upd np))) (S3.keep (same_upd np)) (.tup (old b3 np ps) upd_same (.cons (.str _) (.cons (.int _) .nil)))
    refine gname (seq_ifN ?_)
    refine ⟨_, rfl, rfl, _, rfl, ite2 (fun e => ?_) (fun e => ?_)⟩
    · exact ⟨_, rfl, (by show 2 ≤ sizeLine; decide), fun p np => pair _ (.jump t t0 t1) p np⟩
    refine seq_ifN ?_
    refine ⟨_, rfl, rfl, _, rfl, ite2 (fun e1 => ?_) (fun e1 => ?_)⟩
    · exact ⟨_, rfl, (by show 2 ≤ sizeLine; decide), fun p np => pair _ (.tr t t0 t1) p np⟩
    refine seq_ifN ?_
    refine ⟨_, rfl, rfl, _, rfl, ite2 (fun e2 => ?_) (fun e2 => ?_)⟩
    · refine ⟨_, rfl, s, l, 4, rfl, S3, by decide, Nat.lt_of_lt_of_le (by decide) n9, fun z H4 z0 z1 b4 S4 => ⟨(by show 3 ≤ sizeLine; decide), fun p np => ?_⟩⟩
      obtain ⟨os4, hos4⟩ := S4.at_s
      have ps : p ≠ s := fun z => by rw [z, hos4] at np; cases np
      exact q _ _ _ (.stop _ _ (by decide +kernel) (by decide +kernel)) ((b3.trans b4).trans (But.of (same_upd np))) (S4.keep (same_upd np)) (.tup (old (b3.trans b4) np ps) upd_same (.cons (.str _) (.cons (.str _) (.cons (.int _) .nil))))
    refine seq_ifN ?_
    refine ⟨_, rfl, rfl, _, rfl, ite2 (fun e3 => ?_) (fun e3 => ?_)⟩
    · show tTup _ _ _ _
      refine tup_of (args1 (op_of ?_))
      refine lit_lst (K := K) (ds := [.str "proceed", .str "fail"]) ?_ (by decide) H3 _ fun v4 H4 t4 i4 => ?_
      · walk_at "lits"
      cases i4 with
      | @lst p4 xs4 _ g4 e4 a4 =>
      have S4 := S3.keep t4
      obtain ⟨os3, hos3⟩ := S3.at_s
      have np4 : p4 ≠ s := fun z => by
        rw [z, hos3] at g4
        cases g4
      refine ⟨_, rfl, s, l, 2, rfl, S4, by decide, Nat.lt_of_lt_of_le (by decide) n9, fun z H5 z0 z1 b5 S5 => ?_⟩
      obtain ⟨x, hx, ax⟩ := lit_pick (names := ["proceed", "fail"]) a4 z0 z1
      have okx : isStop x = true ∧ isLab x = false := (show ∀ x ∈ (["proceed", "fail"] : List Str), isStop x = true ∧ isLab x = false by decide +kernel) x hx
      refine ⟨_, _, _, _, rfl, rfl, SqL.of (b5 _ _ np4 e4), ax, (by show 1 ≤ sizeLine; decide), fun p np => ?_⟩
      obtain ⟨os5, hos5⟩ := S5.at_s
      have ps : p ≠ s := fun z => by rw [z, hos5] at np; cases np
      have b35 := (b3.trans (But.of t4)).trans b5
      exact q _ _ _ (.stop x [] okx.1 okx.2) (b35.trans (But.of (same_upd np))) (S5.keep (same_upd np)) (.tup (old b35 np ps) upd_same (.cons (.str _) .nil))
    have p4 : 4 ≤ p := by
      have c0 : ¬ p = 0 := fun z => e (by rw [z]; rfl)
      have c1 : ¬ p = 1 := fun z => e1 (by rw [z]; rfl)
      have c2 : ¬ p = 2 := fun z => e2 (by rw [z]; rfl)
      have c3 : ¬ p = 3 := fun z => e3 (by rw [z]; rfl)
      omega
    have hlen : plainD.length = 5 := rfl
    obtain ⟨d, hd⟩ : ∃ d, plainD[(p - 4).toNat]? = some d := ⟨_, List.getElem?_eq_getElem (by omega)⟩
    obtain ⟨v, hv, iv⟩ := ImAll.get a0 hd
    refine ⟨_, rfl, _, rfl, _, _, rfl, rfl, _, _, _, _, rfl, rfl, SqL.of e0, at_of (j := (p - 4).toNat) (by omega) hv, ?_⟩
    exact q v d _ (plain_ok n d (List.mem_of_getElem? hd)) b3 S3 (Im.mono2 (fun _ _ _ e => e) (fun b o e g => old (b1.trans b2) g (fun z => by rw [z, hos2] at g; cases g)) _ _ iv)

theorem ok_law {f : Addr} {fd : FuncData} (F : Fun K "law" "law" s_law f fd) (E : Bi K mg) (D__law_stream : Has P w K mg base 1 "_law_stream" ["script"] (sp__law_stream K)) (D__law_draw : Has P w K mg base 1 "_law_draw" ["stream", "many"] (sp__law_draw K)) (D__law_instruction : Has P w K mg base 2 "_law_instruction" ["stream", "size"] (sp__law_instruction K)) (D_successors : Has P w K mg base 1 "successors" ["code", "at"] (sp_successors K)) (D__law_due : Has P w K mg base 1 "_law_due" ["code", "at"] (sp__law_due K)) : FnOk P w K mg base CX0 3 f fd ["script"] (sp_law K) := by
  obtain ⟨f__law_stream, fd__law_stream, G__law_stream, g__law_stream, kp__law_stream, b__law_stream⟩ := D__law_stream
  obtain ⟨f__law_draw, fd__law_draw, G__law_draw, g__law_draw, kp__law_draw, b__law_draw⟩ := D__law_draw
  obtain ⟨f__law_instruction, fd__law_instruction, G__law_instruction, g__law_instruction, kp__law_instruction, b__law_instruction⟩ := D__law_instruction
  obtain ⟨f_successors, fd_successors, G_successors, g_successors, kp_successors, b_successors⟩ := D_successors
  obtain ⟨f__law_due, fd__law_due, G__law_due, g__law_due, kp__law_due, b__law_due⟩ := D__law_due
  refine F.ok sc_law (fun vs H Q E h => ?_) (fun cdv A outer s H vs Q E' hr h => ?_)
  · obtain ⟨a, ns, rfl, _⟩ := h
    rfl
  · obtain ⟨a, ns, rfl, hS, hl, q⟩ := h
    have n9 : (2 : Nat) ^ 8 ≤ 2 ^ 9000 := Nat.pow_le_pow_right (by decide) (by decide)
    refine ⟨_, (pss_cons (ps_set (i := 1) sc_law.nd rfl (Or.inr rfl) (pe_call G__law_stream (hr.mono (by decide)) (by rfl) g__law_stream kp__law_stream b__law_stream .nil pass0 (pa_cons (pv 0) pa_nil)))
      (pss_cons (ps_set (i := 2) sc_law.nd rfl (Or.inr rfl) (pe_op op_add pe_int (pe_call G__law_draw (hr.mono (by decide)) (by rfl) g__law_draw kp__law_draw b__law_draw .nil pass0 (pa_cons (pv 1) (pa_cons pe_int pa_nil)))))
      (pss_cons (ps_set (i := 3) sc_law.nd rfl (Or.inl rfl) (pe_callTy call_tuple_of (by rfl) E.b_tuple (by decide +kernel) (pa_cons (pe_op op_cat (pe_lc (own := [("k", 4)]) (g := gName 4) (tt := tYes) rfl sc_law.nd (pi_range1 (by rfl) E.b_range (pa_cons (pe_op op_sub (pv 2) pe_int) pa_nil)) (blkOk_by (N := N_law) (sc := defScope s_law) (by decide +kernel)) (fun _ _ _ _ _ => pg_name (i := 4) sc_law.nd rfl (Or.inl rfl)) (fun _ _ _ _ _ => pts_nil) (fun _ _ _ _ _ => (pe_call G__law_instruction (hr.mono (by decide)) (by rfl) g__law_instruction kp__law_instruction b__law_instruction .nil pass0 (pa_cons (pv 1) (pa_cons (pv 2) pa_nil))))) (pe_lst (pa_cons (pe_tup (pa_cons pe_str pa_nil)) pa_nil))) pa_nil)))
      (pss_cons (ps_for PassesOwn.never rfl (pi_range1 (by rfl) E.b_range (pa_cons (pv 2) pa_nil)) (pg_name (i := 5) sc_law.nd rfl (Or.inl rfl)) (pss_cons (ps_set (i := 6) sc_law.nd rfl (Or.inl rfl) (pe_call G_successors (hr.mono (by decide)) (by rfl) g_successors kp_successors b_successors .nil pass0 (pa_cons (pv 3) (pa_cons (pv 5) pa_nil))))
      (pss_one (ps_if (pw_or (pt_not (pt_val (pe_callB call_isi (by rfl) E.b_isinstance (by decide +kernel) (pa_cons (pv 6) (pa_cons (pe_ty "list" (by rfl) E.b_list (by decide +kernel)) pa_nil))))) (pw_or1 (pt_cmpR (op_neD hr.units) (pv 6) (pe_call G__law_due (hr.mono (by decide)) (by rfl) g__law_due kp__law_due b__law_due .nil pass0 (pa_cons (pv 3) (pa_cons (pv 5) pa_nil))) (nomark _)))).pt (pss_one (ps_ret pe_bl)) pss_nil))))
      (pss_one (ps_ret pe_bl)))))), ?_⟩
    refine seq_asg ?_
    refine ⟨_, rfl, a, ns, rfl, hS, hl, fun s l H1 hs hl1 s1 St1 => ?_⟩
    refine gname (seq_asg ?_)
    refine ⟨_, rfl, s, l, 40, rfl, St1, by decide, Nat.lt_of_lt_of_le (by decide) n9, fun n1 H2 n10 n11 b2 S2 => ⟨_, _, rfl, rfl, ?_⟩⟩
    obtain ⟨m, rfl⟩ : ∃ m : Nat, n1 = (m : Int) := ⟨n1.toNat, by omega⟩
    refine gname (seq_asg ?_)
    refine ⟨_, rfl, _, _, rfl, rfl, _, rfl, by omega, by omega, fun D hD => ?_⟩
    obtain ⟨os2, hos2⟩ := S2.at_s
    obtain ⟨ol2, hol2⟩ := S2.at_l
    have sD : s ≠ D := ne_of_none hos2 hD
    have lD : l ≠ D := ne_of_none hol2 hD
    have hm : ((1 : Int) + (m : Int) - 1).toNat = m := by omega
    rw [hm]
    refine lc_range (fun i H' => ∃ (xs : List V) (ds : List PyData), H' D = some (.lst xs) ∧ ImAll K (fun b => b ≠ s ∧ b ≠ D) H' xs ds ∧ (∀ d ∈ ds, InsN (1 + (m : Int)) d) ∧ xs.length = i ∧ ds.length = i ∧ Stm H' s l)
      ⟨[], [], upd_same, .nil, (fun q hq => nomatch hq), rfl, rfl, S2.put sD lD⟩ ?_ ?_
    · rintro i H4 hi ⟨xs, rs, h1, h2, h3, h4, h4', h5⟩
      refine ⟨rfl, _, rfl, _, rfl, s, l, 1 + (m : Int), rfl, h5, by omega, by omega, fun v d H6 hd b6 S6 iv => ?_⟩
      have e6 : H6 D = some (.lst xs) := b6 _ _ sD.symm h1
      have k6 : ∀ b o, (b ≠ s ∧ b ≠ D) → H6 b = some o → (upd H6 D (.lst (xs ++ [v]))) b = some o := fun b o hb e => by rw [upd_ne hb.2]; exact e
      refine ⟨xs, e6, Nat.lt_of_le_of_lt (show xs.length ≤ 1000 by omega) (by decide), xs ++ [v], rs ++ [d], upd_same, ?_, fun ds' hd' => ?_, by rw [List.length_append, h4]; rfl, by rw [List.length_append, h4']; rfl, S6.put sD lD⟩
      · refine ImAll.snoc (Im.monoAll (fun b o g x => k6 b o g (b6 b o g.1 x)) (fun _ g => g) _ _ h2) (Im.mono (fun b o g e => k6 b o g e) (fun _ g => g) _ _ (Im.mono (G' := fun b => b ≠ s ∧ b ≠ D) (fun _ _ _ e => e) (fun b g => ?_) _ _ iv))
        obtain ⟨o5, ho5⟩ := h5.at_s
        exact ⟨(fun z => by rw [z, ho5] at g; cases g), (fun z => by rw [z, h1] at g; cases g)⟩
      · rcases List.mem_append.mp hd' with z | z
        · exact h3 _ z
        · rw [List.mem_singleton.mp z]
          exact hd
    · rintro H4 ⟨xs, rs, h1, h2, h3, h4, h4', h5⟩
      refine ⟨(by show 1 ≤ sizeLine; decide), fun p np => ⟨(by show 1 ≤ sizeLine; decide), fun p2 np2 => ?_⟩⟩
      have t1 := same_upd (o := .tup [.str "proceed"]) np
      have t2 := t1.trans (same_upd (o := .lst [.ref p]) np2)
      have e2 : (upd (upd H4 p (.tup [.str "proceed"])) p2 (.lst [.ref p])) p2 = some (.lst [.ref p]) := upd_same
      have d2 : Dp K (upd (upd H4 p (.tup [.str "proceed"])) p2 (.lst [.ref p])) (.ref p) (.tuple [.str "proceed"]) := .tup (SqT.of (same_upd np2 _ _ upd_same)) (.cons (.str _) .nil)
      generalize upd (upd H4 p (.tup [.str "proceed"])) p2 (.lst [.ref p]) = H5 at t2 e2 d2 ⊢
      refine ⟨D, p2, _, _, rfl, rfl, t2 _ _ h1, e2, small_of (by show xs.length + 1 ≤ 1000; omega), fun p3 np3 => ?_⟩
      refine ⟨p3, _, rfl, .inl ⟨SqL.of upd_same, fun p4 np4 => ?_⟩⟩
      have s4 := (same_upd (o := .lst (xs ++ [.ref p])) np3).trans (same_upd (o := .tup (xs ++ [.ref p])) np4)
      have e4 : (upd (upd H5 p3 (.lst (xs ++ [.ref p]))) p4 (.tup (xs ++ [.ref p]))) p4 = some (.tup (xs ++ [.ref p])) := upd_same
      generalize upd (upd H5 p3 (.lst (xs ++ [.ref p]))) p4 (.tup (xs ++ [.ref p])) = H6 at s4 e4 ⊢
      have dc : Dp K H6 (.ref p4) (.tuple (rs ++ [.tuple [.str "proceed"]])) := .tup (SqT.of e4) (DpAll.app (dp_sameAll (t2.trans s4) _ _ (Im.dpAll _ _ h2)) (.cons (dp_same s4 _ _ d2) .nil))
      have hlen : (rs ++ [PyData.tuple [.str "proceed"]]).length = m + 1 := by rw [List.length_append, h4']; rfl
      have hall : ∀ d ∈ rs ++ [PyData.tuple [.str "proceed"]], InsN ((rs ++ [PyData.tuple [.str "proceed"]]).length : Int) d := by
        rw [hlen, show ((m + 1 : Nat) : Int) = 1 + (m : Int) by omega]
        intro d hd
        rcases List.mem_append.mp hd with z | z
        · exact h3 d z
        · rw [List.mem_singleton.mp z]
          exact .stop _ _ (by decide +kernel) (by decide +kernel)
      have hlast : ∀ j d, (rs ++ [PyData.tuple [.str "proceed"]])[j]? = some d → j + 1 < (rs ++ [PyData.tuple [.str "proceed"]]).length ∨ isStop (wordN d) = true := fun j d hd => by
        by_cases c : j < rs.length
        · exact .inl (by rw [hlen]; omega)
        · have hj := (List.getElem?_eq_some_iff.mp hd).1
          rw [hlen] at hj
          obtain rfl : j = rs.length := by omega
          rw [List.getElem?_append_right (Nat.le_refl _), Nat.sub_self] at hd
          cases hd
          exact .inr (by decide +kernel)
      generalize rs ++ [PyData.tuple [.str "proceed"]] = ds at dc hlen hall hlast
      refine gname (seq_any ?_)
      refine ⟨_, rfl, _, rfl, by omega, by omega, ?_⟩
      refine for_range (lo := 0) (n := ((1 : Int) + (m : Int)).toNat) (fun i σ H' => ∃ (v5 v6 : Option V), σ = [some (.ref a), some (.ref s), some (.int (1 + (m : Int))), some (.ref p4), none, v5, v6] ∧ Same H6 H') ⟨none, none, rfl, Same.refl H6⟩ ?_ ?_
      · rintro i σ H7 hi ⟨v5, v6, rfl, s7⟩
        have him : i < ds.length := by omega
        obtain ⟨d, hd⟩ : ∃ d, ds[i]? = some d := ⟨_, List.getElem?_eq_getElem him⟩
        have hdn := hall d (List.mem_of_getElem? hd)
        refine gname (seq_asg ?_)
        rw [Int.zero_add]
        refine ⟨_, rfl, _, rfl, .ref p4, i, ds, d, rfl, dp_same s7 _ _ dc, hd, hdn, hlast i d hd, fun v1 H8 s8 d1 => ?_⟩
        refine gname ?_
        refine ⟨_, rfl, _, _, _, _, _, rfl, .ty _, tyx_of d1, kit_ty (kitL _), _, rfl, iteF ?_⟩
        refine ⟨_, rfl, _, rfl, _, rfl, .ref p4, i, ds, d, rfl, dp_same (s7.trans s8) _ _ dc, hd, hdn, fun v2 H9 s9 d2 => ?_⟩
        refine ⟨_, _, dp_same s9 _ _ d1, d2, ints_shaped _, ints_shaped _, _, rfl, ?_⟩
        rw [ints_eqv]
        exact iteF ⟨_, _, rfl, (s7.trans s8).trans s9⟩
      · rintro σ H7 ⟨v5, v6, rfl, s7⟩
        exact nxp (q _)

end
/-! ### the end -/
theorem all_mk {l : PySem.W.OpenLaw} {w : World} {K : PySem.W.Frag} {h : Heap} {mg : Str → Option Value} {fa f1 f2 f3 f4 f5 f6 : Addr} (X : K.In h) (G : h.Ns mainGlobals mg) (hfa : mg "law" = some (.ref fa))
    {od1 an1 od2 an2 od3 an3 od4 an4 od5 an5 od6 an6 : Option Addr} {sl1 sl2 sl3 sl4 sl5 sl6 : Array (Option Value)} {oc1 kV1 dc1 pm1 cd1 ct1 oc2 kV2 dc2 pm2 cd2 ct2 oc3 kV3 dc3 pm3 cd3 ct3 oc4 kV4 dc4 pm4 cd4 ct4 oc5 kV5 dc5 pm5 cd5 ct5 oc6 kV6 dc6 pm6 cd6 ct6 : Value}

    (a1 : PySem.W.nsIn K mainGlobals "successors" = some (some (.ref f1))) (l1 : K.lookup f1 = some ⟨oc1, od1, .func (PySem.W.fnOf "successors" "successors" (defArgs s_successors) (defBody s_successors) (defScope s_successors) .none kV1 dc1 pm1 an1 cd1 ct1), sl1⟩) (c1 : PySem.W.codeIn K cd1 "successors" = true) (k1 : PySem.W.keepIn K (.ref f1) = true)
    (a2 : PySem.W.nsIn K mainGlobals "_law_stream" = some (some (.ref f2))) (l2 : K.lookup f2 = some ⟨oc2, od2, .func (PySem.W.fnOf "_law_stream" "_law_stream" (defArgs s__law_stream) (defBody s__law_stream) (defScope s__law_stream) .none kV2 dc2 pm2 an2 cd2 ct2), sl2⟩) (c2 : PySem.W.codeIn K cd2 "_law_stream" = true) (k2 : PySem.W.keepIn K (.ref f2) = true)
    (a3 : PySem.W.nsIn K mainGlobals "_law_draw" = some (some (.ref f3))) (l3 : K.lookup f3 = some ⟨oc3, od3, .func (PySem.W.fnOf "_law_draw" "_law_draw" (defArgs s__law_draw) (defBody s__law_draw) (defScope s__law_draw) .none kV3 dc3 pm3 an3 cd3 ct3), sl3⟩) (c3 : PySem.W.codeIn K cd3 "_law_draw" = true) (k3 : PySem.W.keepIn K (.ref f3) = true)
    (a4 : PySem.W.nsIn K mainGlobals "_law_instruction" = some (some (.ref f4))) (l4 : K.lookup f4 = some ⟨oc4, od4, .func (PySem.W.fnOf "_law_instruction" "_law_instruction" (defArgs s__law_instruction) (defBody s__law_instruction) (defScope s__law_instruction) .none kV4 dc4 pm4 an4 cd4 ct4), sl4⟩) (c4 : PySem.W.codeIn K cd4 "_law_instruction" = true) (k4 : PySem.W.keepIn K (.ref f4) = true)
    (a5 : PySem.W.nsIn K mainGlobals "_law_due" = some (some (.ref f5))) (l5 : K.lookup f5 = some ⟨oc5, od5, .func (PySem.W.fnOf "_law_due" "_law_due" (defArgs s__law_due) (defBody s__law_due) (defScope s__law_due) .none kV5 dc5 pm5 an5 cd5 ct5), sl5⟩) (c5 : PySem.W.codeIn K cd5 "_law_due" = true) (k5 : PySem.W.keepIn K (.ref f5) = true)
    (a6 : PySem.W.nsIn K mainGlobals "law" = some (some (.ref f6))) (l6 : K.lookup f6 = some ⟨oc6, od6, .func (PySem.W.fnOf "law" "law" (defArgs s_law) (defBody s_law) (defScope s_law) .none kV6 dc6 pm6 an6 cd6 ct6), sl6⟩) (c6 : PySem.W.codeIn K cd6 "law" = true) (k6 : PySem.W.keepIn K (.ref f6) = true)
    (z0 : PySem.W.nsIn K mainGlobals "abs" = some none)
    (z1 : PySem.W.nsIn K mainGlobals "int" = some none)
    (z2 : PySem.W.nsIn K mainGlobals "isinstance" = some none)
    (z3 : PySem.W.nsIn K mainGlobals "len" = some none)
    (z4 : PySem.W.nsIn K mainGlobals "list" = some none)
    (z5 : PySem.W.nsIn K mainGlobals "range" = some none)
    (z6 : PySem.W.nsIn K mainGlobals "sorted" = some none)
    (z7 : PySem.W.nsIn K mainGlobals "tuple" = some none)
    {kt2 : Tok} {kt3 : Tok} {kt4 : Tok} {ka1 : Addr} {kd1 : Option Addr} {kn1 : Nat} {ks1 : Array (Option Value)}
    (y0 : PySem.W.nsIn K mainGlobals "LAST" = some (some (.ref ka1)))
    (kh1 : K.lookup ka1 = some ⟨.type "tuple", kd1, .seq #[.str "execute" kt2, .str "proceed" kt3, .str "fail" kt4] kn1, ks1⟩)
    : ∃ fd : FuncData, (∀ (s : Shared) (v : Value), BindsTo s fd ⟨[v], []⟩ [("script", v)]) ∧ ∀ base : Heap, K.In base → base.Ns mainGlobals mg → FnOk l.prog w K mg base CX0 3 fa fd ["script"] (sp_law K) := by
  have e := hfa.symm.trans (PySem.W.mg_of X G a6)
  cases e
  have F1 := fun_mk (st := s_successors) l1 c1 k1
  have b1 := F1.binds (ps := ["code", "at"]) fun _ _ _ _ _ _ us hl => match us, hl with | [_, _], _ => rfl
  have F2 := fun_mk (st := s__law_stream) l2 c2 k2
  have b2 := F2.binds (ps := ["script"]) fun _ _ _ _ _ _ us hl => match us, hl with | [_], _ => rfl
  have F3 := fun_mk (st := s__law_draw) l3 c3 k3
  have b3 := F3.binds (ps := ["stream", "many"]) fun _ _ _ _ _ _ us hl => match us, hl with | [_, _], _ => rfl
  have F4 := fun_mk (st := s__law_instruction) l4 c4 k4
  have b4 := F4.binds (ps := ["stream", "size"]) fun _ _ _ _ _ _ us hl => match us, hl with | [_, _], _ => rfl
  have F5 := fun_mk (st := s__law_due) l5 c5 k5
  have b5 := F5.binds (ps := ["code", "at"]) fun _ _ _ _ _ _ us hl => match us, hl with | [_, _], _ => rfl
  have F6 := fun_mk (st := s_law) l6 c6 k6
  have E : Bi K mg := ⟨PySem.W.mg_none_of X G z0, PySem.W.mg_none_of X G z1, PySem.W.mg_none_of X G z2, PySem.W.mg_none_of X G z3, PySem.W.mg_none_of X G z4, PySem.W.mg_none_of X G z5, PySem.W.mg_none_of X G z6, PySem.W.mg_none_of X G z7, ⟨_, _, PySem.W.mg_of X G y0, (relRef _), (kt_of kh1 (by show 3 ≤ 1000; decide) (.cons (relStr _ _) (.cons (relStr _ _) (.cons (relStr _ _) .nil))) (.cons (.str _) (.cons (.str _) (.cons (.str _) .nil))))⟩⟩
  refine ⟨PySem.W.fnOf "law" "law" (defArgs s_law) (defBody s_law) (defScope s_law) .none kV6 dc6 pm6 an6 cd6 ct6, fun s v => .of_eq rfl, fun base _ _ => ?_⟩
  have D1 : Has l.prog w K mg base 1 "successors" ["code", "at"] (sp_successors K) := ⟨_, _, ok_successors F1 E , PySem.W.mg_of X G a1, k1, b1⟩
  have D2 : Has l.prog w K mg base 1 "_law_stream" ["script"] (sp__law_stream K) := ⟨_, _, ok__law_stream F2 E , PySem.W.mg_of X G a2, k2, b2⟩
  have D3 : Has l.prog w K mg base 1 "_law_draw" ["stream", "many"] (sp__law_draw K) := ⟨_, _, ok__law_draw F3 E , PySem.W.mg_of X G a3, k3, b3⟩
  have D5 : Has l.prog w K mg base 1 "_law_due" ["code", "at"] (sp__law_due K) := ⟨_, _, ok__law_due F5 E , PySem.W.mg_of X G a5, k5, b5⟩
  have D4 : Has l.prog w K mg base 2 "_law_instruction" ["stream", "size"] (sp__law_instruction K) := ⟨_, _, ok__law_instruction F4 E D3, PySem.W.mg_of X G a4, k4, b4⟩
  exact ok_law F6 E D2 D3 D4 D1 D5
end My
open PySem PySem.W PyProof.Rows
set_option maxRecDepth 100000 in
set_option maxHeartbeats 0 in
theorem PySem.Challenge.cw_hornbook_k62_successors_holds : PySem.Challenge.rw_hornbook_k62_successors.Holds := by
  w_on; o_law; k_head; (case hw => w_witness2)
  k_fill
  refine L2.walk_of (l := PySem.Challenge.rw_hornbook_k62_successors) (n := 63) (k := 3) (x := "script") (CX := fun _ => L2.CX0) (sp := fun w => My.sp_law _) rfl (by decide) rfl ⟨rfl, by decide, by decide⟩ (fun w h Y => PySem.W.kIn_of Y) ?F (fun _ _ a ns hl _ hS => ⟨a, ns, rfl, hS, hl, fun _ => rfl⟩) (fun _ _ _ _ _ h => h)
  case F =>
    intro w mg fa h KX G hmg
    refine' My.all_mk KX G hmg ?a1 ?l1 ?c1 ?k1 ?a2 ?l2 ?c2 ?k2 ?a3 ?l3 ?c3 ?k3 ?a4 ?l4 ?c4 ?k4 ?a5 ?l5 ?c5 ?k5 ?a6 ?l6 ?c6 ?k6 ?z0 ?z1 ?z2 ?z3 ?z4 ?z5 ?z6 ?z7 ?y0 ?kh1
    (case a1 => k_is)
    (case l1 => k_is)
    (case c1 => k_is)
    (case k1 => k_is)
    (case a2 => k_is)
    (case l2 => k_is)
    (case c2 => k_is)
    (case k2 => k_is)
    (case a3 => k_is)
    (case l3 => k_is)
    (case c3 => k_is)
    (case k3 => k_is)
    (case a4 => k_is)
    (case l4 => k_is)
    (case c4 => k_is)
    (case k4 => k_is)
    (case a5 => k_is)
    (case l5 => k_is)
    (case c5 => k_is)
    (case k5 => k_is)
    (case a6 => k_is)
    (case l6 => k_is)
    (case c6 => k_is)
    (case k6 => k_is)
    (case z0 => k_is)
    (case z1 => k_is)
    (case z2 => k_is)
    (case z3 => k_is)
    (case z4 => k_is)
    (case z5 => k_is)
    (case z6 => k_is)
    (case z7 => k_is)
    (case y0 => k_is)
    (case kh1 => k_is)
