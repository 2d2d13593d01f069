import PyProof.Rows.All
import Wide.All
import OpenK.AllK
import Wide.FinOn
import HandS.ForMost
import HandS.IsInst
import HandS.Wide
import HandS.Codes
import HandS.Style
import HandS.TupLe
import HandS.TupAny
import HandS.EndBits
import HandS.Walk
import HandS.Zip
import KE.LtData
import HandS.SetKeys
import HandS.WordsDict
import HandS.DictComp
import HandS.More
import PySem.Challenge.RW_hornbook_k49_table_order
set_option Elab.async false
set_option linter.all false
set_option maxRecDepth 100000
set_option maxHeartbeats 4000000
set_option exponentiation.threshold 10000
namespace My
open PySem PySem.Spec PyProof.Rows L2
/-- a def of the text that keeps a promise, as its callers want it -/
def Has (P : Program) (w : World) (K : PySem.W.Frag) (mg : Str → Option Value) (base : Heap) (k : Nat) (x : Str) (ps : List Str) (sp : Sp) : Prop :=
  ∃ (f : Addr) (fd : FuncData), FnOk P w K mg base CX0 k f fd ps sp ∧ mg x = some (.ref f) ∧ PySem.W.keepIn K (.ref f) = true ∧ Binds K fd ps []
theorem same_upd {H : Hp} {p : Addr} {o : HO} (h : H p = none) : Same H (upd H p o) := fun b x e => by
  rw [upd_ne (ne_of_none e h)]
  exact e
/-- all but the object at s is as it was -/
def But (s : Addr) (H H' : Hp) : Prop := ∀ b o, b ≠ s → H b = some o → H' b = some o
theorem But.refl (s : Addr) (H : Hp) : But s H H := fun _ _ _ e => e
theorem But.trans {s : Addr} {H H1 H2 : Hp} (a : But s H H1) (b : But s H1 H2) : But s H H2 := fun c o hc e => b c o hc (a c o hc e)
theorem But.of {s : Addr} {H H' : Hp} (a : Same H H') : But s H H' := fun b o _ e => a b o e
theorem But.put {s : Addr} {H : Hp} {o : HO} : But s H (upd H s o) := fun b u hb e => by rw [upd_ne hb]; exact e
/-! ### what a value is -/
mutual
inductive Im (K : PySem.W.Frag) (G : Addr → Prop) (H : Hp) : V → PyData → Prop
  | non : Im K G H .non .none
  | bl (b : Bool) : Im K G H (.bl b) (.bool b)
  | int (i : Int) : Im K G H (.int i) (.int i)
  | str (x : Str) : Im K G H (.str x) (.str x)
  | lst {a : Addr} {xs : List V} {ds : List PyData} : G a → H a = some (.lst xs) → ImAll K G H xs ds → Im K G H (.ref a) (.list ds)
  | tup {a : Addr} {xs : List V} {ds : List PyData} : G a → H a = some (.tup xs) → ImAll K G H xs ds → Im K G H (.ref a) (.tuple ds)
inductive ImAll (K : PySem.W.Frag) (G : Addr → Prop) (H : Hp) : List V → List PyData → Prop
  | nil : ImAll K G H [] []
  | cons {v : V} {vs : List V} {d : PyData} {ds : List PyData} : Im K G H v d → ImAll K G H vs ds → ImAll K G H (v :: vs) (d :: ds)
end
section
variable {K : PySem.W.Frag} {G G' : Addr → Prop} {H H' : Hp}
mutual
theorem Im.mono (hH : ∀ b o, G b → H b = some o → H' b = some o) (hG : ∀ b, G b → G' b) : ∀ (d : PyData) (v : V), Im K G H v d → Im K G' H' v d
  | .none, _, h => by cases h; exact .non
  | .bool b, _, h => by cases h; exact .bl b
  | .int i, _, h => by cases h; exact .int i
  | .str x, _, h => by cases h; exact .str x
  | .list ds, _, h => by
    cases h with
    | lst g e ha => exact .lst (hG _ g) (hH _ _ g e) (Im.monoAll hH hG ds _ ha)
  | .tuple ds, _, h => by
    cases h with
    | tup g e ha => exact .tup (hG _ g) (hH _ _ g e) (Im.monoAll hH hG ds _ ha)
  | .dict _, _, h => by cases h
theorem Im.monoAll (hH : ∀ b o, G b → H b = some o → H' b = some o) (hG : ∀ b, G b → G' b) : ∀ (ds : List PyData) (vs : List V), ImAll K G H vs ds → ImAll K G' H' vs ds
  | [], _, h => by cases h; exact .nil
  | d :: ds, _, h => by
    cases h with
    | cons h1 h2 => exact .cons (Im.mono hH hG d _ h1) (Im.monoAll hH hG ds _ h2)
end
mutual
theorem Im.dp : ∀ (d : PyData) (v : V), Im K G H v d → Dp K H v d
  | .none, _, h => by cases h; exact .non
  | .bool b, _, h => by cases h; exact .bl b
  | .int i, _, h => by cases h; exact .int i
  | .str x, _, h => by cases h; exact .str x
  | .list ds, _, h => by
    cases h with
    | lst g e ha => exact .lst (SqL.of e) (Im.dpAll ds _ ha)
  | .tuple ds, _, h => by
    cases h with
    | tup g e ha => exact .tup (SqT.of e) (Im.dpAll ds _ ha)
  | .dict _, _, h => by cases h
theorem Im.dpAll : ∀ (ds : List PyData) (vs : List V), ImAll K G H vs ds → DpAll K H vs ds
  | [], _, h => by cases h; exact .nil
  | d :: ds, _, h => by
    cases h with
    | cons h1 h2 => exact .cons (Im.dp d _ h1) (Im.dpAll ds _ h2)
end
theorem ImAll.len : ∀ {vs : List V} {ds : List PyData}, ImAll K G H vs ds → vs.length = ds.length
  | _, _, .nil => rfl
  | _, _, .cons _ t => congrArg (· + 1) (ImAll.len t)
theorem ImAll.get : ∀ {vs : List V} {ds : List PyData} {i : Nat} {d : PyData}, ImAll K G H vs ds → ds[i]? = some d → ∃ v, vs[i]? = some v ∧ Im K G H v d
  | _, _, _, _, .nil, e => by simp at e
  | _, _, 0, _, .cons r _, e => by simp at e; subst e; exact ⟨_, rfl, r⟩
  | _, _, i + 1, _, .cons _ t, e => by
    obtain ⟨u, h1, h2⟩ := ImAll.get (i := i) t (by simpa using e)
    exact ⟨u, by simpa using h1, h2⟩
theorem ImAll.getV : ∀ {vs : List V} {ds : List PyData} {i : Nat} {v : V}, ImAll K G H vs ds → vs[i]? = some v → ∃ d, ds[i]? = some d ∧ Im K G H v d
  | _, _, _, _, .nil, e => by simp at e
  | _, _, 0, _, .cons r _, e => by simp at e; subst e; exact ⟨_, rfl, r⟩
  | _, _, i + 1, _, .cons _ t, e => by
    obtain ⟨u, h1, h2⟩ := ImAll.getV (i := i) t (by simpa using e)
    exact ⟨u, by simpa using h1, h2⟩
theorem ImAll.snoc : ∀ {vs : List V} {ds : List PyData} {v : V} {d : PyData}, ImAll K G H vs ds → Im K G H v d → ImAll K G H (vs ++ [v]) (ds ++ [d])
  | _, _, _, _, .nil, r => .cons r .nil
  | _, _, _, _, .cons q t, r => .cons q (ImAll.snoc t r)
theorem ImAll.app : ∀ {vs : List V} {ds : List PyData} {us : List V} {es : List PyData}, ImAll K G H vs ds → ImAll K G H us es → ImAll K G H (vs ++ us) (ds ++ es)
  | _, _, _, _, .nil, r => r
  | _, _, _, _, .cons q t, r => .cons q (ImAll.app t r)
end
section
variable {K : PySem.W.Frag} {H : Hp}
theorem DpAll.len : ∀ {vs : List V} {ds : List PyData}, DpAll K H vs ds → vs.length = ds.length
  | _, _, .nil => rfl
  | _, _, .cons _ t => congrArg (· + 1) (DpAll.len t)
theorem DpAll.get : ∀ {vs : List V} {ds : List PyData} {i : Nat} {d : PyData}, DpAll K H vs ds → ds[i]? = some d → ∃ v, vs[i]? = some v ∧ Dp K H v d
  | _, _, _, _, .nil, e => by simp at e
  | _, _, 0, _, .cons r _, e => by simp at e; subst e; exact ⟨_, rfl, r⟩
  | _, _, i + 1, _, .cons _ t, e => by
    obtain ⟨u, h1, h2⟩ := DpAll.get (i := i) t (by simpa using e)
    exact ⟨u, by simpa using h1, h2⟩
/-- the name of a value's class -/
def tyN : PyData → String
  | .none => "NoneType" | .bool _ => "bool" | .int _ => "int" | .str _ => "str" | .list _ => "list" | .tuple _ => "tuple" | .dict _ => "dict"
theorem tyx_of : ∀ {x : V} {d : PyData}, Dp K H x d → TyX K H x (.type (tyN d))
  | _, _, .non => .base .non
  | _, _, .bl b => .base (.bl b)
  | _, _, .int i => .base (.int i)
  | _, _, .str x => .base (.str x)
  | _, _, .lst h _ => by
    rcases h with (h | ⟨o, h⟩) | ⟨o, its, n, hk, hc, _⟩
    · exact .base (.lst h)
    · exact .base (.frz h)
    · exact .kList hk hc
  | _, _, .tup h _ => by
    rcases h with (h | ⟨o, h⟩) | ⟨o, its, n, hk, hc, _⟩
    · exact .base (.tup h)
    · exact .fTuple h
    · exact .kTuple hk hc
def isI : PyData → Bool
  | .int _ => true | .bool _ => true | _ => false
def isB : PyData → Bool
  | .bool _ => true | _ => false
def isS : PyData → Bool
  | .str _ => true | _ => false
def isT : PyData → Bool
  | .tuple _ => true | _ => false
def isL : PyData → Bool
  | .list _ => true | _ => false
theorem kitI (d : PyData) : kitB (tyN d) "int" = some (isI d) := by cases d <;> (show kitB _ "int" = _; simp only [tyN, isI]; decide +kernel)
theorem kitBo (d : PyData) : kitB (tyN d) "bool" = some (isB d) := by cases d <;> (show kitB _ "bool" = _; simp only [tyN, isB]; decide +kernel)
theorem kitS (d : PyData) : kitB (tyN d) "str" = some (isS d) := by cases d <;> (show kitB _ "str" = _; simp only [tyN, isS]; decide +kernel)
theorem kitT (d : PyData) : kitB (tyN d) "tuple" = some (isT d) := by cases d <;> (show kitB _ "tuple" = _; simp only [tyN, isT]; decide +kernel)
theorem kitL (d : PyData) : kitB (tyN d) "list" = some (isL d) := by cases d <;> (show kitB _ "list" = _; simp only [tyN, isL]; decide +kernel)
theorem isi_int {x : V} {d : PyData} {Q : VK} (h : Dp K H x d) (q : Q (.bl (isI d)) H) : rIsi K [x, .ty "int"] H Q := ⟨x, .ty "int", _, _, _, rfl, .ty _, tyx_of h, kit_ty (kitI d), q⟩
theorem isi_bool {x : V} {d : PyData} {Q : VK} (h : Dp K H x d) (q : Q (.bl (isB d)) H) : rIsi K [x, .ty "bool"] H Q := ⟨x, .ty "bool", _, _, _, rfl, .ty _, tyx_of h, kit_ty (kitBo d), q⟩
theorem isi_str {x : V} {d : PyData} {Q : VK} (h : Dp K H x d) (q : Q (.bl (isS d)) H) : rIsi K [x, .ty "str"] H Q := ⟨x, .ty "str", _, _, _, rfl, .ty _, tyx_of h, kit_ty (kitS d), q⟩
theorem isi_tup {x : V} {d : PyData} {Q : VK} (h : Dp K H x d) (q : Q (.bl (isT d)) H) : rIsi K [x, .ty "tuple"] H Q := ⟨x, .ty "tuple", _, _, _, rfl, .ty _, tyx_of h, kit_ty (kitT d), q⟩
theorem isi_list {x : V} {d : PyData} {Q : VK} (h : Dp K H x d) (q : Q (.bl (isL d)) H) : rIsi K [x, .ty "list"] H Q := ⟨x, .ty "list", _, _, _, rfl, .ty _, tyx_of h, kit_ty (kitL d), q⟩
end
/-! ### the stream of draws -/
structure Stm (H : Hp) (s l : Addr) : Prop where
  ex : ∃ (a b m : Int) (ns : List Int), H s = some (.lst [.ref l, .int a, .int b, .int m]) ∧ H l = some (.lst (ns.map V.int)) ∧ ns.length ≤ 63 ∧ 0 ≤ a ∧ 0 ≤ b ∧ 0 ≤ m ∧ m < 2147483647
theorem Stm.keep {H H' : Hp} {s l : Addr} (h : Stm H s l) (e : Same H H') : Stm H' s l := by
  obtain ⟨a, b, m, ns, h1, h2, r⟩ := h.ex
  exact ⟨a, b, m, ns, e _ _ h1, e _ _ h2, r⟩
/-- another object is changed -/
theorem Stm.put {H : Hp} {s l r : Addr} {o : HO} (h : Stm H s l) (h1 : s ≠ r) (h2 : l ≠ r) : Stm (upd H r o) s l := by
  obtain ⟨a, b, m, ns, e1, e2, q⟩ := h.ex
  exact ⟨a, b, m, ns, by rw [upd_ne h1]; exact e1, by rw [upd_ne h2]; exact e2, q⟩
theorem Stm.at_s {H : Hp} {s l : Addr} (h : Stm H s l) : ∃ o, H s = some o := by
  obtain ⟨a, b, m, ns, e1, e2, q⟩ := h.ex
  exact ⟨_, e1⟩
theorem Stm.at_l {H : Hp} {s l : Addr} (h : Stm H s l) : ∃ o, H l = some o := by
  obtain ⟨a, b, m, ns, e1, e2, q⟩ := h.ex
  exact ⟨_, e2⟩
/-- a constant of the module -/
def GV (mg : Str → Option Value) (x : Str) (v : V) : Prop := ∃ u, mg x = some u ∧ RelV v u
theorem pe_gC {X : Cx} {x : Str} {v : V} {pos : Pos} (hg : Gl X x) (h : GV X.mg x v) (hd : (x == ("__debug__" : Str)) = false := by decide) : PE X (.Name x pos) (tC v) := by
  obtain ⟨u, e, r⟩ := h
  exact pe_glob hg e r hd

/-! ### 'a' * 40 -/
section
variable {X : Cx}
theorem op_mulS : OpR X (binaryOp .Mult) (fun x y H Q => ∃ z i, x = .str z ∧ y = .int i ∧ MulOk z i ∧ Q (.str (Txt.mul z i)) H) := by
  intro pins s σ H x y v u Q I rx ry h
  obtain ⟨z, i, rfl, rfl, hk, q⟩ := h
  obtain ⟨t, rfl⟩ := rx
  obtain ⟨t', rfl⟩ := ry
  exact SB.mul hk fun t2 k => ⟨.str _, H, I.tok k, ⟨_, rfl⟩, q⟩
end
/-! ### data written out: each part of it is new -/
section
variable {K : PySem.W.Frag}
/-- an expression that makes data and changes nothing else -/
def Lit (K : PySem.W.Frag) (σ : L2.St) (t : TE) (d : PyData) : Prop := ∀ (H : Hp) (Q : VK), (∀ v H', Same H H' → Im K (fun b => H b = Option.none) H' v d → Q v H') → t σ H Q
def LitA (K : PySem.W.Frag) (σ : L2.St) (t : TA) (ds : List PyData) : Prop := ∀ (H : Hp) (Q : List V → Hp → Prop), (∀ vs H', Same H H' → ImAll K (fun b => H b = Option.none) H' vs ds → Q vs H') → t σ H Q
variable {σ : L2.St}
theorem lit_int {i : Int} : Lit K σ (tC (.int i)) (.int i) := fun H Q h => h _ H (Same.refl H) (.int i)
theorem lit_str {x : Str} : Lit K σ (tC (.str x)) (.str x) := fun H Q h => h _ H (Same.refl H) (.str x)
theorem lit_bl {b : Bool} : Lit K σ (tC (.bl b)) (.bool b) := fun H Q h => h _ H (Same.refl H) (.bl b)
theorem lit_non : Lit K σ (tC .non) .none := fun H Q h => h _ H (Same.refl H) .non
theorem litA_nil : LitA K σ tNil [] := fun H Q h => h _ H (Same.refl H) .nil
theorem litA_cons {t : TE} {ta : TA} {d : PyData} {ds : List PyData} (h1 : Lit K σ t d) (h2 : LitA K σ ta ds) : LitA K σ (tCons t ta) (d :: ds) := fun H Q h =>
  h1 H _ fun v H1 s1 i1 => h2 H1 _ fun vs H2 s2 i2 => h _ H2 (s1.trans s2) (.cons (Im.mono (fun b o _ e => s2 b o e) (fun _ e => e) _ _ i1) (Im.monoAll (fun _ _ _ e => e) (fun b e => s1.free e) _ _ i2))
theorem lit_tup {ta : TA} {ds : List PyData} (h1 : LitA K σ ta ds) (hz : ds.length ≤ sizeLine) : Lit K σ (tTup ta) (.tuple ds) := fun H Q h =>
  h1 H _ fun vs H1 s1 i1 => ⟨by rw [i1.len]; exact hz, fun p np => h _ _ (s1.trans (same_upd np)) (.tup (s1.free np) upd_same (Im.monoAll (fun b o _ e => same_upd np b o e) (fun _ e => e) _ _ i1))⟩
theorem lit_lst {ta : TA} {ds : List PyData} (h1 : LitA K σ ta ds) (hz : ds.length ≤ sizeLine) : Lit K σ (tLst ta) (.list ds) := fun H Q h =>
  h1 H _ fun vs H1 s1 i1 => ⟨by rw [i1.len]; exact hz, fun p np => h _ _ (s1.trans (same_upd np)) (.lst (s1.free np) upd_same (Im.monoAll (fun b o _ e => same_upd np b o e) (fun _ e => e) _ _ i1))⟩
/-- what is an int -/
theorem lit_neg {t : TE} {i : Int} (h1 : Lit K σ t (.int i)) : Lit K σ (tUn (rU fun i => .int (-i)) t) (.int (-i)) := fun H Q h =>
  h1 H _ fun v H1 s1 i1 => by
    cases i1
    exact ⟨_, rfl, h _ H1 s1 (.int _)⟩
theorem lit_sub {t u : TE} {i j : Int} (h1 : Lit K σ t (.int i)) (h2 : Lit K σ u (.int j)) : Lit K σ (tOp (rI0 fun i j => .int (i - j)) t u) (.int (i - j)) := fun H Q h =>
  h1 H _ fun v H1 s1 i1 => h2 H1 _ fun v2 H2 s2 i2 => by
    cases i1
    cases i2
    exact ⟨_, _, rfl, rfl, h _ H2 (s1.trans s2) (.int _)⟩
theorem lit_pow {t u : TE} {i j : Int} (h1 : Lit K σ t (.int i)) (h2 : Lit K σ u (.int j)) (hc : CPow i j) : Lit K σ (tOp (rI CPow fun i j => .int (i ^ j.toNat)) t u) (.int (i ^ j.toNat)) := fun H Q h =>
  h1 H _ fun v H1 s1 i1 => h2 H1 _ fun v2 H2 s2 i2 => by
    cases i1
    cases i2
    exact ⟨_, _, rfl, rfl, hc, h _ H2 (s1.trans s2) (.int _)⟩
theorem lit_mulS {t u : TE} {z : Str} {j : Int} (h1 : Lit K σ t (.str z)) (h2 : Lit K σ u (.int j)) (hc : MulOk z j) : Lit K σ (tOp (fun x y H Q => ∃ z i, x = .str z ∧ y = .int i ∧ MulOk z i ∧ Q (.str (Txt.mul z i)) H) t u) (.str (Txt.mul z j)) := fun H Q h =>
  h1 H _ fun v H1 s1 i1 => h2 H1 _ fun v2 H2 s2 i2 => by
    cases i1
    cases i2
    exact ⟨_, _, rfl, rfl, hc, h _ H2 (s1.trans s2) (.str _)⟩
end
section
variable {X : Cx} {pos : Pos}
/-- a built-in class as a value -/
theorem pe_ty {x : Str} (n : String) (hg : Gl X x) (hm : X.mg x = Option.none) (hv : bootBuiltins x = some (.type n)) (hn : x ≠ "__name__" := by decide) (hd : (x == ("__debug__" : Str)) = false := by decide) : PE X (.Name x pos) (tC (.ty n)) :=
  pe_bltn hg hm hv rfl hn hd
end
section
variable {K : PySem.W.Frag} {H H' : Hp}
theorem same_sqT {a : Addr} {xs : List V} (e : Same H H') (h : SqT K H a xs) : SqT K H' a xs := by
  rcases h with (h | ⟨o, h⟩) | h
  · exact .inl (.inl (e _ _ h))
  · exact .inl (.inr ⟨o, e _ _ h⟩)
  · exact .inr h
mutual
theorem dp_same (e : Same H H') : ∀ (d : PyData) (v : V), Dp K H v d → Dp K H' v d
  | .none, _, h => by cases h; exact .non
  | .bool b, _, h => by cases h; exact .bl b
  | .int i, _, h => by cases h; exact .int i
  | .str x, _, h => by cases h; exact .str x
  | .list ds, _, h => by
    cases h with
    | lst g ha => exact .lst (e.seq g) (dp_sameAll e ds _ ha)
  | .tuple ds, _, h => by
    cases h with
    | tup g ha => exact .tup (same_sqT e g) (dp_sameAll e ds _ ha)
  | .dict _, _, h => by cases h
theorem dp_sameAll (e : Same H H') : ∀ (ds : List PyData) (vs : List V), DpAll K H vs ds → DpAll K H' vs ds
  | [], _, h => by cases h; exact .nil
  | d :: ds, _, h => by
    cases h with
    | cons h1 h2 => exact .cons (dp_same e d _ h1) (dp_sameAll e ds _ h2)
end
end
theorem small_of {n : Nat} (h : n ≤ 1000) : n ≤ sizeLine := Nat.le_of_lt (small1000 h)
theorem seq_asg {te : TE} {g : TG} {u : TS} {D : Ends} {σ : L2.St} {H : Hp} (h : te σ H fun x H1 => g x σ H1 (u D)) : tSeq (tAsg te g) u D σ H := h
theorem gname {i : Nat} {v : V} {σ : L2.St} {H : Hp} {Q : L2.St → Hp → Prop} (h : Q (σ.set i (some v)) H) : gName i v σ H Q := h
theorem nxp {N : L2.St → Hp → Prop} {R : VK} {B C : L2.St → Hp → Prop} {σ : L2.St} {H : Hp} (h : N σ H) : ({ nx := N, rt := R, bk := B, ct := C } : Ends).nx σ H := h
theorem seq_if {c : TT} {t t2 : TS} {u : TS} {D : Ends} {σ : L2.St} {H : Hp} (h : c σ H fun b H1 => if b = true then t { D with nx := u D } σ H1 else t2 { D with nx := u D } σ H1) : tSeq (tIfS c t t2) u D σ H := h
theorem seq_ifN {c : TT} {t : TS} {u : TS} {D : Ends} {σ : L2.St} {H : Hp} (h : c σ H fun b H1 => if b = true then t { D with nx := u D } σ H1 else u D σ H1) : tSeq (tIfS c t tNext) u D σ H := h
theorem seq_any {t : TS} {u : TS} {D : Ends} {σ : L2.St} {H : Hp} (h : t { D with nx := u D } σ H) : tSeq t u D σ H := h
theorem asg1 {te : TE} {g : TG} {D : Ends} {σ : L2.St} {H : Hp} (h : te σ H fun x H1 => g x σ H1 D.nx) : tAsg te g D σ H := h
section
variable {K : PySem.W.Frag} {G G' : Addr → Prop} {H H' : Hp}
mutual
theorem Im.mono2 (hH : ∀ b o, G b → H b = some o → H' b = some o) (hG : ∀ b o, H b = some o → G b → G' b) : ∀ (d : PyData) (v : V), Im K G H v d → Im K G' H' v d
  | .none, _, h => by cases h; exact .non
  | .bool b, _, h => by cases h; exact .bl b
  | .int i, _, h => by cases h; exact .int i
  | .str x, _, h => by cases h; exact .str x
  | .list ds, _, h => by
    cases h with
    | lst g e ha => exact .lst (hG _ _ e g) (hH _ _ g e) (Im.mono2All hH hG ds _ ha)
  | .tuple ds, _, h => by
    cases h with
    | tup g e ha => exact .tup (hG _ _ e g) (hH _ _ g e) (Im.mono2All hH hG ds _ ha)
  | .dict _, _, h => by cases h
theorem Im.mono2All (hH : ∀ b o, G b → H b = some o → H' b = some o) (hG : ∀ b o, H b = some o → G b → G' b) : ∀ (ds : List PyData) (vs : List V), ImAll K G H vs ds → ImAll K G' H' vs ds
  | [], _, h => by cases h; exact .nil
  | d :: ds, _, h => by
    cases h with
    | cons h1 h2 => exact .cons (Im.mono2 hH hG d _ h1) (Im.mono2All hH hG ds _ h2)
end
end
theorem join_set {c : Prop} [Decidable c] {v : V} {i : Nat} {u : TS} {D : Ends} {σ : L2.St} {H : Hp} (P : L2.St → Prop) (h : ∀ σ2, P σ2 → u D σ2 H) (h1 : c → P (σ.set i (some v))) (h2 : ¬ c → P σ) :
    if c then tAsg (tC v) (gName i) { D with nx := u D } σ H else u D σ H := by
  by_cases hc : c
  · rw [if_pos hc]
    exact h _ (h1 hc)
  · rw [if_neg hc]
    exact h _ (h2 hc)
/-- a constant tuple of the module, by its data -/
def GC (K : PySem.W.Frag) (mg : Str → Option Value) (x : Str) (d : PyData) : Prop := ∃ (u : Value) (v : V), mg x = some u ∧ RelV v u ∧ Dp K (fun _ => Option.none) v d
theorem none_same (H : Hp) : Same (fun _ => Option.none) H := fun _ _ e => nomatch e
theorem kt_of {K : PySem.W.Frag} {a : Addr} {its : Array Value} {n : Nat} {dd : Option Addr} {sl : Array (Option Value)} {xs : List V} {ds : List PyData} (h : K.lookup a = some ⟨.type "tuple", dd, .seq its n, sl⟩) (hz : its.size ≤ 1000) (hv : Vals xs its.toList) (ha : DpAll K (fun _ => Option.none) xs ds) :
    Dp K (fun _ => Option.none) (.ref a) (.tuple ds) := .tup (.inr ⟨_, its, n, h, rfl, rfl, Nat.le_trans hz (by decide), hv⟩) ha
/-! ### list.extend(tuple) -/
section
open Builtin
theorem extT (l b : Addr) (xs ys : Array Value) (n k : Nat) (dd : Option Addr) (sl : Array (Option Value)) (hlong : ¬(!xs.isEmpty && Builtin.List.listTooLong (xs.size + ys.size)) = true) (h1 : xs.size ≤ sizeLine) (h2 : xs.size + ys.size ≤ sizeLine + 1) :
    Meets (Builtin.«list.extend» ⟨[.ref l, .ref b], []⟩) (fun _ R s => s.heap.get? l = some { cls := .type "list", dict := none, data := .seq xs n, slots := #[] } ∧ s.heap.get? b = some { cls := .type "tuple", dict := dd, data := .seq ys k, slots := sl } ∧ R (.ok (.ret Value.none)) { s with heap := s.heap.update l (Obj.mapSeq fun x => x ++ ys), toks := s.toks }) := by
  refine .of_wp fun prog w A R s h => ?_
  obtain ⟨hp, g, d, tk, os⟩ := s
  obtain ⟨ea, eb, q⟩ := h
  have i1 := AutoSeq1.idx_int
  have i2 := AutoSeq1.sub_tuple_tuple
  have i3 := AutoSeq1.sub_list_list
  have i4 := AutoSeq1.sub_tuple_list
  have i5 := AutoSeq1.sub_list_tuple
  have hz : (xs ++ ys).size ≤ sizeLine + 1 := by rw [Array.size_append]; exact h2
  wp_walk using (wpAny_updateSeq ea rfl (hz := h1) (_hz' := hz)), AutoSeq1.wpAny_loadPart' ea, AutoSeq1.wpAny_loadPart' eb
  exact ⟨_, rfl, q⟩
end
section
variable {X : Cx}
def rExtT (K : PySem.W.Frag) : V → List V → Hp → VK → Prop := fun x vs H Q => ∃ l b xs zs, x = .ref l ∧ vs = [.ref b] ∧ H l = some (.lst xs) ∧ SqT K H b zs ∧ xs.length + zs.length ≤ sizeLine ∧ Q .non (upd H l (.lst (xs ++ zs)))
theorem mt_extT : MtR X "list.extend" (rExtT X.K) := by
  intro pins s σ H x vs v us Q I rx rv h
  obtain ⟨l, b, xs, zs, rfl, rfl, hH, hB, hz, q⟩ := h
  cases rx
  obtain ⟨u, rfl, ru⟩ := rv.one
  cases ru
  obtain ⟨z, its, n, r, hl, e⟩ := I.lstM hH
  obtain ⟨its2, r2, ⟨⟨oc, od, dt, sl⟩, e2, ec, k2, ed⟩, _⟩ := I.tuple hB
  simp only at ec ed
  subst ec ed
  have z1 := r.length
  have z2 := r2.length
  have hsz : its.toArray.size + its2.toArray.size ≤ sizeLine := by rw [List.size_toArray, List.size_toArray]; omega
  have nl : ¬ (!its.toArray.isEmpty && Builtin.List.listTooLong (its.toArray.size + its2.toArray.size)) = true := by
    rw [notLongL hsz, Bool.and_false]
    exact Bool.false_ne_true
  refine call_meets F.slot_list_extend ⟨_, e, rfl⟩ F.entry_list_extend (F.args_list_extend_2 _ _) (extT l b its.toArray its2.toArray n k2 od sl nl (by rw [List.size_toArray]; omega) (by omega)) ⟨e, e2, ?_⟩
  refine ⟨.non, _, I.lset (its' := its ++ its2) hH e (by simp) (r.append r2) ?_, rfl, q⟩
  rw [List.length_append]
  omega
/-! ### x in (a, b, ..), data of any depth -/
def rInT (K : PySem.W.Frag) : R2 := fun x y H Q => ∃ d ds, Dp K H x d ∧ Dp K H y (.tuple ds) ∧ SeqAt.shaped d = true ∧ SeqAt.shaped (.tuple ds) = true ∧ Q (.bl (ds.any fun z => PyData.eqv z d)) H
def rNotInT (K : PySem.W.Frag) : R2 := fun x y H Q => ∃ d ds, Dp K H x d ∧ Dp K H y (.tuple ds) ∧ SeqAt.shaped d = true ∧ SeqAt.shaped (.tuple ds) = true ∧ Q (.bl (!ds.any fun z => PyData.eqv z d)) H
theorem op_inT (hu : X.A.units + 65 < cLine) : OpR X (compareOp .In) (rInT X.K) := by
  intro pins s σ H x y v u Q I rx ry h
  obtain ⟨d, ds, hd, he, sd, se, q⟩ := h
  obtain ⟨as, r1⟩ := Dp.reads I d x v hd rx
  obtain ⟨bs, r2⟩ := Dp.reads I (.tuple ds) y u he ry
  exact SeqAt.in_tuple_reads r2 r1 (SeqAt.canLay_of_shaped se) (SeqAt.canLay_of_shaped sd) (room_in_shaped sd hu) ⟨.bl _, H, I, rfl, q⟩
theorem op_notInT (hu : X.A.units + 65 < cLine) : OpR X (compareOp .NotIn) (rNotInT X.K) := by
  intro pins s σ H x y v u Q I rx ry h
  obtain ⟨d, ds, hd, he, sd, se, q⟩ := h
  obtain ⟨as, r1⟩ := Dp.reads I d x v hd rx
  obtain ⟨bs, r2⟩ := Dp.reads I (.tuple ds) y u he ry
  exact SeqAt.notIn_tuple_reads r2 r1 (SeqAt.canLay_of_shaped se) (SeqAt.canLay_of_shaped sd) (room_in_shaped sd hu) ⟨.bl _, H, I, rfl, q⟩
theorem units65 {k : Nat} {A : Around} (r : Room k A) : A.units + 65 < cLine := by
  have := r.un
  omega
end
section
variable {K : PySem.W.Frag} {H : Hp}
theorem DpAll.dropt : ∀ {xs : List V} {ds : List PyData} (n : Nat), DpAll K H xs ds → DpAll K H (xs.drop n) (ds.drop n)
  | _, _, 0, r => r
  | _, _, _ + 1, .nil => .nil
  | _, _, n + 1, .cons _ t => DpAll.dropt n t
theorem DpAll.taket : ∀ {xs : List V} {ds : List PyData} (n : Nat), DpAll K H xs ds → DpAll K H (xs.take n) (ds.take n)
  | _, _, 0, _ => .nil
  | _, _, _ + 1, .nil => .nil
  | _, _, n + 1, .cons r t => .cons r (DpAll.taket n t)
theorem DpAll.app : ∀ {xs ys : List V} {ds es : List PyData}, DpAll K H xs ds → DpAll K H ys es → DpAll K H (xs ++ ys) (ds ++ es)
  | _, _, _, _, .nil, r => r
  | _, _, _, _, .cons q t, r => .cons q (DpAll.app t r)
theorem DpAll.getV : ∀ {vs : List V} {ds : List PyData} {i : Nat} {v : V}, DpAll K H vs ds → vs[i]? = some v → ∃ d, ds[i]? = some d ∧ Dp K H v d
  | _, _, _, _, .nil, e => by simp at e
  | _, _, 0, _, .cons r _, e => by simp at e; subst e; exact ⟨_, rfl, r⟩
  | _, _, i + 1, _, .cons _ t, e => by
    obtain ⟨u, h1, h2⟩ := DpAll.getV (i := i) t (by simpa using e)
    exact ⟨u, by simpa using h1, h2⟩
end
/-- a part of a tuple, also the whole -/
theorem cut_nat (xs : List V) (i j : Nat) (h1 : i ≤ xs.length) (h2 : j ≤ xs.length) : cutV xs (some (i : Int)) (some (j : Int)) = (xs.drop i).take (j - i) := by
  unfold cutV
  rw [HT.sIx_nat, HT.sIx_nat, Nat.min_eq_left h1, Nat.min_eq_left h2]
theorem slA_nat {K : PySem.W.Frag} {H : Hp} {a : Addr} {xs : List V} {i j : Nat} {Q : VK} (hs : SqT K H a xs) (h1 : i ≤ xs.length) (h2 : j ≤ xs.length) (h : ∀ b H', Same H H' → SqT K H' b ((xs.drop i).take (j - i)) → (∀ c, H c = Option.none → c ≠ b → H' c = Option.none) → Q (.ref b) H') :
    rSlA K (.ref a) (some (i : Int)) (some (j : Int)) H Q := by
  refine ⟨a, xs, rfl, hs, fun z => ?_, fun z p np => ?_⟩
  · rw [HT.sIx_nat, HT.sIx_nat, Nat.min_eq_left h1, Nat.min_eq_left h2] at z
    refine h a H (Same.refl H) ?_ fun _ e _ => e
    rw [z.1, z.2, List.drop_zero, Nat.sub_zero, List.take_length]
    exact hs
  · rw [cut_nat xs i j h1 h2]
    exact h p _ (same_upd np) (SqT.of upd_same) fun c e hc => by rw [upd_ne hc]; exact e
theorem cat_dp {K : PySem.W.Frag} {H : Hp} {x y : V} {ds es : List PyData} {Q : VK} (hx : Dp K H x (.tuple ds)) (hy : Dp K H y (.tuple es)) (hne : ds ≠ []) (hz : ds.length + es.length ≤ 1000) (h : ∀ v H', Same H H' → Dp K H' v (.tuple (ds ++ es)) → Q v H') : rCatT K x y H Q := by
  cases hx with
  | @tup a xs _ sx ax =>
  cases hy with
  | @tup b ys _ sy ay =>
  have lx := DpAll.len ax
  have ly := DpAll.len ay
  refine ⟨a, b, xs, ys, rfl, rfl, sx, sy, fun z => ?_, small_of (by omega), fun z => ?_, fun z p np => ?_⟩
  · rw [z] at lx
    exact hne (List.eq_nil_of_length_eq_zero lx.symm)
  · subst z
    cases ay
    rw [List.append_nil] at h
    exact h _ H (Same.refl H) (.tup sx ax)
  · exact h _ _ (same_upd np) (.tup (SqT.of upd_same) (dp_sameAll (same_upd np) _ _ (DpAll.app ax ay)))
theorem cut_from1 (v : V) (xs : List V) : cutV (v :: xs) (some 1) Option.none = xs := by
  unfold cutV
  rw [show (some (1 : Int)) = some ((1 : Nat) : Int) from rfl, HT.sIx_nat, HT.sIx_none, List.length_cons, Nat.min_eq_left (by omega), List.drop_succ_cons, List.drop_zero, Nat.add_sub_cancel]
  exact List.take_length
section
variable {σ : L2.St} {H : Hp}
theorem args1 {t : TE} {ta : TA} {Q : List V → Hp → Prop} (h : t σ H fun x H1 => ta σ H1 fun xs H2 => Q (x :: xs) H2) : tCons t ta σ H Q := h
theorem tup_of {ta : TA} {Q : VK} (h : ta σ H fun xs H1 => xs.length ≤ sizeLine ∧ ∀ p, H1 p = Option.none → Q (.ref p) (upd H1 p (.tup xs))) : tTup ta σ H Q := h
theorem const_of {v : V} {Q : VK} (h : Q v H) : tC v σ H Q := h
theorem op_of {r : R2} {ta tb : TE} {Q : VK} (h : ta σ H fun x H1 => tb σ H1 fun y H2 => r x y H2 Q) : tOp r ta tb σ H Q := h
theorem nil_of {Q : List V → Hp → Prop} (h : Q [] H) : tNil σ H Q := h
end
section
variable {σ : L2.St} {H : Hp}
theorem call_of {sp : Sp} {dvs : List V} {E : XK} {t : TA} {Q : VK} (h : t σ H fun vs H1 => sp (vs ++ dvs) H1 Q E) : tCall sp dvs E t σ H Q := h
theorem args_and {r : R2} {sp : Sp} {dvs : List V} {E : XK} {t : TA} {tb tc : TE} {D : Ends} (h : t σ H fun vs H1 => sp (vs ++ dvs) H1 (fun x H1 => tb σ H1 fun y H2 => r x y H2 fun x H1 => ∃ c, x = .bl c ∧ if c = true then tc σ H1 D.rt else D.rt (.bl false) H1) E) : tRet (tAndV (tOp r (tCall sp dvs E t) tb) tc) D σ H := h
end
theorem relStr (x : Str) (t : Tok) : RelV (.str x) (.str x t) := ⟨_, rfl⟩
theorem relInt (i : Int) (t : Tok) : RelV (.int i) (.int i t) := ⟨_, rfl⟩
theorem relRef (a : Addr) : RelV (.ref a) (.ref a) := rfl
/-! ### a < b of data whose places are alike -/
section
variable {X : Cx}
def rLtD (K : PySem.W.Frag) : R2 := fun x y H Q => ∃ d e, Dp K H x d ∧ Dp K H y e ∧ PySem.W.alike d e = true ∧ d ≠ .none ∧ d.depth ≤ 8 ∧ Q (.bl (PySem.W.dataLt d e)) H
theorem op_ltD (hu : X.A.units + 64 < cLine) : OpR X (compareOp .Lt) (rLtD X.K) := by
  intro pins s σ H x y v u Q I rx ry h
  obtain ⟨d, e, hd, he, ha, hn, hz, q⟩ := h
  obtain ⟨as, r1⟩ := Dp.reads I d x v hd rx
  obtain ⟨bs, r2⟩ := Dp.reads I e y u he ry
  have R := PySem.W.rcLt_alike d e X.A s v u as bs r1 r2 ha hn (Nat.lt_of_le_of_lt (Nat.add_le_add_left (Nat.le_trans (Nat.min_le_left _ _) (Nat.le_trans hz (by decide : 8 ≤ 64))) _) hu)
  have z : wpAny (model X.prog X.w) X.A (compareOp .Lt v u) (EP X pins σ Q) X.xe s := R X.prog X.w X.xe (EP X pins σ Q) ⟨.bl _, H, I, rfl, q⟩
  exact z
end
/-! ### zip of two tuples -/
theorem walk_zipT {K : PySem.W.Frag} {a b : Addr} {xs ys : List V} {n : Nat} (hn : n = min xs.length ys.length) : Walk (RZ.ItzT K a b) n (fun H => SqT K H a xs ∧ SqT K H b ys) (YPair (fun i => xs[i]?) (fun i => ys[i]?)) := by
  subst hn
  refine ⟨fun i H hi q => ?_, fun H q => ⟨xs, ys, q.1, q.2, by omega⟩, fun i H v H' hi q y => ?_⟩
  · have h1 : i < xs.length := by omega
    have h2 : i < ys.length := by omega
    exact ⟨xs, ys, _, _, q.1, q.2, List.getElem?_eq_getElem h1, List.getElem?_eq_getElem h2⟩
  · obtain ⟨T, x, y, e1, e2, e3, e4, e5⟩ := y
    exact ⟨T, x, y, e1, e2, e3, e4 xs q.1, e5 ys q.2⟩
/-! ### () + t -/
section
open Builtin
theorem addE (l b : Addr) (xs ys : Array Value) (n k : Nat) (dd dd2 : Option Addr) (sl sl2 : Array (Option Value)) (he : xs.isEmpty = true) :
    Meets (Builtin.«tuple.__add__» ⟨[.ref l, .ref b], []⟩) (fun _ R s => s.heap.get? l = some { cls := .type "tuple", dict := dd, data := .seq xs n, slots := sl } ∧ s.heap.get? b = some { cls := .type "tuple", dict := dd2, data := .seq ys k, slots := sl2 } ∧ R (.ok (.ret (Value.ref b))) s) := by
  refine .of_wp fun prog w A R s h => ?_
  obtain ⟨hp, g, d, tk, os⟩ := s
  obtain ⟨ea, eb, q⟩ := h
  have i1 := AutoSeq1.idx_int
  have i2 := AutoSeq1.sub_tuple_tuple
  have i3 := AutoSeq1.sub_list_list
  have i4 := AutoSeq1.sub_tuple_list
  have i5 := AutoSeq1.sub_list_tuple
  wp_walk using AutoSeq1.wpAny_loadPart' ea, AutoSeq1.wpAny_loadPart' eb
  exact ⟨_, rfl, q⟩
end
section
variable {X : Cx}
def rCatA (K : PySem.W.Frag) : R2 := fun x y H Q => ∃ a b xs ys, x = .ref a ∧ y = .ref b ∧ SqT K H a xs ∧ SqT K H b ys ∧ xs.length + ys.length ≤ sizeLine ∧ (xs = [] → Q (.ref b) H) ∧ (ys = [] → Q (.ref a) H) ∧ ∀ p, H p = Option.none → Q (.ref p) (upd H p (.tup (xs ++ ys)))
theorem op_catA : OpR X (binaryOp .Add) (rCatA X.K) := by
  intro pins s σ H x y v u Q I rx ry h
  obtain ⟨a, b, xs, ys, rfl, rfl, ha, hb, hz, q1, q2, q3⟩ := h
  by_cases hx : xs = []
  · subst hx
    cases rx
    cases ry
    obtain ⟨its, r1, p1, _⟩ := I.tuple ha
    obtain ⟨its2, r2, p2, _⟩ := I.tuple hb
    cases r1
    obtain ⟨⟨oc, od, dt, sl⟩, e1, c1, n, d1⟩ := p1
    obtain ⟨⟨oc2, od2, dt2, sl2⟩, e2, c2, n2, d2⟩ := p2
    simp only at c1 d1 c2 d2
    subst c1 d1 c2 d2
    exact concat_meets ⟨_, e1, rfl⟩ ⟨_, e2, rfl⟩ noFill_tuple_add seq_tuple_add PySem.F.slot_tuple_add PySem.F.entry_tuple_add (PySem.F.args_tuple_add_2 _ _)
      (addE a b #[] its2.toArray n n2 od od2 sl sl2 rfl) ⟨e1, e2, ⟨.ref b, H, I, rfl, q1 rfl⟩⟩
  · exact op_catT pins s σ H (.ref a) (.ref b) v u Q I rx ry ⟨a, b, xs, ys, rfl, rfl, ha, hb, hx, hz, q2, fun _ p np => q3 p np⟩
end
section
variable {K : PySem.W.Frag} {G : Addr → Prop} {H : Hp}
theorem ImAll.dropt : ∀ {xs : List V} {ds : List PyData} (n : Nat), ImAll K G H xs ds → ImAll K G H (xs.drop n) (ds.drop n)
  | _, _, 0, r => r
  | _, _, _ + 1, .nil => .nil
  | _, _, n + 1, .cons _ t => ImAll.dropt n t
theorem ImAll.taket : ∀ {xs : List V} {ds : List PyData} (n : Nat), ImAll K G H xs ds → ImAll K G H (xs.take n) (ds.take n)
  | _, _, 0, _ => .nil
  | _, _, _ + 1, .nil => .nil
  | _, _, n + 1, .cons r t => .cons r (ImAll.taket n t)
theorem im_new {xs : List V} {ds : List PyData} {p : Addr} (np : H p = Option.none) (ia : ImAll K G H xs ds) : Im K (fun b => G b ∨ H b = Option.none) (upd H p (.tup xs)) (.ref p) (.tuple ds) :=
  .tup (.inr np) upd_same (Im.monoAll (fun b o _ e => same_upd np b o e) (fun _ g => .inl g) _ _ ia)
theorem im_cut {x : V} {ds es : List PyData} {lo hi : Option Int} {Q : VK} (iv : Im K G H x (.tuple ds)) (hc : ∀ xs : List V, ImAll K G H xs ds → ImAll K G H (cutV xs lo hi) es) (h : ∀ v H', Same H H' → (∀ b, G b ∨ H b = Option.none → G b ∨ H b = Option.none) → Im K (fun b => G b ∨ H b = Option.none) H' v (.tuple es) → Q v H') : rSlA K x lo hi H Q := by
  cases iv with
  | @tup a xs _ g e ia =>
  refine ⟨a, xs, rfl, SqT.of e, fun z => ?_, fun z p np => ?_⟩
  · have hw : cutV xs lo hi = xs := by
      unfold cutV
      rw [z.1, z.2, List.drop_zero, Nat.sub_zero, List.take_length]
    have := hc xs ia
    rw [hw] at this
    exact h _ H (Same.refl H) (fun _ q => q) (.tup (.inl g) e (Im.monoAll (fun _ _ _ e => e) (fun _ g => .inl g) _ _ this))
  · exact h _ _ (same_upd np) (fun _ q => q) (im_new np (hc xs ia))
theorem im_take {x : V} {ds : List PyData} {k : Nat} {Q : VK} (iv : Im K G H x (.tuple ds)) (hk : k ≤ ds.length) (h : ∀ v H', Same H H' → Im K (fun b => G b ∨ H b = Option.none) H' v (.tuple (ds.take k)) → Q v H') : rSlA K x Option.none (some (k : Int)) H Q :=
  im_cut iv (fun xs ia => by
    unfold cutV
    rw [HT.sIx_none, HT.sIx_nat, Nat.min_eq_left (by rw [ia.len]; exact hk), List.drop_zero, Nat.sub_zero]
    exact ImAll.taket _ ia) fun v H' s _ i => h v H' s i
theorem im_drop {x : V} {ds : List PyData} {k : Nat} {Q : VK} (iv : Im K G H x (.tuple ds)) (hk : k ≤ ds.length) (h : ∀ v H', Same H H' → Im K (fun b => G b ∨ H b = Option.none) H' v (.tuple (ds.drop k)) → Q v H') : rSlA K x (some (k : Int)) Option.none H Q :=
  im_cut iv (fun xs ia => by
    unfold cutV
    rw [HT.sIx_none, HT.sIx_nat, Nat.min_eq_left (by rw [ia.len]; exact hk), List.take_of_length_le (by rw [List.length_drop]; exact Nat.le_refl _)]
    exact ImAll.dropt _ ia) fun v H' s _ i => h v H' s i
theorem im_cat {x y : V} {ds es : List PyData} {Q : VK} (iv : Im K G H x (.tuple ds)) (iw : Im K G H y (.tuple es)) (hz : ds.length + es.length ≤ 1000) (h : ∀ v H', Same H H' → Im K (fun b => G b ∨ H b = Option.none) H' v (.tuple (ds ++ es)) → Q v H') : rCatA K x y H Q := by
  have w1 := Im.mono (G' := fun b => G b ∨ H b = Option.none) (fun _ _ _ e => e) (fun _ g => .inl g) _ _ iv
  have w2 := Im.mono (G' := fun b => G b ∨ H b = Option.none) (fun _ _ _ e => e) (fun _ g => .inl g) _ _ iw
  cases iv with
  | @tup a xs _ g e ia =>
  cases iw with
  | @tup b ys _ g2 e2 ib =>
  have l1 := ia.len
  have l2 := ib.len
  refine ⟨a, b, xs, ys, rfl, rfl, SqT.of e, SqT.of e2, small_of (by omega), fun z => ?_, fun z => ?_, fun p np => ?_⟩
  · subst z
    cases ia
    exact h _ H (Same.refl H) w2
  · subst z
    cases ib
    rw [List.append_nil] at h
    exact h _ H (Same.refl H) w1
  · exact h _ _ (same_upd np) (im_new np (ImAll.app ia ib))
end
end My

namespace My
open PySem PySem.Spec PyProof.Rows L2
/-! ### the text -/
def topS (i : Nat) : Stmt := PySem.Challenge.pw_hornbook_k49_table_order.main.body.getD i (.Pass ⟨0, 0, 0, 0⟩)
abbrev s_is_variable : Stmt := topS 1
abbrev N_is_variable : List Str := ["node"]
theorem sc_is_variable : FnScope N_is_variable ["node"] (defScope s_is_variable) := ⟨rfl, rfl, rfl, by decide +kernel, rfl, by decide +kernel, by decide +kernel⟩
abbrev s_is_symbol : Stmt := topS 2
abbrev N_is_symbol : List Str := ["node"]
theorem sc_is_symbol : FnScope N_is_symbol ["node"] (defScope s_is_symbol) := ⟨rfl, rfl, rfl, by decide +kernel, rfl, by decide +kernel, by decide +kernel⟩
abbrev s_node_key : Stmt := topS 4
abbrev N_node_key : List Str := ["node"]
theorem sc_node_key : FnScope N_node_key ["node"] (defScope s_node_key) := ⟨rfl, rfl, rfl, by decide +kernel, rfl, by decide +kernel, by decide +kernel⟩
abbrev s_term_key : Stmt := topS 5
abbrev N_term_key : List Str := ["term", "node"]
theorem sc_term_key : FnScope N_term_key ["term"] (defScope s_term_key) := ⟨rfl, rfl, rfl, by decide +kernel, rfl, by decide +kernel, by decide +kernel⟩
abbrev s_table_order : Stmt := topS 7
abbrev N_table_order : List Str := ["left", "right", "one", "other"]
theorem sc_table_order : FnScope N_table_order ["left", "right"] (defScope s_table_order) := ⟨rfl, rfl, rfl, by decide +kernel, rfl, by decide +kernel, by decide +kernel⟩
abbrev s__law_stream : Stmt := topS 9
abbrev N__law_stream : List Str := ["script", "mixed", "cell"]
theorem sc__law_stream : FnScope N__law_stream ["script"] (defScope s__law_stream) := ⟨rfl, rfl, rfl, by decide +kernel, rfl, by decide +kernel, by decide +kernel⟩
abbrev s__law_draw : Stmt := topS 10
abbrev N__law_draw : List Str := ["stream", "many", "value"]
theorem sc__law_draw : FnScope N__law_draw ["stream", "many"] (defScope s__law_draw) := ⟨rfl, rfl, rfl, by decide +kernel, rfl, by decide +kernel, by decide +kernel⟩
abbrev s__law_is_variable : Stmt := topS 11
abbrev N__law_is_variable : List Str := ["node"]
theorem sc__law_is_variable : FnScope N__law_is_variable ["node"] (defScope s__law_is_variable) := ⟨rfl, rfl, rfl, by decide +kernel, rfl, by decide +kernel, by decide +kernel⟩
abbrev s__law_put : Stmt := topS 12
abbrev N__law_put : List Str := ["table", "term", "nodes", "node"]
theorem sc__law_put : FnScope N__law_put ["table", "term"] (defScope s__law_put) := ⟨rfl, rfl, rfl, by decide +kernel, rfl, by decide +kernel, by decide +kernel⟩
abbrev s__law_numbered : Stmt := topS 13
abbrev N__law_numbered : List Str := ["terms", "first", "table", "found", "term", "node"]
theorem sc__law_numbered : FnScope N__law_numbered ["terms", "first"] (defScope s__law_numbered) := ⟨rfl, rfl, rfl, by decide +kernel, rfl, by decide +kernel, by decide +kernel⟩
abbrev s__law_rank : Stmt := topS 14
abbrev N__law_rank : List Str := ["node"]
theorem sc__law_rank : FnScope N__law_rank ["node"] (defScope s__law_rank) := ⟨rfl, rfl, rfl, by decide +kernel, rfl, by decide +kernel, by decide +kernel⟩
abbrev s__law_ranks : Stmt := topS 15
abbrev N__law_ranks : List Str := ["term", "node"]
theorem sc__law_ranks : FnScope N__law_ranks ["term"] (defScope s__law_ranks) := ⟨rfl, rfl, rfl, by decide +kernel, rfl, by decide +kernel, by decide +kernel⟩
abbrev s__law_before : Stmt := topS 16
abbrev N__law_before : List Str := ["left", "right"]
theorem sc__law_before : FnScope N__law_before ["left", "right"] (defScope s__law_before) := ⟨rfl, rfl, rfl, by decide +kernel, rfl, by decide +kernel, by decide +kernel⟩
abbrev s__law_node : Stmt := topS 17
abbrev N__law_node : List Str := ["stream", "pick", "name"]
theorem sc__law_node : FnScope N__law_node ["stream"] (defScope s__law_node) := ⟨rfl, rfl, rfl, by decide +kernel, rfl, by decide +kernel, by decide +kernel⟩
abbrev s__law_some : Stmt := topS 18
abbrev N__law_some : List Str := ["stream", "size", "nodes", "missing", "node"]
theorem sc__law_some : FnScope N__law_some ["stream", "size"] (defScope s__law_some) := ⟨rfl, rfl, rfl, by decide +kernel, rfl, by decide +kernel, by decide +kernel⟩
abbrev s__law_near : Stmt := topS 19
abbrev N__law_near : List Str := ["stream", "term", "at", "node", "old", "arity"]
theorem sc__law_near : FnScope N__law_near ["stream", "term"] (defScope s__law_near) := ⟨rfl, rfl, rfl, by decide +kernel, rfl, by decide +kernel, by decide +kernel⟩
abbrev s_law : Stmt := topS 20
abbrev N_law : List Str := ["script", "stream", "one", "two", "three", "rows", "term", "left", "right", "due", "actual"]
theorem sc_law : FnScope N_law ["script"] (defScope s_law) := ⟨rfl, rfl, rfl, by decide +kernel, rfl, by decide +kernel, by decide +kernel⟩
/-- names that the top leaves to the built-ins, and its constants -/
structure Bi (K : PySem.W.Frag) (mg : Str → Option Value) : Prop where
  b_abs : mg "abs" = Option.none
  b_bool : mg "bool" = Option.none
  b_int : mg "int" = Option.none
  b_isinstance : mg "isinstance" = Option.none
  b_len : mg "len" = Option.none
  b_list : mg "list" = Option.none
  b_tuple : mg "tuple" = Option.none

/-! ### names, nodes, terms -/
def okSign (c : Nat) : Bool := decide (32 ≤ c) && decide (c ≤ 126) && !decide (c = 37)
def okName (x : Str) : Bool := decide (1 ≤ x.length) && decide (x.length ≤ 40) && x.cps.toList.all okSign
def names20 : List Str := ["a", "b", "f", "g", "hello", "[]", "+", "-", ",", "it's", "X", "a b", "{}", ".", "=", "'", "aB_1", "!", "0", "lvjkuwnd"]
def signs : Str := (Str.ofString " !\"#$&'()*+,-./0123456789:;<=>?@ABCDEFGHIJKLMNOPQRSTUVWXYZ[\\]^_`") ++ (Str.ofString "abcdefghijklmnopqrstuvwxyz{|}~")
theorem names20_ok : names20.all okName = true := by decide +kernel
theorem signs_ok : signs.cps.toList.all okSign = true := by decide +kernel
theorem signs_len : signs.length = 94 := by decide +kernel
theorem join_ones (e : Str) (he : e.cps = #[]) : ∀ cs : List Nat, (Str.join e (cs.map fun c => ⟨#[c]⟩)).cps.toList = cs
  | [] => rfl
  | [c] => rfl
  | c :: d :: r => by
    have ih := join_ones e he (d :: r)
    show ((⟨#[c]⟩ : Str) ++ e ++ Str.join e ((d :: r).map fun c => (⟨#[c]⟩ : Str))).cps.toList = c :: d :: r
    show (#[c] ++ e.cps ++ (Str.join e ((d :: r).map fun c => (⟨#[c]⟩ : Str))).cps).toList = c :: d :: r
    rw [he, Array.toList_append, ih]
    rfl
inductive Nd (wd : Int) : PyData → Prop
  | v (n : Int) : 0 ≤ n → n < wd → Nd wd (.tuple [.str "v", .int n])
  | i (n : Int) : -(10 ^ 40) < n → n < 10 ^ 40 → Nd wd (.int n)
  | f (x : Str) (n : Int) : okName x = true → 0 ≤ n → n ≤ 8 → Nd wd (.tuple [.str "f", .str x, .int n])
def arN : PyData → Nat
  | .tuple [_, _, c] => (match c with | .int n => n.toNat | _ => 0) | _ => 0
/-- from m missing terms on, the nodes are just these terms -/
def Cls : Nat → List PyData → Prop
  | m, [] => m = 0
  | m, d :: r => 0 < m ∧ Cls (m - 1 + arN d) r
structure Term (wd : Int) (ds : List PyData) : Prop where
  cl : Cls 1 ds
  nd : ∀ d ∈ ds, Nd wd d
/-! ### the promises -/
def sp__law_stream (K : PySem.W.Frag) : Sp := fun vs H Q _ => ∃ (a : Addr) (ns : List Int), vs = [.ref a] ∧ SqL K H a (ns.map V.int) ∧ ns.length ≤ 63 ∧ ∀ s l H', H s = Option.none → H l = Option.none → Same H H' → Stm H' s l → Q (.ref s) H'
def sp__law_draw (K : PySem.W.Frag) : Sp := fun vs H Q _ => ∃ (s l : Addr) (n : Int), vs = [.ref s, .int n] ∧ Stm H s l ∧ 0 < n ∧ n.natAbs < 2 ^ 9000 ∧ ∀ r H', 0 ≤ r → r < n → But s H H' → Stm H' s l → Q (.int r) H'
def sp__law_name (K : PySem.W.Frag) : Sp := fun vs H Q _ => ∃ s l, vs = [.ref s] ∧ Stm H s l ∧ ∀ x H', okName x = true → But s H H' → Stm H' s l → Q (.str x) H'
def sp__law_leaf (K : PySem.W.Frag) : Sp := fun vs H Q _ => ∃ (s l : Addr) (wd : Int), vs = [.ref s, .int wd] ∧ Stm H s l ∧ 0 < wd ∧ wd ≤ 1000 ∧ ∀ v d H', Nd wd d → arN d = 0 → But s H H' → Stm H' s l → Im K (fun b => H b = Option.none) H' v d → Q v H'
def sp__law_term (K : PySem.W.Frag) : Sp := fun vs H Q _ => ∃ (s l : Addr) (n wd : Int), vs = [.ref s, .int n, .int wd] ∧ Stm H s l ∧ 0 < n ∧ n ≤ 1000 ∧ 0 < wd ∧ wd ≤ 1000 ∧
  ∀ v ds H', Term wd ds → (ds.length : Int) ≤ n → But s H H' → Stm H' s l → Im K (fun b => H b = Option.none) H' v (.tuple ds) → Q v H'
/-! ### nodes -/
def isSymN : PyData → Bool
  | .tuple [_, _, _] => true | _ => false
def NdA (d : PyData) : Prop := ∃ wd, Nd wd d
/-- how many nodes m terms take -/
def tk : Nat → List PyData → Nat
  | _, [] => 0
  | m, d :: r => if m = 0 then 0 else 1 + tk (m - 1 + arN d) r
theorem tk_zero (l : List PyData) : tk 0 l = 0 := by
  cases l with
  | nil => rfl
  | cons d r => exact if_pos rfl
theorem tk_cons {m : Nat} (h : 0 < m) (d : PyData) (r : List PyData) : tk m (d :: r) = 1 + tk (m - 1 + arN d) r := if_neg (by omega)
theorem arN_nsym {d : PyData} (h : isSymN d = false) : arN d = 0 := by
  cases d with
  | tuple ds =>
    rcases ds with _ | ⟨a, _ | ⟨b, _ | ⟨c, _ | ⟨e, r⟩⟩⟩⟩
    · rfl
    · rfl
    · rfl
    · cases h
    · rfl
  | _ => rfl
theorem tk_le : ∀ (l : List PyData) (m : Nat), tk m l ≤ l.length
  | [], _ => Nat.le_refl 0
  | d :: r, m => by
    by_cases h : m = 0
    · subst h; rw [tk_zero]; exact Nat.zero_le _
    · rw [tk_cons (by omega)]
      have := tk_le r (m - 1 + arN d)
      rw [List.length_cons]
      omega
theorem tk_add : ∀ (l : List PyData) (j m : Nat), tk (j + m) l = tk j l + tk m (l.drop (tk j l))
  | [], j, m => by simp [tk]
  | d :: r, j, m => by
    by_cases h : j = 0
    · subst h
      rw [tk_zero, Nat.zero_add, Nat.zero_add, List.drop_zero]
    · rw [tk_cons (by omega), tk_cons (m := j) (by omega), show j + m - 1 + arN d = (j - 1 + arN d) + m by omega, tk_add r (j - 1 + arN d) m]
      rw [show 1 + tk (j - 1 + arN d) r = tk (j - 1 + arN d) r + 1 by omega, List.drop_succ_cons]
      omega
/-- the rest of what is closed is closed -/
theorem cls_drop : ∀ (l : List PyData) (k j : Nat), Cls k l → j ≤ k → Cls (k - j) (l.drop (tk j l))
  | [], k, j, h, hj => by
    have hk : k = 0 := h
    rw [List.drop_nil]
    show k - j = 0
    omega
  | d :: r, k, j, h, hj => by
    by_cases z : j = 0
    · subst z
      rw [tk_zero]
      exact h
    · rw [tk_cons (by omega), show 1 + tk (j - 1 + arN d) r = tk (j - 1 + arN d) r + 1 by omega, List.drop_succ_cons]
      have := cls_drop r (k - 1 + arN d) (j - 1 + arN d) h.2 (by omega)
      rwa [show k - 1 + arN d - (j - 1 + arN d) = k - j by omega] at this
theorem cls_take : ∀ (l : List PyData) (k j : Nat), Cls k l → j ≤ k → Cls j (l.take (tk j l))
  | [], k, j, h, hj => by
    have hk : k = 0 := h
    rw [List.take_nil]
    show j = 0
    omega
  | d :: r, k, j, h, hj => by
    by_cases z : j = 0
    · subst z
      rw [tk_zero]
      rfl
    · rw [tk_cons (by omega), show 1 + tk (j - 1 + arN d) r = tk (j - 1 + arN d) r + 1 by omega, List.take_succ_cons]
      exact ⟨by omega, cls_take r (k - 1 + arN d) (j - 1 + arN d) h.2 (by omega)⟩
theorem tk_take : ∀ (l : List PyData) (i j : Nat), i ≤ j → tk i (l.take (tk j l)) = tk i l
  | [], i, j, _ => by rw [List.take_nil]
  | d :: r, i, j, h => by
    by_cases z : i = 0
    · subst z
      rw [tk_zero, tk_zero]
    · rw [tk_cons (m := j) (by omega), show 1 + tk (j - 1 + arN d) r = tk (j - 1 + arN d) r + 1 by omega, List.take_succ_cons, tk_cons (by omega), tk_cons (by omega), tk_take r _ _ (by omega)]
theorem take_full : ∀ (l : List PyData) (k : Nat), Cls k l → l.take (tk k l) = l
  | [], _, _ => List.take_nil
  | d :: r, k, h => by
    rw [tk_cons h.1, show 1 + tk (k - 1 + arN d) r = tk (k - 1 + arN d) r + 1 by omega, List.take_succ_cons, take_full r _ h.2]
theorem cls_map : ∀ (ds es : List PyData) (m : Nat), es.map arN = ds.map arN → Cls m ds → Cls m es
  | [], [], m, _, h => h
  | [], e :: es, m, h, _ => by cases h
  | d :: ds, [], m, h, _ => by cases h
  | d :: ds, e :: es, m, h, hc => by
    rw [List.map_cons, List.map_cons] at h
    obtain ⟨h1, h2⟩ := List.cons.inj h
    exact ⟨hc.1, by rw [h1]; exact cls_map ds es _ h2 hc.2⟩
/-! ### nodes can be compared -/
theorem okName_cps {x : Str} (h : okName x = true) : PyData.strOk x = true := by
  unfold okName at h
  rw [Bool.and_eq_true] at h
  unfold PyData.strOk
  rw [← Array.all_toList]
  refine List.all_eq_true.mpr fun c hc => ?_
  have := List.all_eq_true.mp h.2 c hc
  unfold okSign at this
  simp only [Bool.and_eq_true, decide_eq_true_eq] at this
  exact decide_eq_true (by omega)
theorem nd_lay {d : PyData} (h : NdA d) : d.canLay0 = true ∧ d.depth ≤ 1 ∧ d.eqv d = true := by
  obtain ⟨wd, h⟩ := h
  cases h with
  | v n _ _ => exact ⟨by simp only [PyData.canLay0, PyData.canLayAll0]; decide +kernel, by simp [PyData.depth, PyData.depthAll], by simp only [PyData.eqv, PyData.eqvAll, beq_self_eq_true, Bool.and_self]⟩
  | i n _ _ => exact ⟨by simp only [PyData.canLay0], by simp [PyData.depth], by simp only [PyData.eqv, beq_self_eq_true]⟩
  | f x n hx _ _ => exact ⟨by simp only [PyData.canLay0, PyData.canLayAll0]; rw [okName_cps hx]; decide +kernel, by simp [PyData.depth, PyData.depthAll], by simp only [PyData.eqv, PyData.eqvAll, beq_self_eq_true, Bool.and_self]⟩
theorem nds_lay : ∀ {ds : List PyData}, (∀ d ∈ ds, NdA d) → PyData.canLayAll0 ds = true ∧ PyData.depthAll ds ≤ 1 ∧ PyData.eqvAll ds ds = true
  | [], _ => ⟨by simp only [PyData.canLayAll0], by simp [PyData.depthAll], by simp only [PyData.eqvAll]⟩
  | d :: r, h => by
    obtain ⟨a1, a2, a3⟩ := nd_lay (h d List.mem_cons_self)
    obtain ⟨b1, b2, b3⟩ := nds_lay (ds := r) fun e he => h e (List.mem_cons_of_mem _ he)
    refine ⟨by simp only [PyData.canLayAll0, a1, b1, Bool.and_self], ?_, by simp only [PyData.eqvAll, a3, b3, Bool.and_self]⟩
    simp only [PyData.depthAll]
    omega
theorem nd_shaped {d : PyData} (h : NdA d) : SeqAt.shaped d = true := by
  obtain ⟨a1, a2, _⟩ := nd_lay h
  show (d.canLay0 && decide (d.depth ≤ 64)) = true
  rw [a1, decide_eq_true (by omega)]
  rfl
theorem tup_shaped {ds : List PyData} (h : ∀ d ∈ ds, NdA d) : SeqAt.shaped (.tuple ds) = true := by
  obtain ⟨a1, a2, _⟩ := nds_lay h
  have hd : (PyData.tuple ds).depth ≤ 64 := by
    simp only [PyData.depth]
    omega
  have hc : (PyData.tuple ds).canLay0 = true := by
    simp only [PyData.canLay0]
    exact a1
  show ((PyData.tuple ds).canLay0 && decide ((PyData.tuple ds).depth ≤ 64)) = true
  rw [hc, decide_eq_true hd]
  rfl
theorem tup_eqv {ds : List PyData} (h : ∀ d ∈ ds, NdA d) : PyData.eqv (.tuple ds) (.tuple ds) = true := by
  simp only [PyData.eqv]
  exact (nds_lay h).2.2
/-- name = {k: v for ..} on one line, the name a local -/
theorem ps_setDc {X : Cx} {i : Nat} {y : Str} {py : Pos} {kx vx tg iter : Expr} {ifs : List Expr} {scope : Scope} {own : List (Str × Nat)} {pos spos : Pos} {wi : TI} {g : TG} {tt : TT} {tk tv : TE} (c1 : X.calm = true) (c2 : X.N.Nodup) (c3 : X.N[i]? = some y) (c4 : X.env.scope.names.lookup y = some .local)
    (c5 : swapsWith (.DictComp kx vx [⟨tg, iter, ifs, 0⟩] scope pos) (some (.Name y py)) spos.line X.env = pure true) (c6 : PI X tg iter wi) (c7 : BlkOk X.N X.env.scope scope own)
    (c8 : ∀ (z : Shared) (H : Hp) (C : Addr) (cl : List (Str × Addr)) (fp : List Addr), PG (X.blk z H scope (compEnvC scope cl C X.env) fp) tg g) (c9 : ∀ (z : Shared) (H : Hp) (C : Addr) (cl : List (Str × Addr)) (fp : List Addr), PTs (X.blk z H scope (compEnvC scope cl C X.env) fp) ifs tt)
    (d1 : ∀ (z : Shared) (H : Hp) (C : Addr) (cl : List (Str × Addr)) (fp : List Addr), PE (X.blk z H scope (compEnvC scope cl C X.env) fp) kx tk)
    (d2 : ∀ (z : Shared) (H : Hp) (C : Addr) (cl : List (Str × Addr)) (fp : List Addr), PE (X.blk z H scope (compEnvC scope cl C X.env) fp) vx tv) (d3 : ∀ x, foldedSetIterable iter X.env x = pure x := by intro _; rfl) :
    PS X (.Assign [.Name y py] (.DictComp kx vx [⟨tg, iter, ifs, 0⟩] scope pos) spos) (tAsg (tDc wi g tt tk tv (own.map (·.2))) (gName i)) := by
  refine ⟨fun pins st0 σ H D inv hyp => ?_⟩
  have hyp' : tDc wi g tt tk tv (own.map (·.2)) σ H (fun v Hq => gName i v σ Hq D.nx) := hyp
  rw [exec_Assign_Name_used _ _ _ _ c5]
  refine wpAny_bind <| wpAny_standAt <| wpAny_bind ?_
  show wpAny _ X.A (do let _ ← comprehension (.DictComp kx vx [⟨tg, iter, ifs, 0⟩] scope pos) scope X.env (firstIterPos [⟨tg, iter, ifs, 0⟩] pos) newDict false (eval iter X.env) (some (assign (.Name y py) X.env))) _ _ st0
  have core := dc_core (Qf := fun _ fin => SP X pins D .next fin) (pos := pos) (pos' := firstIterPos [⟨tg, iter, ifs, 0⟩] pos) (use := some (assign (.Name y py) X.env)) c1 c2 inv c6 c7 c8 c9 d1 d2 d3 hyp' fun L C fin mm Hf inv' qf nsC fp => by
    show wpAny _ _ (assign (.Name y py) X.env (.ref L)) _ _ _
    obtain ⟨e0, e1, e2, e3, e4, e5⟩ := fp
    refine wpAny_assign_Name (store_ok2 (v := V.ref L) inv' c2 c3 (.inl c4) rfl (fun fin2 inv2 ⟨w, same, hw⟩ => ?_) (.inr c4))
    have cw : C ≠ w := by
      intro z
      cases hw with
      | inl hw => exact e1 (z.trans hw)
      | inr hw => exact e4 y w hw z.symm
    exact ⟨mm, nsC.sameBut same cw, fun h3 sb3 => ⟨_, Hf, inv2.turned (t' := fin2.toks) (fun b o hb e => (sb3.2 b hb).trans e) e0 e1 e3 e4 e5, qf⟩⟩
  exact wpAny_bind (thn core fun _ fin hq => wpAny_pure (wpAny_pure hq))
theorem seq_via {t u : TS} {D : Ends} {σ : L2.St} {H : Hp} (P : L2.St → Hp → Prop) (hu : ∀ σ H, P σ H → u D σ H) (ht : (∀ σ H, P σ H → u D σ H) → t { D with nx := u D } σ H) : tSeq t u D σ H := ht hu
def isVarN : PyData → Bool
  | .tuple [_, _] => true | _ => false
def numN : PyData → Int
  | .tuple [_, .int n] => n | _ => 0
theorem var_arN {d : PyData} (h : isVarN d = true) : arN d = 0 := by
  cases d with
  | tuple ds =>
    rcases ds with _ | ⟨a, _ | ⟨b, _ | ⟨c, r⟩⟩⟩
    · rfl
    · rfl
    · rfl
    · cases h
  | _ => rfl
theorem nd_eq {d e : PyData} (h : NdA d) (h2 : NdA e) (q : PyData.eqv d e = true) : d = e := by
  obtain ⟨wd, h⟩ := h
  obtain ⟨we, h2⟩ := h2
  cases h with
  | v n _ _ =>
    cases h2 with
    | v m _ _ =>
      simp only [PyData.eqv, PyData.eqvAll, Bool.and_eq_true, beq_iff_eq] at q
      rw [q.2.1]
    | i m _ _ => simp [PyData.eqv] at q
    | f x m _ _ _ => simp [PyData.eqv, PyData.eqvAll] at q
  | i n _ _ =>
    cases h2 with
    | v m _ _ => simp [PyData.eqv] at q
    | i m _ _ =>
      simp only [PyData.eqv, beq_iff_eq] at q
      rw [q]
    | f x m _ _ _ => simp [PyData.eqv] at q
  | f x n _ _ _ =>
    cases h2 with
    | v m _ _ => simp [PyData.eqv, PyData.eqvAll] at q
    | i m _ _ => simp [PyData.eqv] at q
    | f y m _ _ _ =>
      simp only [PyData.eqv, PyData.eqvAll, Bool.and_eq_true, beq_iff_eq] at q
      rw [q.2.1, q.2.2.1]
theorem nds_eq : ∀ {ds es : List PyData}, (∀ d ∈ ds, NdA d) → (∀ e ∈ es, NdA e) → PyData.eqvAll ds es = true → ds = es
  | [], [], _, _, _ => rfl
  | [], _ :: _, _, _, h => by simp [PyData.eqvAll] at h
  | _ :: _, [], _, _, h => by simp [PyData.eqvAll] at h
  | d :: ds, e :: es, h1, h2, h => by
    simp only [PyData.eqvAll, Bool.and_eq_true] at h
    rw [nd_eq (h1 d List.mem_cons_self) (h2 e List.mem_cons_self) h.1, nds_eq (fun x hx => h1 x (List.mem_cons_of_mem _ hx)) (fun x hx => h2 x (List.mem_cons_of_mem _ hx)) h.2]
theorem tup_eq {ds es : List PyData} (h1 : ∀ d ∈ ds, NdA d) (h2 : ∀ e ∈ es, NdA e) (h : PyData.eqv (.tuple ds) (.tuple es) = true) : ds = es := by
  simp only [PyData.eqv] at h
  exact nds_eq h1 h2 h
theorem cls_app : ∀ (l r : List PyData) (j k : Nat), Cls j l → Cls k r → Cls (j + k) (l ++ r)
  | [], r, j, k, h, h2 => by
    have e : j = 0 := h
    rw [e, Nat.zero_add]
    exact h2
  | d :: l, r, j, k, h, h2 => by
    refine ⟨by have := h.1; omega, ?_⟩
    have := cls_app l r (j - 1 + arN d) k h.2 h2
    have e := h.1
    rwa [show j - 1 + arN d + k = j + k - 1 + arN d by omega] at this
/-- at each place of what is closed so many terms are missing -/
theorem cls_split : ∀ (ds : List PyData) (m i : Nat), Cls m ds → i ≤ ds.length → ∃ k, Cls k (ds.drop i) ∧ ∀ t, Cls k t → Cls m (ds.take i ++ t)
  | ds, m, 0, h, _ => ⟨m, h, fun t ht => ht⟩
  | [], m, i + 1, h, hi => absurd hi (by simp)
  | d :: ds, m, i + 1, h, hi => by
    obtain ⟨k, h1, h2⟩ := cls_split ds (m - 1 + arN d) i h.2 (by simpa using hi)
    exact ⟨k, h1, fun t ht => ⟨h.1, h2 t ht⟩⟩
abbrev Tab := List (Int × List PyData)
def valT (t : Tab) (n : Int) : Option (List PyData) := (t.find? fun p => decide (p.1 = n)).map (·.2)
/-- a dict with this table -/
def TabK (K : PySem.W.Frag) (H : Hp) : List (Key × V) → Tab → Prop
  | [], [] => True
  | p :: kvs, q :: t => p.1 = Sum.inl q.1 ∧ Dp K H p.2 (.tuple q.2) ∧ TabK K H kvs t
  | _, _ => False
def TabN (t : Tab) : Prop := ∀ p ∈ t, (∀ d ∈ p.2, NdA d)
theorem TabK.len {K : PySem.W.Frag} {H : Hp} : ∀ {kvs : List (Key × V)} {t : Tab}, TabK K H kvs t → kvs.length = t.length
  | [], [], _ => rfl
  | [], _ :: _, h => h.elim
  | _ :: _, [], h => h.elim
  | p :: kvs, q :: t, h => congrArg (· + 1) (TabK.len h.2.2)
theorem TabK.mono {K : PySem.W.Frag} {H H' : Hp} (f : ∀ v ds, (∀ d ∈ ds, NdA d) → Dp K H v (.tuple ds) → Dp K H' v (.tuple ds)) : ∀ {kvs : List (Key × V)} {t : Tab}, TabN t → TabK K H kvs t → TabK K H' kvs t
  | [], [], _, _ => True.intro
  | [], _ :: _, _, h => h.elim
  | _ :: _, [], _, h => h.elim
  | p :: kvs, q :: t, n, h => ⟨h.1, f _ _ (n q List.mem_cons_self) h.2.1, TabK.mono f (fun x hx => n x (List.mem_cons_of_mem _ hx)) h.2.2⟩
theorem TabK.val {K : PySem.W.Frag} {H : Hp} (n : Int) : ∀ {kvs : List (Key × V)} {t : Tab}, TabK K H kvs t → (valV kvs (Sum.inl n) = none ∧ valT t n = none) ∨ ∃ v ds, valV kvs (Sum.inl n) = some v ∧ valT t n = some ds ∧ Dp K H v (.tuple ds)
  | [], [], _ => .inl ⟨rfl, rfl⟩
  | [], _ :: _, h => h.elim
  | _ :: _, [], h => h.elim
  | p :: kvs, q :: t, h => by
    by_cases e : q.1 = n
    · refine .inr ⟨p.2, q.2, valV_pos (by rw [h.1, e]), ?_, h.2.1⟩
      unfold valT
      rw [List.find?_cons, decide_eq_true e]
      rfl
    · have e1 : ¬ p.1 = Sum.inl n := fun z => e (Sum.inl.inj (h.1.symm.trans z))
      have e2 : valT (q :: t) n = valT t n := by
        unfold valT
        rw [List.find?_cons, decide_eq_false e]
      rw [valV_neg e1, e2]
      exact TabK.val n h.2.2
theorem TabK.snoc {K : PySem.W.Frag} {H : Hp} {n : Int} {v : V} {ds : List PyData} (hd : Dp K H v (.tuple ds)) : ∀ {kvs : List (Key × V)} {t : Tab}, TabK K H kvs t → TabK K H (kvs ++ [(Sum.inl n, v)]) (t ++ [(n, ds)])
  | [], [], _ => ⟨rfl, hd, True.intro⟩
  | [], _ :: _, h => h.elim
  | _ :: _, [], h => h.elim
  | p :: kvs, q :: t, h => ⟨h.1, h.2.1, TabK.snoc hd h.2.2⟩
theorem valT_snoc (t : Tab) (n m : Int) (ds : List PyData) (h : valT t n = none) : valT (t ++ [(n, ds)]) m = if m = n then some ds else valT t m := by
  unfold valT at *
  rw [List.find?_append]
  cases e : t.find? fun p => decide (p.1 = m) with
  | some p =>
    have hm : ¬ m = n := fun z => by rw [z] at e; rw [e] at h; cases h
    rw [if_neg hm]
    rfl
  | none =>
    by_cases hm : m = n
    · rw [if_pos hm, Option.none_or]
      rw [List.find?_cons, decide_eq_true hm.symm]
      rfl
    · rw [if_neg hm, Option.none_or]
      rw [List.find?_cons, decide_eq_false (fun z => hm z.symm)]
      rfl
theorem valT_none {t : Tab} {n : Int} (h : valT t n = none) : ∀ q ∈ t, q.1 ≠ n := by
  intro q hq e
  unfold valT at h
  rw [Option.map_eq_none_iff, List.find?_eq_none] at h
  exact h q hq (decide_eq_true e)
mutual
def noL : PyData → Bool
  | .none => true
  | .bool _ => true
  | .int _ => true
  | .str _ => true
  | .tuple ds => noLA ds
  | .list _ => false
  | .dict _ => false
def noLA : List PyData → Bool
  | [] => true
  | d :: ds => noL d && noLA ds
end
def notTup (H : Hp) (p : Addr) : Prop := (∃ ys, H p = some (.lst ys)) ∨ (∃ kvs, H p = some (.dK kvs)) ∨ ∃ o kvs, H p = some (.frz o (.dK kvs))
theorem sqT_put {K : PySem.W.Frag} {H : Hp} {p b : Addr} {o : HO} {xs : List V} (hp : notTup H p) (h : SqT K H b xs) : SqT K (upd H p o) b xs := by
  rcases h with (h | ⟨q, h⟩) | h
  · exact .inl (.inl (by rw [upd_ne (fun z => by rw [z] at h; rcases hp with ⟨_, hp⟩ | ⟨_, hp⟩ | ⟨_, _, hp⟩ <;> (rw [hp] at h; cases h))]; exact h))
  · exact .inl (.inr ⟨q, by rw [upd_ne (fun z => by rw [z] at h; rcases hp with ⟨_, hp⟩ | ⟨_, hp⟩ | ⟨_, _, hp⟩ <;> (rw [hp] at h; cases h))]; exact h⟩)
  · exact .inr h
section
variable {K : PySem.W.Frag} {H : Hp} {p : Addr} {o : HO}
mutual
theorem dp_put (hp : notTup H p) : ∀ (d : PyData) (v : V), noL d = true → Dp K H v d → Dp K (upd H p o) v d
  | .none, _, _, h => by cases h; exact .non
  | .bool b, _, _, h => by cases h; exact .bl b
  | .int i, _, _, h => by cases h; exact .int i
  | .str x, _, _, h => by cases h; exact .str x
  | .list ds, _, n, h => by simp [noL] at n
  | .tuple ds, _, n, h => by
    cases h with
    | tup g ha => exact .tup (sqT_put hp g) (dp_putAll hp ds _ (by simpa [noL] using n) ha)
  | .dict _, _, n, h => by cases h
theorem dp_putAll (hp : notTup H p) : ∀ (ds : List PyData) (vs : List V), noLA ds = true → DpAll K H vs ds → DpAll K (upd H p o) vs ds
  | [], _, _, h => by cases h; exact .nil
  | d :: ds, _, n, h => by
    rw [noLA, Bool.and_eq_true] at n
    cases h with
    | cons h1 h2 => exact .cons (dp_put hp d _ n.1 h1) (dp_putAll hp ds _ n.2 h2)
end
end
theorem nd_noL {d : PyData} (h : NdA d) : noL d = true := by
  obtain ⟨wd, h⟩ := h
  cases h <;> simp [noL, noLA]
theorem nds_noL : ∀ {ds : List PyData}, (∀ d ∈ ds, NdA d) → noLA ds = true
  | [], _ => by simp [noLA]
  | d :: r, h => by rw [noLA, nd_noL (h d List.mem_cons_self), nds_noL fun e he => h e (List.mem_cons_of_mem _ he)]; rfl
theorem tup_noL {ds : List PyData} (h : ∀ d ∈ ds, NdA d) : noL (.tuple ds) = true := by rw [noL]; exact nds_noL h
theorem tab_put {K : PySem.W.Frag} {H : Hp} {p : Addr} {o : HO} {kvs : List (Key × V)} {t : Tab} (hp : notTup H p) (n : TabN t) (h : TabK K H kvs t) : TabK K (upd H p o) kvs t := TabK.mono (fun v ds hn hd => dp_put hp _ _ (tup_noL hn) hd) n h
theorem tab_same {K : PySem.W.Frag} {H H' : Hp} {kvs : List (Key × V)} {t : Tab} (s : Same H H') (n : TabN t) (h : TabK K H kvs t) : TabK K H' kvs t := TabK.mono (fun v ds _ hd => dp_same s _ _ hd) n h
section
variable {K : PySem.W.Frag} {H H' : Hp}
mutual
theorem dp_map (f : ∀ b xs, SqT K H b xs → SqT K H' b xs) : ∀ (d : PyData) (v : V), noL d = true → Dp K H v d → Dp K H' v d
  | .none, _, _, h => by cases h; exact .non
  | .bool b, _, _, h => by cases h; exact .bl b
  | .int i, _, _, h => by cases h; exact .int i
  | .str x, _, _, h => by cases h; exact .str x
  | .list ds, _, n, h => by simp [noL] at n
  | .tuple ds, _, n, h => by
    cases h with
    | tup g ha => exact .tup (f _ _ g) (dp_mapAll f ds _ (by simpa [noL] using n) ha)
  | .dict _, _, n, h => by cases h
theorem dp_mapAll (f : ∀ b xs, SqT K H b xs → SqT K H' b xs) : ∀ (ds : List PyData) (vs : List V), noLA ds = true → DpAll K H vs ds → DpAll K H' vs ds
  | [], _, _, h => by cases h; exact .nil
  | d :: ds, _, n, h => by
    rw [noLA, Bool.and_eq_true] at n
    cases h with
    | cons h1 h2 => exact .cons (dp_map f d _ n.1 h1) (dp_mapAll f ds _ n.2 h2)
end
theorem sqT_but {p b : Addr} {xs : List V} (hp : notTup H p) (hb : But p H H') (h : SqT K H b xs) : SqT K H' b xs := by
  rcases h with (h | ⟨q, h⟩) | h
  · exact .inl (.inl (hb _ _ (fun z => by rw [z] at h; rcases hp with ⟨_, hp⟩ | ⟨_, hp⟩ | ⟨_, _, hp⟩ <;> (rw [hp] at h; cases h)) h))
  · exact .inl (.inr ⟨q, hb _ _ (fun z => by rw [z] at h; rcases hp with ⟨_, hp⟩ | ⟨_, hp⟩ | ⟨_, _, hp⟩ <;> (rw [hp] at h; cases h)) h⟩)
  · exact .inr h
/-- draws change the stream alone -/
theorem dp_but {s l : Addr} {v : V} {ds : List PyData} (S : Stm H s l) (b : But s H H') (n : ∀ d ∈ ds, NdA d) (h : Dp K H v (.tuple ds)) : Dp K H' v (.tuple ds) := by
  obtain ⟨x, y, m, ns, e, _⟩ := S.ex
  exact dp_map (fun c xs g => sqT_but (.inl ⟨_, e⟩) b g) _ _ (tup_noL n) h
end
theorem TabK.rep {K : PySem.W.Frag} {H : Hp} {n : Int} {v : V} {ds : List PyData} (hd : Dp K H v (.tuple ds)) : ∀ {kvs : List (Key × V)} {t : Tab}, TabK K H kvs t → TabK K H (kvs.map fun kv => if kv.1 = Sum.inl n then (kv.1, v) else kv) (t.map fun q => if q.1 = n then (q.1, ds) else q)
  | [], [], _ => True.intro
  | [], _ :: _, h => h.elim
  | _ :: _, [], h => h.elim
  | p :: kvs, q :: t, h => by
    have i : p.1 = Sum.inl n ↔ q.1 = n := by rw [h.1]; exact ⟨fun z => Sum.inl.inj z, fun z => congrArg _ z⟩
    refine ⟨?_, ?_, TabK.rep hd h.2.2⟩
    · by_cases e : q.1 = n
      · simp only [if_pos e, if_pos (i.mpr e)]; exact h.1
      · simp only [if_neg e, if_neg (fun z => e (i.mp z))]; exact h.1
    · by_cases e : q.1 = n
      · simp only [if_pos e, if_pos (i.mpr e)]; exact hd
      · simp only [if_neg e, if_neg (fun z => e (i.mp z))]; exact h.2.1
theorem TabK.put {K : PySem.W.Frag} {H : Hp} {n : Int} {v : V} {ds : List PyData} (hd : Dp K H v (.tuple ds)) {kvs : List (Key × V)} {t : Tab} (h : TabK K H kvs t) : ∃ t', TabK K H (putK kvs (Sum.inl n) v) t' ∧ (∀ q ∈ t', q ∈ t ∨ q.2 = ds) ∧ t'.length ≤ t.length + 1 := by
  unfold putK
  split
  · refine ⟨_, TabK.rep hd h, fun q hq => ?_, by rw [List.length_map]; exact Nat.le_succ _⟩
    obtain ⟨q', h1, h2⟩ := List.mem_map.mp hq
    split at h2
    · right; rw [← h2]
    · left; rw [← h2]; exact h1
  · refine ⟨_, TabK.snoc hd h, fun q hq => ?_, by rw [List.length_append]; exact Nat.le_refl _⟩
    rcases List.mem_append.mp hq with z | z
    · exact .inl z
    · right; rw [List.mem_singleton.mp z]
theorem TabK.at_ {K : PySem.W.Frag} {H : Hp} : ∀ {kvs : List (Key × V)} {t : Tab} {i : Nat} {k : Key} {v : V}, TabK K H kvs t → kvs[i]? = some (k, v) → ∃ q, q ∈ t ∧ k = Sum.inl q.1
  | [], [], i, k, v, _, h => by simp at h
  | [], _ :: _, _, _, _, h, _ => h.elim
  | _ :: _, [], _, _, _, h, _ => h.elim
  | p :: kvs, q :: t, 0, k, v, h, e => by
    rw [List.getElem?_cons_zero] at e
    cases e
    exact ⟨q, List.mem_cons_self, h.1⟩
  | p :: kvs, q :: t, i + 1, k, v, h, e => by
    rw [List.getElem?_cons_succ] at e
    obtain ⟨q', h1, h2⟩ := TabK.at_ h.2.2 e
    exact ⟨q', List.mem_cons_of_mem _ h1, h2⟩
theorem valT_of {t : Tab} {q : Int × List PyData} (h : q ∈ t) : ∃ ds, valT t q.1 = some ds := by
  cases e : valT t q.1 with
  | some ds => exact ⟨ds, rfl⟩
  | none => exact absurd rfl (valT_none e q h)
theorem putK_old {kvs : List (Key × V)} {k : Key} {v w : V} (h : valV kvs k = some w) : putK kvs k v = kvs.map fun kv => if kv.1 = k then (kv.1, v) else kv := by
  unfold putK
  rw [if_pos (by rw [valV_any, h]; rfl)]
theorem valT_mem {t : Tab} {n : Int} {ds : List PyData} (h : valT t n = some ds) : ∃ q ∈ t, q.2 = ds := by
  unfold valT at h
  cases e : t.find? fun p => decide (p.1 = n) with
  | none => rw [e] at h; cases h
  | some p =>
    rw [e] at h
    exact ⟨p, List.mem_of_find?_eq_some e, Option.some.inj h⟩
/-- a dict comprehension over what is walked -/
theorem dc_it {J : It} {n : Nat} {G : Hp → Prop} {Y : Nat → Hp → V → Hp → Prop} (wk : Walk J n G Y) {g : TG} {tt : TT} {tk tv : TE} {vs : List Nat} {σ : L2.St} {H1 : Hp} {D : Addr} {Qd : Hp → Prop} (Pv : Nat → Hp → Prop) (p0 : Pv 0 (upd H1 D (.dK []))) (pG : ∀ i H, i ≤ n → Pv i H → G H)
    (turn : ∀ i x H H', i < n → Pv i H → Y i H x H' → g x (wipe σ vs) H' fun σ2 H2 => wipe σ2 vs = wipe σ vs ∧ tt σ2 H2 fun b H3 =>
      if b = true then tk σ2 H3 fun y H4 => tv σ2 H4 fun z H5 => ∃ kvs k, y = kV k ∧ H5 D = some (.dK kvs) ∧ kvs.length < sizeLine ∧ Pv (i + 1) (upd H5 D (.dK (putK kvs k z))) else Pv (i + 1) H3) (pd : ∀ H, Pv n H → Qd H) :
    ∃ W : Nat → Nat → Hp → Prop, (∃ m, W 0 m (upd H1 D (.dK []))) ∧ ∀ i m H, W i m H →
      (J.stop i H ∧ Qd H) ∨ (J.go i H ∧ ∃ Nx : Hp → Prop, (∀ H', Nx H' → ∃ m', m' < m ∧ W (i + 1) m' H') ∧ ∀ x H', J.yld i H x H' → g x (wipe σ vs) H' fun σ2 H2 => wipe σ2 vs = wipe σ vs ∧ tt σ2 H2 fun b H3 =>
        if b = true then tk σ2 H3 fun y H4 => tv σ2 H4 fun z H5 => ∃ kvs k, y = kV k ∧ H5 D = some (.dK kvs) ∧ kvs.length < sizeLine ∧ Nx (upd H5 D (.dK (putK kvs k z))) else Nx H3) := by
  refine ⟨fun i m H => m = n - i ∧ i ≤ n ∧ Pv i H, ⟨n, by simp, Nat.zero_le _, p0⟩, ?_⟩
  rintro i m H ⟨rfl, hi, hp⟩
  have hg := pG i H hi hp
  rcases Nat.lt_or_ge i n with hlt | hge
  · exact .inr ⟨wk.goes i H hlt hg, Pv (i + 1), fun σ' p' => ⟨n - (i + 1), by omega, rfl, hlt, p'⟩, fun x H' y => turn i x H H' hlt hp (wk.yields i H x H' hlt hg y)⟩
  · obtain rfl : i = n := by omega
    exact .inl ⟨wk.stops H hg, pd H hp⟩
theorem TabK.get {K : PySem.W.Frag} {H : Hp} : ∀ {kvs : List (Key × V)} {t : Tab} {i : Nat} {kv : Key × V}, TabK K H kvs t → kvs[i]? = some kv → ∃ q, t[i]? = some q ∧ kv.1 = Sum.inl q.1 ∧ Dp K H kv.2 (.tuple q.2)
  | [], [], i, kv, _, h => by simp at h
  | [], _ :: _, _, _, h, _ => h.elim
  | _ :: _, [], _, _, h, _ => h.elim
  | p :: kvs, q :: t, 0, kv, h, e => by
    rw [List.getElem?_cons_zero] at e
    cases e
    exact ⟨q, rfl, h.1, h.2.1⟩
  | p :: kvs, q :: t, i + 1, kv, h, e => by
    rw [List.getElem?_cons_succ] at e
    obtain ⟨q', h1, h2⟩ := TabK.get h.2.2 e
    exact ⟨q', by rw [List.getElem?_cons_succ]; exact h1, h2⟩
theorem valT_notin {t : Tab} {n : Int} (h : n ∉ t.map (·.1)) : valT t n = none := by
  unfold valT
  rw [Option.map_eq_none_iff, List.find?_eq_none]
  exact fun q hq e => h (List.mem_map.mpr ⟨q, hq, of_decide_eq_true e⟩)
theorem TabK.none {K : PySem.W.Frag} {H : Hp} {kvs : List (Key × V)} {t : Tab} {n : Int} (T : TabK K H kvs t) (h : n ∉ t.map (·.1)) : valV kvs (Sum.inl n) = Option.none := by
  rcases TabK.val n T with ⟨w, _⟩ | ⟨v, ds, _, w, _⟩
  · exact w
  · rw [valT_notin h] at w; cases w
theorem TabK.some {K : PySem.W.Frag} {H : Hp} {kvs : List (Key × V)} {t : Tab} {n : Int} (T : TabK K H kvs t) (h : n ∈ t.map (·.1)) : (valV kvs (Sum.inl n)).isSome = true := by
  obtain ⟨q, hq, rfl⟩ := List.mem_map.mp h
  rcases TabK.val q.1 T with ⟨_, w⟩ | ⟨v, ds, w, _, _⟩
  · exact absurd rfl (valT_none w q hq)
  · rw [w]; rfl
/-- a key that is new goes to the end -/
theorem TabK.add {K : PySem.W.Frag} {H : Hp} {kvs : List (Key × V)} {t : Tab} {n : Int} {v : V} {ds : List PyData} (T : TabK K H kvs t) (h : n ∉ t.map (·.1)) (hd : Dp K H v (.tuple ds)) : TabK K H (putK kvs (Sum.inl n) v) (t ++ [(n, ds)]) := by
  rw [putK_new _ (T.none h)]
  exact TabK.snoc hd T
/-- the i-th key is none of those before -/
theorem nodup_new {t : Tab} {i : Nat} {q : Int × List PyData} (h : (t.map (·.1)).Nodup) (hq : t[i]? = some q) : q.1 ∉ (t.take i).map (·.1) := by
  intro hm
  obtain ⟨x, hx, e⟩ := List.mem_map.mp hm
  obtain ⟨j, hj⟩ := List.getElem?_of_mem hx
  have hji : j < i := by
    have := (List.getElem?_eq_some_iff.mp hj).1
    rw [List.length_take] at this
    omega
  rw [List.getElem?_take_of_lt hji] at hj
  have a1 : (t.map (·.1))[j]? = some q.1 := by rw [List.getElem?_map, hj, ← e]; rfl
  have a2 : (t.map (·.1))[i]? = some q.1 := by rw [List.getElem?_map, hq]; rfl
  have b1 := (List.getElem?_eq_some_iff.mp a1).1
  have := (List.getElem?_inj b1 h).mp (a1.trans a2.symm)
  omega
/-! ### substitutions -/
def varN (n : Int) : List PyData := [.tuple [.str "v", .int n]]
def appN (t : Tab) (d : PyData) : List PyData := if isVarN d = true then (match valT t (numN d) with | some w => w | none => [d]) else [d]
def appM (t : Tab) (ds : List PyData) : List PyData := ds.flatMap (appN t)
/-- a value that is the key itself falls out -/
def keepN (n : Int) (w : List PyData) : Option (List PyData) := if PyData.eqv (.tuple w) (.tuple (varN n)) = true then none else some w
def compV (t u : Tab) (n : Int) : Option (List PyData) :=
  match valT t n with
  | some w => keepN n (appM u w)
  | none => (match valT u n with | some w => keepN n w | none => none)
theorem var_form {d : PyData} (h : NdA d) (v : isVarN d = true) : ∃ n, d = .tuple [.str "v", .int n] := by
  obtain ⟨wd, nd⟩ := h
  cases nd with
  | v n _ _ => exact ⟨n, rfl⟩
  | i n _ _ => cases v
  | f x n _ _ _ => cases v
theorem var_nd {n : Int} (h : 0 ≤ n) : ∀ d ∈ varN n, NdA d := fun d hd => ⟨n + 1, by rw [List.mem_singleton.mp hd]; exact .v n h (by omega)⟩
theorem valT_nd {t : Tab} {n : Int} {w : List PyData} (ht : TabN t) (h : valT t n = some w) : ∀ d ∈ w, NdA d := by
  obtain ⟨q, hq, e⟩ := valT_mem h
  rw [← e]
  exact ht q hq
theorem appN_nd {t : Tab} (ht : TabN t) {d : PyData} (hd : NdA d) : ∀ e ∈ appN t d, NdA e := by
  unfold appN
  by_cases v : isVarN d = true
  · rw [if_pos v]
    cases e : valT t (numN d) with
    | some w => exact valT_nd ht e
    | none => exact fun e he => by rw [List.mem_singleton.mp he]; exact hd
  · rw [if_neg v]
    exact fun e he => by rw [List.mem_singleton.mp he]; exact hd
theorem appM_nd {t : Tab} (ht : TabN t) {ds : List PyData} (hd : ∀ d ∈ ds, NdA d) : ∀ e ∈ appM t ds, NdA e := fun e he => by
  obtain ⟨d, h1, h2⟩ := List.mem_flatMap.mp he
  exact appN_nd ht (hd d h1) e h2
theorem var_num {d : PyData} (h : NdA d) (v : isVarN d = true) : ∃ n, 0 ≤ n ∧ d = .tuple [.str "v", .int n] := by
  obtain ⟨wd, nd⟩ := h
  cases nd with
  | v n h1 _ => exact ⟨n, h1, rfl⟩
  | i n _ _ => cases v
  | f x n _ _ _ => cases v
theorem comp_app {t u c : Tab} (nt : TabN t) (nu : TabN u) (hc : ∀ n, valT c n = compV t u n) {ds : List PyData} (nd : ∀ d ∈ ds, NdA d) : appM c ds = appM u (appM t ds) := by
  unfold appM
  rw [List.flatMap_assoc]
  have h : ∀ d ∈ ds, appN c d = (appN t d).flatMap (appN u) := by
    intro d hd
    by_cases v : isVarN d = true
    · obtain ⟨n, n0, rfl⟩ := var_num (nd d hd) v
      have e1 : ∀ s : Tab, appN s (.tuple [.str "v", .int n]) = (match valT s n with | some w => w | none => varN n) := fun s => by
        unfold appN
        rw [if_pos v]
        rfl
      rw [e1, e1, hc n]
      unfold compV
      cases ht : valT t n with
      | some w =>
        simp only
        unfold keepN
        by_cases hk : PyData.eqv (.tuple (appM u w)) (.tuple (varN n)) = true
        · rw [if_pos hk]
          exact (tup_eq (appM_nd nu (valT_nd nt ht)) (var_nd n0) hk).symm
        · rw [if_neg hk]
          rfl
      | none =>
        simp only
        have e2 : (varN n).flatMap (appN u) = (match valT u n with | some w => w | none => varN n) := by
          unfold varN
          rw [List.flatMap_cons, List.flatMap_nil, List.append_nil]
          exact e1 u
        rw [e2]
        cases hu : valT u n with
        | some w =>
          simp only
          unfold keepN
          by_cases hk : PyData.eqv (.tuple w) (.tuple (varN n)) = true
          · rw [if_pos hk]
            exact (tup_eq (valT_nd nu hu) (var_nd n0) hk).symm
          · rw [if_neg hk]
        | none => rfl
    · have e3 : ∀ s : Tab, appN s d = [d] := fun s => if_neg v
      rw [e3, e3, List.flatMap_cons, List.flatMap_nil, List.append_nil, e3]
  clear hc
  induction ds with
  | nil => rfl
  | cons d r ih =>
    rw [List.flatMap_cons, List.flatMap_cons, h d List.mem_cons_self, ih (fun x hx => nd x (List.mem_cons_of_mem _ hx)) fun x hx => h x (List.mem_cons_of_mem _ hx)]
theorem appM_take {t : Tab} {ds : List PyData} {i : Nat} {d : PyData} (h : ds[i]? = some d) : appM t (ds.take (i + 1)) = appM t (ds.take i) ++ appN t d := by
  unfold appM
  rw [List.take_add_one, h, List.flatMap_append]
  show _ ++ (appN t d ++ []) = _
  rw [List.append_nil]
theorem appN_non {t : Tab} {d : PyData} (v : ¬ isVarN d = true) : appN t d = [d] := if_neg v
theorem appN_out {t : Tab} {n : Int} (h : valT t n = none) : appN t (.tuple [.str "v", .int n]) = [.tuple [.str "v", .int n]] := by
  unfold appN
  rw [if_pos (show isVarN (.tuple [.str "v", .int n]) = true from rfl), show numN (.tuple [.str "v", .int n]) = n from rfl, h]
theorem appN_in {t : Tab} {n : Int} {w : List PyData} (h : valT t n = some w) : appN t (.tuple [.str "v", .int n]) = w := by
  unfold appN
  rw [if_pos (show isVarN (.tuple [.str "v", .int n]) = true from rfl), show numN (.tuple [.str "v", .int n]) = n from rfl, h]
/-- the composed table: the first one's values with the second applied, then what the second adds, without a key that is its own value -/
def comp1 (t u : Tab) : Tab := t.map fun x => (x.1, appM u x.2)
def newK (t : Tab) (x : Int × List PyData) : Bool := !(decide (x.1 ∈ t.map (·.1)))
def notOwn (x : Int × List PyData) : Bool := !PyData.eqv (.tuple x.2) (.tuple (varN x.1))
def compT (t u : Tab) : Tab := (comp1 t u ++ u.filter (newK t)).filter notOwn
theorem comp1_keys (t u : Tab) : (comp1 t u).map (·.1) = t.map (·.1) := by unfold comp1; rw [List.map_map]; rfl
theorem comp1_nd {t u : Tab} (ht : TabN t) (hu : TabN u) : TabN (comp1 t u) := fun x hx => by
  obtain ⟨q, h1, rfl⟩ := List.mem_map.mp hx
  exact appM_nd hu (ht q h1)
/-! ### the order of the tables -/
def tagN (d : PyData) : Int := if isVarN d then 0 else if isSymN d then 2 else 1
def restN : PyData → List PyData
  | .tuple [_, n] => [n, .str ""]
  | .tuple [_, x, n] => [n, x]
  | d => [d, .str ""]
def keyN (d : PyData) : List PyData := .int (tagN d) :: restN d
def keyD (d : PyData) : PyData := .tuple (keyN d)
def rankD (d : PyData) : PyData := .list (keyN d)
def ktM (ds : List PyData) : PyData := .list (ds.map keyD)
def klM (ds : List PyData) : PyData := .list (ds.map rankD)
def befM (ds es : List PyData) : Bool := PySem.W.dataLt (klM ds) (klM es)
def ordM (ds es : List PyData) : Int := if PyData.eqvAll ds es = true then 0 else if befM ds es = true then -1 else 1
theorem rest_form {d : PyData} (h : NdA d) : ∃ i y, restN d = [.int i, .str y] ∧ PyData.strOk y = true := by
  obtain ⟨wd, h⟩ := h
  cases h with
  | v n _ _ => exact ⟨n, "", rfl, by decide +kernel⟩
  | i n _ _ => exact ⟨n, "", rfl, by decide +kernel⟩
  | f x n hx _ _ => exact ⟨n, x, rfl, okName_cps hx⟩
theorem key_facts {d : PyData} (h : NdA d) : (keyD d).canLay0 = true ∧ (keyD d).depth ≤ 1 ∧ (rankD d).depth ≤ 1 ∧ noL (keyD d) = true := by
  obtain ⟨i, y, e1, e2⟩ := rest_form h
  unfold keyD rankD keyN
  rw [e1]
  exact ⟨by simp only [PyData.canLay0, PyData.canLayAll0]; rw [e2]; rfl, by simp [PyData.depth, PyData.depthAll], by simp [PyData.depth, PyData.depthAll], by simp [noL, noLA]⟩
theorem key_alike {d e : PyData} (h : NdA d) (h2 : NdA e) : PySem.W.alike (keyD d) (keyD e) = true ∧ PySem.W.alike (rankD d) (rankD e) = true := by
  obtain ⟨i, y, e1, _⟩ := rest_form h
  obtain ⟨j, z, e2, _⟩ := rest_form h2
  unfold keyD rankD keyN
  rw [e1, e2]
  constructor <;> simp [PySem.W.alike, PySem.W.alikeAll]
theorem keys_facts : ∀ {ds : List PyData}, (∀ d ∈ ds, NdA d) → PyData.canLayAll0 (ds.map keyD) = true ∧ PyData.depthAll (ds.map keyD) ≤ 1 ∧ PyData.depthAll (ds.map rankD) ≤ 1 ∧ noLA (ds.map keyD) = true
  | [], _ => ⟨by simp [PyData.canLayAll0], by simp [PyData.depthAll], by simp [PyData.depthAll], by simp [noLA]⟩
  | d :: r, h => by
    obtain ⟨a1, a2, a3, a4⟩ := key_facts (h d List.mem_cons_self)
    obtain ⟨b1, b2, b3, b4⟩ := keys_facts (ds := r) fun e he => h e (List.mem_cons_of_mem _ he)
    rw [List.map_cons, List.map_cons]
    refine ⟨by simp only [PyData.canLayAll0, a1, b1, Bool.and_self], ?_, ?_, by simp only [noLA, a4, b4, Bool.and_self]⟩
    · simp only [PyData.depthAll]; omega
    · simp only [PyData.depthAll]; omega
theorem keys_alike : ∀ {ds es : List PyData}, (∀ d ∈ ds, NdA d) → (∀ d ∈ es, NdA d) → PySem.W.alikeAll (ds.map keyD) (es.map keyD) = true ∧ PySem.W.alikeAll (ds.map rankD) (es.map rankD) = true
  | [], es, _, _ => ⟨by simp [PySem.W.alikeAll], by simp [PySem.W.alikeAll]⟩
  | d :: r, [], _, _ => ⟨by simp [PySem.W.alikeAll], by simp [PySem.W.alikeAll]⟩
  | d :: r, e :: q, h, h2 => by
    obtain ⟨a1, a2⟩ := key_alike (h d List.mem_cons_self) (h2 e List.mem_cons_self)
    obtain ⟨b1, b2⟩ := keys_alike (ds := r) (es := q) (fun e he => h e (List.mem_cons_of_mem _ he)) fun e he => h2 e (List.mem_cons_of_mem _ he)
    rw [List.map_cons, List.map_cons, List.map_cons, List.map_cons]
    exact ⟨by simp only [PySem.W.alikeAll, a1, b1, Bool.and_self], by simp only [PySem.W.alikeAll, a2, b2, Bool.and_self]⟩
theorem kt_shaped {ds : List PyData} (h : ∀ d ∈ ds, NdA d) : SeqAt.shaped (ktM ds) = true := by
  obtain ⟨a1, a2, _⟩ := keys_facts h
  have hd : (ktM ds).depth ≤ 64 := by
    unfold ktM
    simp only [PyData.depth]
    omega
  have hc : (ktM ds).canLay0 = true := by
    unfold ktM
    simp only [PyData.canLay0]
    exact a1
  show ((ktM ds).canLay0 && decide ((ktM ds).depth ≤ 64)) = true
  rw [hc, decide_eq_true hd]
  rfl
theorem kt_deep {ds : List PyData} (h : ∀ d ∈ ds, NdA d) : (ktM ds).depth ≤ 8 ∧ (klM ds).depth ≤ 8 := by
  obtain ⟨_, a2, a3, _⟩ := keys_facts h
  unfold ktM klM
  simp only [PyData.depth]
  omega
theorem kt_alike {ds es : List PyData} (h : ∀ d ∈ ds, NdA d) (h2 : ∀ d ∈ es, NdA d) : PySem.W.alike (ktM ds) (ktM es) = true ∧ PySem.W.alike (klM ds) (klM es) = true := by
  obtain ⟨a, b⟩ := keys_alike h h2
  unfold ktM klM
  exact ⟨by simp only [PySem.W.alike, a], by simp only [PySem.W.alike, b]⟩
theorem toks_same : ∀ (ds : List PyData), PySem.W.keyToksAll (ds.map keyD) = PySem.W.keyToksAll (ds.map rankD)
  | [] => rfl
  | d :: r => by
    rw [List.map_cons, List.map_cons, PySem.W.toks_all_cons, PySem.W.toks_all_cons, toks_same r]
    unfold keyD rankD
    simp only [PySem.W.keyToks]
theorem kt_lt (ds es : List PyData) : PySem.W.dataLt (ktM ds) (ktM es) = befM ds es := by
  unfold befM PySem.W.dataLt ktM klM
  simp only [PySem.W.keyToks]
  rw [toks_same, toks_same]
theorem key_eqv {d e : PyData} (h : NdA d) (h2 : NdA e) : PyData.eqv (keyD d) (keyD e) = PyData.eqv d e := by
  obtain ⟨wd, h⟩ := h
  obtain ⟨we, h2⟩ := h2
  cases h with
  | v n _ _ =>
    cases h2 with
    | v m _ _ => simp [keyD, keyN, restN, tagN, isVarN, PyData.eqv, PyData.eqvAll]
    | i m _ _ => simp [keyD, keyN, restN, tagN, isVarN, isSymN, PyData.eqv, PyData.eqvAll]
    | f x m _ _ _ => simp [keyD, keyN, restN, tagN, isVarN, isSymN, PyData.eqv, PyData.eqvAll]
  | i n _ _ =>
    cases h2 with
    | v m _ _ => simp [keyD, keyN, restN, tagN, isVarN, isSymN, PyData.eqv, PyData.eqvAll]
    | i m _ _ => simp [keyD, keyN, restN, tagN, isVarN, isSymN, PyData.eqv, PyData.eqvAll]
    | f x m _ _ _ => simp [keyD, keyN, restN, tagN, isVarN, isSymN, PyData.eqv, PyData.eqvAll]
  | f x n _ _ _ =>
    cases h2 with
    | v m _ _ => simp [keyD, keyN, restN, tagN, isVarN, isSymN, PyData.eqv, PyData.eqvAll]
    | i m _ _ => simp [keyD, keyN, restN, tagN, isVarN, isSymN, PyData.eqv, PyData.eqvAll]
    | f y m _ _ _ => simp [keyD, keyN, restN, tagN, isVarN, isSymN, PyData.eqv, PyData.eqvAll, Bool.and_comm]
theorem keys_eqv : ∀ {ds es : List PyData}, (∀ d ∈ ds, NdA d) → (∀ d ∈ es, NdA d) → PyData.eqvAll (ds.map keyD) (es.map keyD) = PyData.eqvAll ds es
  | [], [], _, _ => rfl
  | [], _ :: _, _, _ => by simp [PyData.eqvAll]
  | _ :: _, [], _, _ => by simp [PyData.eqvAll]
  | d :: r, e :: q, h, h2 => by
    rw [List.map_cons, List.map_cons]
    simp only [PyData.eqvAll]
    rw [key_eqv (h d List.mem_cons_self) (h2 e List.mem_cons_self), keys_eqv (fun e he => h e (List.mem_cons_of_mem _ he)) fun e he => h2 e (List.mem_cons_of_mem _ he)]
theorem kt_eqv {ds es : List PyData} (h : ∀ d ∈ ds, NdA d) (h2 : ∀ d ∈ es, NdA d) : PyData.eqv (ktM ds) (ktM es) = PyData.eqvAll ds es := by
  unfold ktM
  simp only [PyData.eqv]
  exact keys_eqv h h2
theorem lex_irr : ∀ l : List (Int ⊕ List Nat), PyProof.Rows.lexLt PyProof.Rows.itemOrd l l = false
  | [] => rfl
  | x :: l => (lex_self (O := PyProof.Rows.itemOrd) x l l).trans (lex_irr l)
theorem bef_ne {ds es : List PyData} (h : ∀ d ∈ ds, NdA d) (h2 : ∀ d ∈ es, NdA d) (b : befM ds es = true) : PyData.eqvAll ds es = false := by
  cases e : PyData.eqvAll ds es with
  | false => rfl
  | true =>
    rw [nds_eq h h2 e] at b
    unfold befM PySem.W.dataLt at b
    rw [lex_irr] at b
    cases b
/-- what put gives where each value is one node -/
def OneT (t : Tab) : Prop := ∀ x ∈ t, x.2.length = 1
theorem appN_one {t : Tab} (h : OneT t) (d : PyData) : (appN t d).length = 1 := by
  unfold appN
  by_cases v : isVarN d = true
  · rw [if_pos v]
    cases e : valT t (numN d) with
    | some w =>
      obtain ⟨q, hq, e2⟩ := valT_mem e
      rw [← e2]
      exact h q hq
    | none => rfl
  · rw [if_neg v]
    rfl
theorem appM_one {t : Tab} (h : OneT t) : ∀ ds : List PyData, (appM t ds).length = ds.length
  | [] => rfl
  | d :: r => by
    show (appN t d ++ appM t r).length = _
    rw [List.length_append, appN_one h, appM_one h r, List.length_cons]
    omega
theorem lit_pick {K : PySem.W.Frag} {G : Addr → Prop} {H : Hp} {xs : List V} {names : List Str} {r : Int} (a : ImAll K G H xs (names.map PyData.str)) (r0 : 0 ≤ r) (r1 : r < (names.length : Int)) : ∃ x, x ∈ names ∧ atI xs r = some (.str x) := by
  have hr : r.toNat < names.length := by omega
  have hd : (names.map PyData.str)[r.toNat]? = some (.str names[r.toNat]) := by
    rw [List.getElem?_map, List.getElem?_eq_getElem hr]
    rfl
  obtain ⟨v, hv, iv⟩ := ImAll.get a hd
  cases iv
  exact ⟨_, List.getElem_mem hr, at_of (j := r.toNat) (by omega) hv⟩
def names7 : List Str := ["a", "b", "ab", "B", "z1", "f", "+"]
def names4 : List Str := ["a", "b", "ab", "f"]
theorem names7_ok : names7.all okName = true := by decide +kernel
theorem names4_ok : names4.all okName = true := by decide +kernel
theorem setsp {ds : List PyData} {k : Nat} {d e : PyData} (hd : ∀ x ∈ ds, NdA x) (he : NdA e) (hk : ds[k]? = some d) : (∀ x ∈ ds.take k ++ [e] ++ ds.drop (k + 1), NdA x) ∧ (ds.take k ++ [e] ++ ds.drop (k + 1)).length = ds.length := by
  have hl : k < ds.length := (List.getElem?_eq_some_iff.mp hk).1
  refine ⟨fun x hx => ?_, ?_⟩
  · rcases List.mem_append.mp hx with z | z
    · rcases List.mem_append.mp z with z | z
      · exact hd _ (List.mem_of_mem_take z)
      · rw [List.mem_singleton.mp z]; exact he
    · exact hd _ (List.mem_of_mem_drop z)
  · rw [List.length_append, List.length_append, List.length_take, List.length_drop, List.length_singleton]
    omega
/-! ### the promises -/
def sp_is_variable (K : PySem.W.Frag) : Sp := fun vs H Q _ => ∃ (x : V) (d : PyData), vs = [x] ∧ Dp K H x d ∧ NdA d ∧ Q (.bl (isVarN d)) H
def sp__law_is_variable (K : PySem.W.Frag) : Sp := sp_is_variable K
def sp_is_symbol (K : PySem.W.Frag) : Sp := fun vs H Q _ => ∃ (x : V) (d : PyData), vs = [x] ∧ Dp K H x d ∧ NdA d ∧ Q (.bl (isSymN d)) H
def sp_node_key (K : PySem.W.Frag) : Sp := fun vs H Q _ => ∃ (x : V) (d : PyData), vs = [x] ∧ Dp K H x d ∧ NdA d ∧ ∀ v H', Same H H' → Dp K H' v (keyD d) → Q v H'
def sp_term_key (K : PySem.W.Frag) : Sp := fun vs H Q _ => ∃ (x : V) (ds : List PyData), vs = [x] ∧ Dp K H x (.tuple ds) ∧ (∀ d ∈ ds, NdA d) ∧ ds.length ≤ 900 ∧ ∀ v H', Same H H' → Dp K H' v (ktM ds) → Q v H'
def sp_table_order (K : PySem.W.Frag) : Sp := fun vs H Q _ => ∃ (x y : V) (ds es : List PyData), vs = [x, y] ∧ Dp K H x (.tuple ds) ∧ Dp K H y (.tuple es) ∧ (∀ d ∈ ds, NdA d) ∧ (∀ d ∈ es, NdA d) ∧ ds.length ≤ 900 ∧ es.length ≤ 900 ∧ ∀ H', Same H H' → Q (.int (ordM ds es)) H'
def sp__law_put (K : PySem.W.Frag) : Sp := fun vs H Q _ => ∃ (p : Addr) (kvs : List (Key × V)) (t : Tab) (x : V) (ds : List PyData), vs = [.ref p, x] ∧ H p = some (.dK kvs) ∧ TabK K H kvs t ∧ TabN t ∧ Dp K H x (.tuple ds) ∧ (∀ d ∈ ds, NdA d) ∧ (∀ i, (appM t (ds.take i)).length ≤ 900) ∧ ∀ v H', Same H H' → Dp K H' v (.tuple (appM t ds)) → Q v H'
def sp__law_numbered (K : PySem.W.Frag) : Sp := fun vs H Q _ => ∃ (a : Addr) (x : V) (ds : List PyData), vs = [.ref a, .int 0] ∧ H a = some (.lst [x]) ∧ Dp K H x (.tuple ds) ∧ (∀ d ∈ ds, NdA d) ∧ ds.length ≤ 100 ∧
  ∀ r y es H', Same H H' → H' r = some (.lst [y]) → Dp K H' y (.tuple es) → (∀ d ∈ es, NdA d) → es.length = ds.length → Q (.ref r) H'
def sp__law_rank (K : PySem.W.Frag) : Sp := fun vs H Q _ => ∃ (x : V) (d : PyData), vs = [x] ∧ Dp K H x d ∧ NdA d ∧ ∀ v H', Same H H' → Im K (fun b => H b = Option.none) H' v (rankD d) → Q v H'
def sp__law_ranks (K : PySem.W.Frag) : Sp := fun vs H Q _ => ∃ (x : V) (ds : List PyData), vs = [x] ∧ Dp K H x (.tuple ds) ∧ (∀ d ∈ ds, NdA d) ∧ ds.length ≤ 900 ∧ ∀ v H', Same H H' → Dp K H' v (klM ds) → Q v H'
def sp__law_before (K : PySem.W.Frag) : Sp := fun vs H Q _ => ∃ (x y : V) (ds es : List PyData), vs = [x, y] ∧ Dp K H x (.tuple ds) ∧ Dp K H y (.tuple es) ∧ (∀ d ∈ ds, NdA d) ∧ (∀ d ∈ es, NdA d) ∧ ds.length ≤ 900 ∧ es.length ≤ 900 ∧ ∀ H', Same H H' → Q (.bl (befM ds es)) H'
def sp__law_node (K : PySem.W.Frag) : Sp := fun vs H Q _ => ∃ s l, vs = [.ref s] ∧ Stm H s l ∧ ∀ v d H', NdA d → arN d ≤ 2 → But s H H' → Stm H' s l → Im K (fun b => H b = Option.none) H' v d → Q v H'
def sp__law_some (K : PySem.W.Frag) : Sp := fun vs H Q _ => ∃ s l, vs = [.ref s, .int 5] ∧ Stm H s l ∧ ∀ v ds H', (∀ d ∈ ds, NdA d) → 0 < ds.length → ds.length ≤ 40 → But s H H' → Stm H' s l → Im K (fun b => H b = Option.none) H' v (.tuple ds) → Q v H'
def sp__law_near (K : PySem.W.Frag) : Sp := fun vs H Q _ => ∃ (G : Addr → Prop) (s l : Addr) (v : V) (ds : List PyData), vs = [.ref s, v] ∧ Stm H s l ∧ (∀ b, G b → b ≠ s) ∧ Im K G H v (.tuple ds) ∧ (∀ d ∈ ds, NdA d) ∧ 0 < ds.length ∧ ds.length ≤ 100 ∧
  ∀ v' ds' H', (∀ d ∈ ds', NdA d) → ds'.length = ds.length → But s H H' → Stm H' s l → Im K (fun b => G b ∨ H b = Option.none) H' v' (.tuple ds') → Q v' H'
def sp_law (K : PySem.W.Frag) : Sp := fun vs H Q _ => ∃ (a : Addr) (ns : List Int), vs = [.ref a] ∧ SqL K H a (ns.map V.int) ∧ ns.length ≤ 63 ∧ ∀ H', Q (.bl true) H'

local macro_rules | `(tactic| walk_at "lits") => `(tactic| repeat' (first | exact lit_int | exact lit_str | exact lit_bl | exact lit_non | exact litA_nil | refine litA_cons ?_ ?_ | refine lit_tup ?_ (by decide) | refine lit_lst ?_ (by decide) | refine lit_neg ?_ | refine lit_sub ?_ ?_ | refine lit_pow ?_ ?_ ⟨by decide, by decide, by decide⟩ | refine lit_mulS ?_ ?_ ⟨by decide, by decide, by decide⟩))
section
variable {P : Program} {w : World} {K : PySem.W.Frag} {mg : Str → Option Value} {base : Heap}
theorem ok_is_variable {f : Addr} {fd : FuncData} (F : Fun K "is_variable" "is_variable" s_is_variable f fd) (E : Bi K mg)  : FnOk P w K mg base CX0 1 f fd ["node"] (sp_is_variable K) := by
  refine F.ok sc_is_variable (fun vs H Q E h => ?_) (fun cdv A outer s H vs Q E' hr h => ?_)
  · obtain ⟨x, d, rfl, _⟩ := h
    rfl
  · obtain ⟨x, d, rfl, hd, ⟨wd, nd⟩, q⟩ := h
    refine ⟨_, (pss_one (ps_ret (pe_and (pe_callB call_isi (by rfl) E.b_isinstance (by decide +kernel) (pa_cons (pv 0) (pa_cons (pe_ty "tuple" (by rfl) E.b_tuple (by decide +kernel)) pa_nil))) (pe_one (pe_cmpR op_eq (pe_ix ix_tup (pv 0) pe_int (fun _ _ => rfl)) pe_str (nomark _)))))), ?_⟩
    refine ⟨x, rfl, _, _, _, _, _, rfl, .ty _, tyx_of hd, kit_ty (kitT _), _, rfl, ?_⟩
    cases nd with
    | v n h1 h2 =>
      cases hd with
      | tup hs ha =>
        obtain ⟨v, hv, hdv⟩ := DpAll.get (i := 0) ha rfl
        cases hdv
        refine iteT ⟨_, rfl, _, _, _, _, rfl, rfl, hs, atI_nat (j := 0) hv, rfl, ?_⟩
        rw [decide_eq_true rfl]
        exact q
    | i n h1 h2 => exact iteF q
    | f y n h1 h2 h3 =>
      cases hd with
      | tup hs ha =>
        obtain ⟨v, hv, hdv⟩ := DpAll.get (i := 0) ha rfl
        cases hdv
        refine iteT ⟨_, rfl, _, _, _, _, rfl, rfl, hs, atI_nat (j := 0) hv, rfl, ?_⟩
        rw [show decide (V.str (Str.ofString "f") = V.str (Str.ofString "v")) = false by decide +kernel]
        exact q

theorem ok_is_symbol {f : Addr} {fd : FuncData} (F : Fun K "is_symbol" "is_symbol" s_is_symbol f fd) (E : Bi K mg)  : FnOk P w K mg base CX0 1 f fd ["node"] (sp_is_symbol K) := by
  refine F.ok sc_is_symbol (fun vs H Q E h => ?_) (fun cdv A outer s H vs Q E' hr h => ?_)
  · obtain ⟨x, d, rfl, _⟩ := h
    rfl
  · obtain ⟨x, d, rfl, hd, ⟨wd, nd⟩, q⟩ := h
    refine ⟨_, (pss_one (ps_ret (pe_and (pe_callB call_isi (by rfl) E.b_isinstance (by decide +kernel) (pa_cons (pv 0) (pa_cons (pe_ty "tuple" (by rfl) E.b_tuple (by decide +kernel)) pa_nil))) (pe_one (pe_cmpR op_eq (pe_ix ix_tup (pv 0) pe_int (fun _ _ => rfl)) pe_str (nomark _)))))), ?_⟩
    refine ⟨x, rfl, _, _, _, _, _, rfl, .ty _, tyx_of hd, kit_ty (kitT _), _, rfl, ?_⟩
    cases nd with
    | v n h1 h2 =>
      cases hd with
      | tup hs ha =>
        obtain ⟨v, hv, hdv⟩ := DpAll.get (i := 0) ha rfl
        cases hdv
        refine iteT ⟨_, rfl, _, _, _, _, rfl, rfl, hs, atI_nat (j := 0) hv, rfl, ?_⟩
        rw [show decide (V.str (Str.ofString "v") = V.str (Str.ofString "f")) = false by decide +kernel]
        exact q
    | i n h1 h2 => exact iteF q
    | f y n h1 h2 h3 =>
      cases hd with
      | tup hs ha =>
        obtain ⟨v, hv, hdv⟩ := DpAll.get (i := 0) ha rfl
        cases hdv
        refine iteT ⟨_, rfl, _, _, _, _, rfl, rfl, hs, atI_nat (j := 0) hv, rfl, ?_⟩
        rw [decide_eq_true rfl]
        exact q

theorem ok__law_stream {f : Addr} {fd : FuncData} (F : Fun K "_law_stream" "_law_stream" s__law_stream f fd) (E : Bi K mg)  : FnOk P w K mg base CX0 1 f fd ["script"] (sp__law_stream K) := by
  refine F.ok sc__law_stream (fun vs H Q E h => ?_) (fun cdv A outer s H vs Q E' hr h => ?_)
  · obtain ⟨a, ns, rfl, _⟩ := h
    rfl
  · obtain ⟨a, ns, rfl, hS, hl, q⟩ := h
    refine ⟨_, (pss_cons (ps_set (i := 1) sc__law_stream.nd rfl (Or.inl rfl) pe_int)
      (pss_cons (ps_for PassesOwn.never rfl (pi_list (pv 0)) (pg_name (i := 2) sc__law_stream.nd rfl (Or.inl rfl)) (pss_one (ps_set (i := 1) sc__law_stream.nd rfl (Or.inl rfl) (pe_op op_mod (pe_callTy call_int1 (by rfl) E.b_int (by decide +kernel) (pa_cons (pe_op op_add (pe_op op_add (pe_op op_mul (pv 1) pe_int) (pe_op op_mod (pe_callTy call_int1 (by rfl) E.b_int (by decide +kernel) (pa_cons (pv 2) pa_nil)) pe_int)) pe_int) pa_nil)) pe_int))))
      (pss_one (ps_ret (pe_lst (pa_cons (pe_callTy call_list_of (by rfl) E.b_list (by decide +kernel) (pa_cons (pv 0) pa_nil)) (pa_cons pe_int (pa_cons pe_int (pa_cons (pv 1) pa_nil))))))))), ?_⟩
    refine ⟨_, rfl, a, rfl, ⟨_, hS⟩, for_list (K := K) (a := a) (xs := ns.map V.int) (fun i σ H1 => ∃ (m : Int) (v : Option V), σ = [some (.ref a), some (.int m), v] ∧ H1 = H ∧ 0 ≤ m ∧ m < 2147483647)
      ⟨17, none, rfl, rfl, by decide, by decide⟩ (fun i σ H1 _ ⟨_, _, _, e, _⟩ => by rw [e]; exact hS) ?_ ?_⟩
    · rintro i y σ H1 hi ⟨m, v, rfl, rfl, h0, h1⟩
      obtain ⟨z, rfl⟩ : ∃ z, y = V.int z := by
        rw [List.getElem?_map] at hi
        cases e : ns[i]? with
        | none =>
          rw [e] at hi
          cases hi
        | some z =>
          rw [e] at hi
          exact ⟨z, (Option.some.inj hi).symm⟩
      refine ⟨_, rfl, _, _, rfl, rfl, .inr ⟨by decide, by decide⟩, _, rfl, .inl ⟨_, rfl, _, _, rfl, rfl, (by decide : (0 : Int) < 65521), _, _, rfl, rfl, _, _, rfl, rfl, .inl ⟨_, rfl, _, _, rfl, rfl, (by decide : (0 : Int) < 2147483647), ?_⟩⟩⟩
      exact ⟨_, _, rfl, rfl, Int.emod_nonneg _ (by decide), Int.emod_lt_of_pos _ (by decide)⟩
    · rintro σ H1 ⟨m, v, rfl, rfl, h0, h1⟩
      refine ⟨_, rfl, a, _, rfl, .inl hS, fun l hl2 => ⟨_, rfl, (by show 4 ≤ sizeLine; decide), fun p hp => ?_⟩⟩
      have npl : l ≠ p := fun z => by
        rw [← z, upd_same] at hp
        cases hp
      refine q p l _ ((same_upd hl2).free hp) hl2 ((same_upd hl2).trans (same_upd hp)) ⟨0, 0, m, ns, upd_same, ?_, hl, Int.le_refl 0, Int.le_refl 0, h0, h1⟩
      rw [upd_ne npl, upd_same]

theorem ok__law_draw {f : Addr} {fd : FuncData} (F : Fun K "_law_draw" "_law_draw" s__law_draw f fd) (E : Bi K mg)  : FnOk P w K mg base CX0 1 f fd ["stream", "many"] (sp__law_draw K) := by
  refine F.ok sc__law_draw (fun vs H Q E h => ?_) (fun cdv A outer s H vs Q E' hr h => ?_)
  · obtain ⟨s, l, n, rfl, _⟩ := h
    rfl
  · obtain ⟨p, l, n, rfl, hS, hn, hn2, q⟩ := h
    obtain ⟨a, b, m, ns, h1, h2, hlen, ha, hb, hm, hm2⟩ := hS.ex
    have nlp : l ≠ p := fun z => by
      rw [z, h1] at h2
      have h3 := HO.lst.inj (Option.some.inj h2)
      cases ns with
      | nil => cases h3
      | cons x r => cases (List.cons.inj h3).1
    refine ⟨_, (pss_cons (ps_if (pw_and (pt_cmpR op_eq (pe_ix ix_list (pv 0) pe_int (fun _ _ => rfl)) pe_int (nomark _)) (pw_and1 (pt_cmpR op_lt (pe_ix ix_list (pv 0) pe_int (fun _ _ => rfl)) (pe_callB call_len_seq (by rfl) E.b_len PySem.boot_len (pa_cons (pe_ix ix_list (pv 0) pe_int (fun _ _ => rfl)) pa_nil)) (nomark _)))).pt (pss_cons (ps_asg (pe_callB call_abs (by rfl) E.b_abs (by decide +kernel) (pa_cons (pe_callTy call_int1 (by rfl) E.b_int (by decide +kernel) (pa_cons (pe_ix ix_list (pe_ix ix_list (pv 0) pe_int (fun _ _ => rfl)) (pe_ix ix_list (pv 0) pe_int (fun _ _ => rfl)) (fun _ _ => rfl)) pa_nil)) pa_nil)) (pg_sub (pv 0) pe_int set_list))
      (pss_one (ps_asg (pe_op op_add (pe_ix ix_list (pv 0) pe_int (fun _ _ => rfl)) pe_int) (pg_sub (pv 0) pe_int set_list)))) pss_nil)
      (pss_cons (ps_if (pt_cmpR op_eq (pe_ix ix_list (pv 0) pe_int (fun _ _ => rfl)) pe_int (nomark _)) (pss_cons (ps_asg (pe_op op_mod (pe_callTy call_int1 (by rfl) E.b_int (by decide +kernel) (pa_cons (pe_op op_add (pe_op op_mul (pe_ix ix_list (pv 0) pe_int (fun _ _ => rfl)) pe_int) pe_int) pa_nil)) pe_int) (pg_sub (pv 0) pe_int set_list))
      (pss_one (ps_ret (pe_op op_mod (pe_callTy call_int1 (by rfl) E.b_int (by decide +kernel) (pa_cons (pe_op op_fdivW (pe_ix ix_list (pv 0) pe_int (fun _ _ => rfl)) pe_int) pa_nil)) (pv 1))))) pss_nil)
      (pss_cons (ps_set (i := 2) sc__law_draw.nd rfl (Or.inl rfl) (pe_op op_mod (pe_callTy call_int1 (by rfl) E.b_int (by decide +kernel) (pa_cons (pe_ix ix_list (pv 0) pe_int (fun _ _ => rfl)) pa_nil)) (pv 1)))
      (pss_cons (ps_asg (pe_op op_fdivW (pe_ix ix_list (pv 0) pe_int (fun _ _ => rfl)) (pv 1)) (pg_sub (pv 0) pe_int set_list))
      (pss_one (ps_ret (pv 2))))))), ?_⟩
    refine ⟨_, rfl, _, _, _, _, rfl, rfl, SqL.of h1, atI_nat (j := 1) rfl, rfl, _, rfl, ite2 (fun e => ?_) (fun e => ?_)⟩
    · refine ⟨_, rfl, _, _, _, _, rfl, rfl, SqL.of h1, atI_nat (j := 2) rfl, _, rfl, _, _, _, _, rfl, rfl, SqL.of h1, atI_nat (j := 0) rfl, _, _, rfl, .inl (SqL.of h2), _, _, rfl, rfl, _, rfl, ite2 (fun e1 => ?_) (fun e1 => ?_)⟩
      · have e2 : b < (ns.map V.int).length := of_decide_eq_true e1
        rw [List.length_map] at e2
        have hz : (ns.map V.int)[b.toNat]? = some (V.int (ns[b.toNat]'(by omega))) := by
          rw [List.getElem?_map, List.getElem?_eq_getElem (by omega)]
          rfl
        refine ⟨_, rfl, _, _, _, _, rfl, rfl, SqL.of h1, atI_nat (j := 0) rfl, _, rfl, _, _, _, _, rfl, rfl, SqL.of h1, atI_nat (j := 2) rfl, _, _, _, _, rfl, rfl, SqL.of h2, at_of (j := b.toNat) (by omega) hz, .inl ⟨_, rfl, _, rfl, _, rfl, _, _, _, _, rfl, rfl, h1, rfl, ?_⟩⟩
        refine ⟨_, rfl, _, _, _, _, rfl, rfl, SqL.of upd_same, atI_nat (j := 2) rfl, _, _, rfl, rfl, _, rfl, _, _, _, _, rfl, rfl, upd_same, rfl, ?_⟩
        generalize hH : upd _ p _ = H1
        have hX : ∃ a' b' : Int, H1 p = some (.lst [.ref l, .int a', .int b', .int m]) ∧ 0 ≤ a' ∧ 0 ≤ b' := ⟨_, _, by rw [← hH]; exact upd_same, by split <;> omega, by omega⟩
        have hB : But p H H1 := by rw [← hH]; exact But.put.trans But.put
        have hL : H1 l = some (.lst (ns.map V.int)) := hB l _ nlp h2
        clear hH
        obtain ⟨a', b', hX, ha', hb'⟩ := hX
        refine ⟨_, rfl, _, _, _, _, rfl, rfl, SqL.of hX, atI_nat (j := 1) rfl, rfl, _, rfl, ite2 (fun e3 => ?_) (fun e3 => ?_)⟩
        · refine ⟨_, rfl, _, _, _, _, rfl, rfl, SqL.of hX, atI_nat (j := 3) rfl, _, _, rfl, rfl, .inr ⟨by decide, by decide⟩, _, _, rfl, rfl, .inl ⟨_, rfl, _, _, rfl, rfl, (by decide : (0 : Int) < 2147483647), _, rfl, _, _, _, _, rfl, rfl, hX, rfl, ?_⟩⟩
          refine ⟨_, rfl, _, _, _, _, rfl, rfl, SqL.of upd_same, atI_nat (j := 3) rfl, _, _, rfl, rfl, wide_div (b := 64) (by decide) (by decide) (by decide) (by decide), .inl ⟨_, rfl, _, rfl, _, _, rfl, rfl, hn, ?_⟩⟩
          exact q _ _ (Int.emod_nonneg _ (by omega)) (Int.emod_lt_of_pos _ hn) (hB.trans But.put) ⟨a', b', _, ns, upd_same, by rw [upd_ne nlp]; exact hL, hlen, ha', hb', Int.emod_nonneg _ (by decide), Int.emod_lt_of_pos _ (by decide)⟩
        · refine ⟨_, rfl, _, _, _, _, rfl, rfl, SqL.of hX, atI_nat (j := 1) rfl, .inl ⟨_, rfl, _, rfl, _, _, rfl, rfl, hn, ?_⟩⟩
          refine ⟨_, rfl, _, _, _, _, rfl, rfl, SqL.of hX, atI_nat (j := 1) rfl, _, rfl, _, _, rfl, rfl, wide_div hn hn2 (by decide) (by decide), _, rfl, _, _, _, _, rfl, rfl, hX, rfl, ?_⟩
          refine ⟨_, rfl, ?_⟩
          exact q _ _ (Int.emod_nonneg _ (by omega)) (Int.emod_lt_of_pos _ hn) (hB.trans But.put) ⟨_, b', m, ns, upd_same, by rw [upd_ne nlp]; exact hL, hlen, Int.ediv_nonneg ha' (by omega), hb', hm, hm2⟩
      · have hX : ∃ a' b' : Int, H p = some (.lst [.ref l, .int a', .int b', .int m]) ∧ 0 ≤ a' ∧ 0 ≤ b' := ⟨_, _, h1, ha, hb⟩
        have hB : But p H H := But.refl p H
        have hL := h2
        obtain ⟨a', b', hX, ha', hb'⟩ := hX
        refine ⟨_, rfl, _, _, _, _, rfl, rfl, SqL.of hX, atI_nat (j := 1) rfl, rfl, _, rfl, ite2 (fun e3 => ?_) (fun e3 => ?_)⟩
        · refine ⟨_, rfl, _, _, _, _, rfl, rfl, SqL.of hX, atI_nat (j := 3) rfl, _, _, rfl, rfl, .inr ⟨by decide, by decide⟩, _, _, rfl, rfl, .inl ⟨_, rfl, _, _, rfl, rfl, (by decide : (0 : Int) < 2147483647), _, rfl, _, _, _, _, rfl, rfl, hX, rfl, ?_⟩⟩
          refine ⟨_, rfl, _, _, _, _, rfl, rfl, SqL.of upd_same, atI_nat (j := 3) rfl, _, _, rfl, rfl, wide_div (b := 64) (by decide) (by decide) (by decide) (by decide), .inl ⟨_, rfl, _, rfl, _, _, rfl, rfl, hn, ?_⟩⟩
          exact q _ _ (Int.emod_nonneg _ (by omega)) (Int.emod_lt_of_pos _ hn) (hB.trans But.put) ⟨a', b', _, ns, upd_same, by rw [upd_ne nlp]; exact hL, hlen, ha', hb', Int.emod_nonneg _ (by decide), Int.emod_lt_of_pos _ (by decide)⟩
        · refine ⟨_, rfl, _, _, _, _, rfl, rfl, SqL.of hX, atI_nat (j := 1) rfl, .inl ⟨_, rfl, _, rfl, _, _, rfl, rfl, hn, ?_⟩⟩
          refine ⟨_, rfl, _, _, _, _, rfl, rfl, SqL.of hX, atI_nat (j := 1) rfl, _, rfl, _, _, rfl, rfl, wide_div hn hn2 (by decide) (by decide), _, rfl, _, _, _, _, rfl, rfl, hX, rfl, ?_⟩
          refine ⟨_, rfl, ?_⟩
          exact q _ _ (Int.emod_nonneg _ (by omega)) (Int.emod_lt_of_pos _ hn) (hB.trans But.put) ⟨_, b', m, ns, upd_same, by rw [upd_ne nlp]; exact hL, hlen, Int.ediv_nonneg ha' (by omega), hb', hm, hm2⟩
    · have hX : ∃ a' b' : Int, H p = some (.lst [.ref l, .int a', .int b', .int m]) ∧ 0 ≤ a' ∧ 0 ≤ b' := ⟨_, _, h1, ha, hb⟩
      have hB : But p H H := But.refl p H
      have hL := h2
      obtain ⟨a', b', hX, ha', hb'⟩ := hX
      refine ⟨_, rfl, _, _, _, _, rfl, rfl, SqL.of hX, atI_nat (j := 1) rfl, rfl, _, rfl, ite2 (fun e3 => ?_) (fun e3 => ?_)⟩
      · refine ⟨_, rfl, _, _, _, _, rfl, rfl, SqL.of hX, atI_nat (j := 3) rfl, _, _, rfl, rfl, .inr ⟨by decide, by decide⟩, _, _, rfl, rfl, .inl ⟨_, rfl, _, _, rfl, rfl, (by decide : (0 : Int) < 2147483647), _, rfl, _, _, _, _, rfl, rfl, hX, rfl, ?_⟩⟩
        refine ⟨_, rfl, _, _, _, _, rfl, rfl, SqL.of upd_same, atI_nat (j := 3) rfl, _, _, rfl, rfl, wide_div (b := 64) (by decide) (by decide) (by decide) (by decide), .inl ⟨_, rfl, _, rfl, _, _, rfl, rfl, hn, ?_⟩⟩
        exact q _ _ (Int.emod_nonneg _ (by omega)) (Int.emod_lt_of_pos _ hn) (hB.trans But.put) ⟨a', b', _, ns, upd_same, by rw [upd_ne nlp]; exact hL, hlen, ha', hb', Int.emod_nonneg _ (by decide), Int.emod_lt_of_pos _ (by decide)⟩
      · refine ⟨_, rfl, _, _, _, _, rfl, rfl, SqL.of hX, atI_nat (j := 1) rfl, .inl ⟨_, rfl, _, rfl, _, _, rfl, rfl, hn, ?_⟩⟩
        refine ⟨_, rfl, _, _, _, _, rfl, rfl, SqL.of hX, atI_nat (j := 1) rfl, _, rfl, _, _, rfl, rfl, wide_div hn hn2 (by decide) (by decide), _, rfl, _, _, _, _, rfl, rfl, hX, rfl, ?_⟩
        refine ⟨_, rfl, ?_⟩
        exact q _ _ (Int.emod_nonneg _ (by omega)) (Int.emod_lt_of_pos _ hn) (hB.trans But.put) ⟨_, b', m, ns, upd_same, by rw [upd_ne nlp]; exact hL, hlen, Int.ediv_nonneg ha' (by omega), hb', hm, hm2⟩

theorem ok__law_is_variable {f : Addr} {fd : FuncData} (F : Fun K "_law_is_variable" "_law_is_variable" s__law_is_variable f fd) (E : Bi K mg)  : FnOk P w K mg base CX0 1 f fd ["node"] (sp__law_is_variable K) := by
  refine F.ok sc__law_is_variable (fun vs H Q E h => ?_) (fun cdv A outer s H vs Q E' hr h => ?_)
  · obtain ⟨x, d, rfl, _⟩ := h
    rfl
  · obtain ⟨x, d, rfl, hd, ⟨wd, nd⟩, q⟩ := h
    refine ⟨_, (pss_one (ps_ret (pe_and (pe_callB call_isi (by rfl) E.b_isinstance (by decide +kernel) (pa_cons (pv 0) (pa_cons (pe_ty "tuple" (by rfl) E.b_tuple (by decide +kernel)) pa_nil))) (pe_one (pe_cmpR op_eq (pe_ix ix_tup (pv 0) pe_int (fun _ _ => rfl)) pe_str (nomark _)))))), ?_⟩
    refine ⟨x, rfl, _, _, _, _, _, rfl, .ty _, tyx_of hd, kit_ty (kitT _), _, rfl, ?_⟩
    cases nd with
    | v n h1 h2 =>
      cases hd with
      | tup hs ha =>
        obtain ⟨v, hv, hdv⟩ := DpAll.get (i := 0) ha rfl
        cases hdv
        refine iteT ⟨_, rfl, _, _, _, _, rfl, rfl, hs, atI_nat (j := 0) hv, rfl, ?_⟩
        rw [decide_eq_true rfl]
        exact q
    | i n h1 h2 => exact iteF q
    | f y n h1 h2 h3 =>
      cases hd with
      | tup hs ha =>
        obtain ⟨v, hv, hdv⟩ := DpAll.get (i := 0) ha rfl
        cases hdv
        refine iteT ⟨_, rfl, _, _, _, _, rfl, rfl, hs, atI_nat (j := 0) hv, rfl, ?_⟩
        rw [show decide (V.str (Str.ofString "f") = V.str (Str.ofString "v")) = false by decide +kernel]
        exact q

theorem ok__law_rank {f : Addr} {fd : FuncData} (F : Fun K "_law_rank" "_law_rank" s__law_rank f fd) (E : Bi K mg)  : FnOk P w K mg base CX0 1 f fd ["node"] (sp__law_rank K) := by
  refine F.ok sc__law_rank (fun vs H Q E h => ?_) (fun cdv A outer s H vs Q E' hr h => ?_)
  · obtain ⟨x, d, rfl, _⟩ := h
    rfl
  · obtain ⟨x, d, rfl, hd, hn, q⟩ := h
    refine ⟨_, (pss_cons (ps_if (pw_and (pt_val (pe_callB call_isi (by rfl) E.b_isinstance (by decide +kernel) (pa_cons (pv 0) (pa_cons (pe_ty "tuple" (by rfl) E.b_tuple (by decide +kernel)) pa_nil)))) (pw_and1 (pt_cmpR op_eq (pe_ix ix_tup (pv 0) pe_int (fun _ _ => rfl)) pe_str (nomark _)))).pt (pss_one (ps_ret (pe_lst (pa_cons pe_int (pa_cons (pe_ix ix_tup (pv 0) pe_int (fun _ _ => rfl)) (pa_cons pe_str pa_nil)))))) pss_nil)
      (pss_cons (ps_if (pt_val (pe_callB call_isi (by rfl) E.b_isinstance (by decide +kernel) (pa_cons (pv 0) (pa_cons (pe_ty "tuple" (by rfl) E.b_tuple (by decide +kernel)) pa_nil)))) (pss_one (ps_ret (pe_lst (pa_cons pe_int (pa_cons (pe_ix ix_tup (pv 0) pe_int (fun _ _ => rfl)) (pa_cons (pe_ix ix_tup (pv 0) pe_int (fun _ _ => rfl)) pa_nil)))))) pss_nil)
      (pss_one (ps_ret (pe_lst (pa_cons pe_int (pa_cons (pv 0) (pa_cons pe_str pa_nil)))))))), ?_⟩
    refine seq_ifN ?_
    refine ⟨_, rfl, _, _, _, _, _, rfl, .ty _, tyx_of hd, kit_ty (kitT _), _, rfl, ?_⟩
    obtain ⟨wd, nd⟩ := id hn
    cases nd with
    | v n h1 h2 =>
      cases id hd with
      | tup hs ha =>
      obtain ⟨v0, hv0, hdv0⟩ := DpAll.get (i := 0) ha rfl
      obtain ⟨v, hv, hdv⟩ := DpAll.get (i := 1) ha rfl
      cases hdv0
      cases hdv
      refine iteT ⟨_, rfl, _, _, _, _, rfl, rfl, hs, atI_nat (j := 0) hv0, rfl, _, rfl, ?_⟩
      rw [decide_eq_true rfl]
      refine iteT ?_
      refine ⟨_, rfl, _, _, _, _, rfl, rfl, hs, atI_nat (j := 1) hv, (by show 3 ≤ sizeLine; decide), fun p np => ?_⟩
      exact q _ _ (same_upd np) (.lst np upd_same (.cons (.int _) (.cons (.int _) (.cons (.str _) .nil))))
    | i n h1 h2 =>
      cases hd
      refine iteF (iteF (seq_ifN ?_))
      refine ⟨_, rfl, _, _, _, _, _, rfl, .ty _, tyx_of (K := K) (H := H) (.int n), kit_ty (kitT _), _, rfl, iteF ?_⟩
      refine ⟨_, rfl, (by show 3 ≤ sizeLine; decide), fun p np => ?_⟩
      exact q _ _ (same_upd np) (.lst np upd_same (.cons (.int _) (.cons (.int _) (.cons (.str _) .nil))))
    | f y n h1 h2 h3 =>
      cases id hd with
      | tup hs ha =>
      obtain ⟨v0, hv0, hdv0⟩ := DpAll.get (i := 0) ha rfl
      obtain ⟨v, hv, hdv⟩ := DpAll.get (i := 1) ha rfl
      obtain ⟨v2, hv2, hdv2⟩ := DpAll.get (i := 2) ha rfl
      cases hdv0
      cases hdv
      cases hdv2
      refine iteT ⟨_, rfl, _, _, _, _, rfl, rfl, hs, atI_nat (j := 0) hv0, rfl, _, rfl, ?_⟩
      rw [show decide (V.str (Str.ofString "f") = V.str (Str.ofString "v")) = false by decide +kernel]
      refine iteF (seq_ifN ?_)
      refine ⟨_, rfl, _, _, _, _, _, rfl, .ty _, tyx_of hd, kit_ty (kitT _), _, rfl, iteT ?_⟩
      refine ⟨_, rfl, _, _, _, _, rfl, rfl, hs, atI_nat (j := 2) hv2, _, rfl, _, _, _, _, rfl, rfl, hs, atI_nat (j := 1) hv, (by show 3 ≤ sizeLine; decide), fun p np => ?_⟩
      exact q _ _ (same_upd np) (.lst np upd_same (.cons (.int _) (.cons (.int _) (.cons (.str _) .nil))))

theorem ok_node_key {f : Addr} {fd : FuncData} (F : Fun K "node_key" "node_key" s_node_key f fd) (E : Bi K mg) (D_is_variable : Has P w K mg base 1 "is_variable" ["node"] (sp_is_variable K)) (D_is_symbol : Has P w K mg base 1 "is_symbol" ["node"] (sp_is_symbol K)) : FnOk P w K mg base CX0 2 f fd ["node"] (sp_node_key K) := by
  obtain ⟨f_is_variable, fd_is_variable, G_is_variable, g_is_variable, kp_is_variable, b_is_variable⟩ := D_is_variable
  obtain ⟨f_is_symbol, fd_is_symbol, G_is_symbol, g_is_symbol, kp_is_symbol, b_is_symbol⟩ := D_is_symbol
  refine F.ok sc_node_key (fun vs H Q E h => ?_) (fun cdv A outer s H vs Q E' hr h => ?_)
  · obtain ⟨x, d, rfl, _⟩ := h
    rfl
  · obtain ⟨x, d, rfl, hd, hn, q⟩ := h
    refine ⟨_, (pss_cons (ps_if (pt_val (pe_call G_is_variable (hr.mono (by decide)) (by rfl) g_is_variable kp_is_variable b_is_variable .nil pass0 (pa_cons (pv 0) pa_nil))) (pss_one (ps_ret (pe_tup (pa_cons pe_int (pa_cons (pe_ix ix_tup (pv 0) pe_int (fun _ _ => rfl)) (pa_cons pe_str pa_nil)))))) pss_nil)
      (pss_cons (ps_if (pt_val (pe_call G_is_symbol (hr.mono (by decide)) (by rfl) g_is_symbol kp_is_symbol b_is_symbol .nil pass0 (pa_cons (pv 0) pa_nil))) (pss_one (ps_ret (pe_tup (pa_cons pe_int (pa_cons (pe_ix ix_tup (pv 0) pe_int (fun _ _ => rfl)) (pa_cons (pe_ix ix_tup (pv 0) pe_int (fun _ _ => rfl)) pa_nil)))))) pss_nil)
      (pss_one (ps_ret (pe_tup (pa_cons pe_int (pa_cons (pv 0) (pa_cons pe_str pa_nil)))))))), ?_⟩
    refine seq_ifN ?_
    refine ⟨x, rfl, x, d, rfl, hd, hn, _, rfl, ?_⟩
    obtain ⟨wd, nd⟩ := id hn
    cases nd with
    | v n h1 h2 =>
      cases id hd with
      | tup hs ha =>
      obtain ⟨v, hv, hdv⟩ := DpAll.get (i := 1) ha rfl
      refine iteT ?_
      refine ⟨_, rfl, _, _, _, _, rfl, rfl, hs, atI_nat (j := 1) hv, (by show 3 ≤ sizeLine; decide), fun p np => ?_⟩
      exact q _ _ (same_upd np) (.tup (SqT.of upd_same) (.cons (.int _) (.cons (dp_same (same_upd np) _ _ hdv) (.cons (.str _) .nil))))
    | i n h1 h2 =>
      refine iteF (seq_ifN ?_)
      refine ⟨x, rfl, x, _, rfl, hd, hn, _, rfl, iteF ?_⟩
      refine ⟨_, rfl, (by show 3 ≤ sizeLine; decide), fun p np => ?_⟩
      exact q _ _ (same_upd np) (.tup (SqT.of upd_same) (.cons (.int _) (.cons (dp_same (same_upd np) _ _ hd) (.cons (.str _) .nil))))
    | f y n h1 h2 h3 =>
      refine iteF (seq_ifN ?_)
      refine ⟨x, rfl, x, _, rfl, hd, hn, _, rfl, iteT ?_⟩
      cases id hd with
      | tup hs ha =>
      obtain ⟨v, hv, hdv⟩ := DpAll.get (i := 1) ha rfl
      obtain ⟨v2, hv2, hdv2⟩ := DpAll.get (i := 2) ha rfl
      refine ⟨_, rfl, _, _, _, _, rfl, rfl, hs, atI_nat (j := 2) hv2, _, rfl, _, _, _, _, rfl, rfl, hs, atI_nat (j := 1) hv, (by show 3 ≤ sizeLine; decide), fun p np => ?_⟩
      exact q _ _ (same_upd np) (.tup (SqT.of upd_same) (.cons (.int _) (.cons (dp_same (same_upd np) _ _ hdv2) (.cons (dp_same (same_upd np) _ _ hdv) .nil))))

theorem ok__law_put {f : Addr} {fd : FuncData} (F : Fun K "_law_put" "_law_put" s__law_put f fd) (E : Bi K mg) (D__law_is_variable : Has P w K mg base 1 "_law_is_variable" ["node"] (sp__law_is_variable K)) : FnOk P w K mg base CX0 2 f fd ["table", "term"] (sp__law_put K) := by
  obtain ⟨f__law_is_variable, fd__law_is_variable, G__law_is_variable, g__law_is_variable, kp__law_is_variable, b__law_is_variable⟩ := D__law_is_variable
  refine F.ok sc__law_put (fun vs H Q E h => ?_) (fun cdv A outer s H vs Q E' hr h => ?_)
  · obtain ⟨p, kvs, t, x, ds, rfl, _⟩ := h
    rfl
  · obtain ⟨p, kvs, t, x, ds, rfl, hp, ht, nt, hx, hn, hl, q⟩ := h
    refine ⟨_, (pss_cons (ps_set (i := 2) sc__law_put.nd rfl (Or.inl rfl) (pe_lst pa_nil))
      (pss_cons (ps_for PassesOwn.never rfl (pi_tup (pv 1)) (pg_name (i := 3) sc__law_put.nd rfl (Or.inl rfl)) (pss_one (ps_if (pw_and (pt_val (pe_call G__law_is_variable (hr.mono (by decide)) (by rfl) g__law_is_variable kp__law_is_variable b__law_is_variable .nil pass0 (pa_cons (pv 3) pa_nil))) (pw_and1 (pt_cmp (pc_din (hu_of hr) (pe_ix ix_tup (pv 3) pe_int (fun _ _ => rfl)) (pv 0))))).pt (pss_one (ps_expr (pe_bm PySem.F.plainAttrs_list PySem.F.slot_list_extend PySem.F.type_list_extend mt_extT (pv 2) (pa_cons (pe_dget (hu_of hr) (pv 0) (pe_ix ix_tup (pv 3) pe_int (fun _ _ => rfl)) (fun _ _ => rfl)) pa_nil)))) (pss_one (ps_expr (pe_bm PySem.F.plainAttrs_list PySem.F.slot_list_append PySem.F.type_list_append mt_append (pv 2) (pa_cons (pv 3) pa_nil)))))))
      (pss_one (ps_ret (pe_callTy call_tuple_of (by rfl) E.b_tuple (by decide +kernel) (pa_cons (pv 2) pa_nil)))))), ?_⟩
    cases id hx with
    | @tup a xs _ hs ha =>
    have hxl := DpAll.len ha
    refine seq_asg ?_
    refine ⟨Nat.zero_le _, fun r nr => ?_⟩
    refine gname (seq_any ?_)
    have s0 : Same H (upd H r (.lst [])) := same_upd nr
    have put : ∀ {H1 : Hp} {o : HO}, Same H H1 → Same H (upd H1 r o) := fun {H1 o} s1 b u e => by rw [upd_ne (ne_of_none e nr)]; exact s1 b u e
    refine ⟨_, rfl, a, rfl, ⟨_, same_sqT s0 hs⟩, for_tup (K := K) (a := a) (xs := xs) (fun i σ H' => ∃ (v3 : Option V) (ys : List V), σ = [some (.ref p), some (.ref a), some (.ref r), v3] ∧ Same H H' ∧ H' r = some (.lst ys) ∧ DpAll K H ys (appM t (ds.take i)))
      ⟨none, [], rfl, s0, upd_same, .nil⟩ (fun i σ H' _ ⟨_, _, _, e, _⟩ => same_sqT e hs) ?_ ?_⟩
    · rintro i z σ H1 hi ⟨v3, ys, rfl, s1, h1, h2⟩
      obtain ⟨d, hd, dz0⟩ := DpAll.getV ha hi
      have ndd := hn d (List.mem_of_getElem? hd)
      have dz := dp_same s1 _ _ dz0
      have hyl := DpAll.len h2
      have b0 := hl i
      have b1 := hl (i + 1)
      rw [appM_take hd, List.length_append] at b1
      have one : appN t d = [d] → ∃ (v3' : Option V) (ys' : List V), [some (V.ref p), some (.ref a), some (.ref r), some z] = [some (V.ref p), some (.ref a), some (.ref r), v3'] ∧ Same H (upd H1 r (.lst (ys ++ [z]))) ∧ (upd H1 r (.lst (ys ++ [z]))) r = some (.lst ys') ∧ DpAll K H ys' (appM t (ds.take (i + 1))) := fun e => by
        refine ⟨_, ys ++ [z], rfl, put s1, upd_same, ?_⟩
        rw [appM_take hd, e]
        exact DpAll.app h2 (.cons dz0 .nil)
      refine gname ?_
      refine ⟨_, rfl, z, d, rfl, dz, ndd, _, rfl, ite2 (fun v => ?_) (fun v => ?_)⟩
      · obtain ⟨n, rfl⟩ := var_form ndd v
        cases id dz with
        | @tup c zs _ hz az =>
        obtain ⟨v2, hv2, dv2⟩ := DpAll.get (i := 1) az rfl
        cases dv2
        refine ⟨_, rfl, _, _, _, _, rfl, rfl, hz, atI_nat (j := 1) hv2, _, rfl, p, _, rfl, DGet.k (k := Sum.inl n) (s1 _ _ hp), _, rfl, ?_⟩
        rcases TabK.val n ht with ⟨w1, w2⟩ | ⟨v', w, w1, w2, w3⟩
        · rw [w1]
          refine iteF ?_
          refine ⟨_, rfl, .inl ⟨rfl, _, SqL.of h1⟩, _, rfl, _, _, _, rfl, rfl, h1, small1000 (by omega), ?_⟩
          exact one (appN_out w2)
        · rw [w1]
          refine iteT ?_
          have g12 : DGet H1 p (.int n) (some v') := by
            have := DGet.k (k := Sum.inl n) (s1 _ _ hp)
            rw [w1] at this
            exact this
          rw [appN_in w2] at b1
          cases w3 with
          | @tup c2 ws _ hw aw =>
          have hwl := DpAll.len aw
          refine ⟨_, rfl, .inl ⟨rfl, _, SqL.of h1⟩, _, rfl, _, rfl, _, _, _, _, rfl, rfl, hz, atI_nat (j := 1) hv2, p, _, rfl, g12, _, _, _, _, rfl, rfl, h1, same_sqT s1 hw, small_of (by omega), ?_⟩
          refine ⟨_, _, rfl, put s1, upd_same, ?_⟩
          rw [appM_take hd, appN_in w2]
          exact DpAll.app h2 aw
      · refine iteF ?_
        refine ⟨_, rfl, .inl ⟨rfl, _, SqL.of h1⟩, _, rfl, _, _, _, rfl, rfl, h1, small1000 (by omega), ?_⟩
        exact one (appN_non v)
    · rintro σ H1 ⟨v3, ys, rfl, s1, h1, h2⟩
      rw [hxl, List.take_length] at h2
      refine nxp ?_
      refine ⟨_, rfl, _, _, rfl, .inl ⟨SqL.of h1, fun u nu => ?_⟩⟩
      exact q _ _ (s1.trans (same_upd nu)) (.tup (SqT.of upd_same) (dp_sameAll (s1.trans (same_upd nu)) _ _ h2))

theorem ok__law_ranks {f : Addr} {fd : FuncData} (F : Fun K "_law_ranks" "_law_ranks" s__law_ranks f fd) (E : Bi K mg) (D__law_rank : Has P w K mg base 1 "_law_rank" ["node"] (sp__law_rank K)) : FnOk P w K mg base CX0 2 f fd ["term"] (sp__law_ranks K) := by
  obtain ⟨f__law_rank, fd__law_rank, G__law_rank, g__law_rank, kp__law_rank, b__law_rank⟩ := D__law_rank
  refine F.ok sc__law_ranks (fun vs H Q E h => ?_) (fun cdv A outer s H vs Q E' hr h => ?_)
  · obtain ⟨x, ds, rfl, _⟩ := h
    rfl
  · obtain ⟨x, ds, rfl, hx, hn, hl, q⟩ := h
    refine ⟨_, (pss_one (ps_ret (pe_lc (own := [("node", 1)]) (g := gName 1) (tt := tYes) rfl sc__law_ranks.nd (pi_tup (pv 0)) (blkOk_by (N := N__law_ranks) (sc := defScope s__law_ranks) (by decide +kernel)) (fun _ _ _ _ _ => pg_name (i := 1) sc__law_ranks.nd rfl (Or.inl rfl)) (fun _ _ _ _ _ => pts_nil) (fun _ _ _ _ _ => (pe_call G__law_rank (hr.mono (by decide)) (by rfl) g__law_rank kp__law_rank b__law_rank .nil pass0 (pa_cons (pv 1) pa_nil)))))), ?_⟩
    cases id hx with
    | @tup a xs _ hs ha =>
    have hxl := DpAll.len ha
    refine ⟨_, rfl, a, rfl, ⟨_, hs⟩, fun D hD => lc_tup (K := K) (a := a) (xs := xs) (fun i H' => ∃ ys, Same H H' ∧ H' D = some (.lst ys) ∧ ImAll K (fun b => H b = Option.none ∧ b ≠ D) H' ys ((ds.take i).map rankD) ∧ ys.length = i)
      ⟨[], same_upd hD, upd_same, .nil, rfl⟩ (fun i H' _ ⟨_, e, _⟩ => same_sqT e hs) ?_ ?_⟩
    · rintro i y H1 hi ⟨ys, s1, h1, h2, h3⟩
      obtain ⟨d, hd, dy0⟩ := DpAll.getV ha hi
      have ndd := hn d (List.mem_of_getElem? hd)
      have hil := (List.getElem?_eq_some_iff.mp hd).1
      refine ⟨rfl, _, rfl, y, d, rfl, dp_same s1 _ _ dy0, ndd, fun v H2 s2 i2 => ?_⟩
      refine ⟨ys, s2 _ _ h1, small1000 (by omega), ys ++ [v], (fun b o e => by rw [upd_ne (ne_of_none e hD)]; exact s2 _ _ (s1 _ _ e)), upd_same, ?_, by rw [List.length_append, h3]; rfl⟩
      rw [List.take_add_one, hd, List.map_append]
      refine ImAll.snoc (Im.monoAll (fun b o g e => by rw [upd_ne g.2]; exact s2 _ _ e) (fun _ g => g) _ _ h2) (Im.mono (fun b o g e => by rw [upd_ne (fun z => by rw [z, h1] at g; cases g)]; exact e) (fun b g => ⟨s1.free g, fun z => by rw [z, h1] at g; cases g⟩) _ _ i2)
    · rintro H1 ⟨ys, s1, h1, h2, h3⟩
      rw [hxl, List.take_length] at h2
      exact q _ _ s1 (.lst (SqL.of h1) (Im.dpAll _ _ h2))

theorem ok__law_node {f : Addr} {fd : FuncData} (F : Fun K "_law_node" "_law_node" s__law_node f fd) (E : Bi K mg) (D__law_draw : Has P w K mg base 1 "_law_draw" ["stream", "many"] (sp__law_draw K)) : FnOk P w K mg base CX0 2 f fd ["stream"] (sp__law_node K) := by
  obtain ⟨f__law_draw, fd__law_draw, G__law_draw, g__law_draw, kp__law_draw, b__law_draw⟩ := D__law_draw
  refine F.ok sc__law_node (fun vs H Q E h => ?_) (fun cdv A outer s H vs Q E' hr h => ?_)
  · obtain ⟨s, l, rfl, _⟩ := h
    rfl
  · obtain ⟨s, l, rfl, hS, q⟩ := h
    have n9 : (2 : Nat) ^ 8 ≤ 2 ^ 9000 := Nat.pow_le_pow_right (by decide) (by decide)
    refine ⟨_, (pss_cons (ps_set (i := 1) sc__law_node.nd rfl (Or.inl rfl) (pe_call G__law_draw (hr.mono (by decide)) (by rfl) g__law_draw kp__law_draw b__law_draw .nil pass0 (pa_cons (pv 0) (pa_cons pe_int pa_nil))))
      (pss_cons (ps_if (pt_cmpR op_eq (pv 1) pe_int (nomark _)) (pss_one (ps_ret (pe_tup (pa_cons pe_str (pa_cons (pe_call G__law_draw (hr.mono (by decide)) (by rfl) g__law_draw kp__law_draw b__law_draw .nil pass0 (pa_cons (pv 0) (pa_cons pe_int pa_nil))) pa_nil))))) pss_nil)
      (pss_cons (ps_if (pt_cmpR op_eq (pv 1) pe_int (nomark _)) (pss_one (ps_ret (pe_op op_sub (pe_call G__law_draw (hr.mono (by decide)) (by rfl) g__law_draw kp__law_draw b__law_draw .nil pass0 (pa_cons (pv 0) (pa_cons pe_int pa_nil))) pe_int))) pss_nil)
      (pss_cons (ps_set (i := 2) sc__law_node.nd rfl (Or.inl rfl) (pe_ix ix_list (pe_lst (pa_cons pe_str (pa_cons pe_str (pa_cons pe_str (pa_cons pe_str (pa_cons pe_str (pa_cons pe_str (pa_cons pe_str pa_nil)))))))) (pe_call G__law_draw (hr.mono (by decide)) (by rfl) g__law_draw kp__law_draw b__law_draw .nil pass0 (pa_cons (pv 0) (pa_cons pe_int pa_nil))) (fun _ _ => rfl)))
      (pss_one (ps_ret (pe_tup (pa_cons pe_str (pa_cons (pv 2) (pa_cons (pe_op op_mul (pe_call G__law_draw (hr.mono (by decide)) (by rfl) g__law_draw kp__law_draw b__law_draw .nil pass0 (pa_cons (pv 0) (pa_cons pe_int pa_nil))) (pe_call G__law_draw (hr.mono (by decide)) (by rfl) g__law_draw kp__law_draw b__law_draw .nil pass0 (pa_cons (pv 0) (pa_cons pe_int pa_nil)))) pa_nil)))))))))), ?_⟩
    have fresh : ∀ (H2 : Hp), But s H H2 → Stm H2 s l → ∀ p, H2 p = Option.none → H p = Option.none := by
      intro H2 b2 S2 p np
      obtain ⟨os, hos⟩ := S2.at_s
      cases e : H p with
      | none => rfl
      | some o =>
        by_cases z : p = s
        · rw [z, hos] at np; cases np
        · rw [b2 _ _ z e] at np; cases np
    refine seq_asg ?_
    refine ⟨_, rfl, s, l, 4, rfl, hS, by decide, Nat.lt_of_lt_of_le (by decide) n9, fun pick H1 _ _ b1 S1 => ?_⟩
    refine gname (seq_ifN ?_)
    refine ⟨_, rfl, rfl, _, rfl, ite2 (fun e => ?_) (fun e => ?_)⟩
    · refine ⟨_, rfl, s, l, 3, rfl, S1, by decide, Nat.lt_of_lt_of_le (by decide) n9, fun r H2 r0 r1 b2 S2 => ⟨(by show 2 ≤ sizeLine; decide), fun p np => ?_⟩⟩
      obtain ⟨os, hos⟩ := S2.at_s
      obtain ⟨ol, hol⟩ := S2.at_l
      exact q _ (.tuple [.str "v", .int r]) _ ⟨3, .v r r0 r1⟩ (by show 0 ≤ 2; decide) ((b1.trans b2).trans (But.of (same_upd np))) (S2.put (ne_of_none hos np) (ne_of_none hol np)) (.tup (fresh H2 (b1.trans b2) S2 p np) upd_same (.cons (.str _) (.cons (.int _) .nil)))
    · refine seq_ifN ?_
      refine ⟨_, rfl, rfl, _, rfl, ite2 (fun e2 => ?_) (fun e2 => ?_)⟩
      · refine ⟨_, rfl, s, l, 25, rfl, S1, by decide, Nat.lt_of_lt_of_le (by decide) n9, fun r H2 r0 r1 b2 S2 => ⟨_, _, rfl, rfl, ?_⟩⟩
        exact q _ (.int (r - 12)) _ ⟨1, .i _ (by omega) (by omega)⟩ (by show 0 ≤ 2; decide) (b1.trans b2) S2 (.int _)
      · refine seq_asg (op_of ?_)
        refine lit_lst (K := K) (ds := names7.map PyData.str) ?_ (by decide) H1 _ fun v0 H0 t0 i0 => ?_
        · unfold names7
          simp only [List.map_cons, List.map_nil]
          walk_at "lits"
        cases i0 with
        | @lst p0 xs0 _ g0 e0 a0 =>
        obtain ⟨os1, hos1⟩ := S1.at_s
        have np : p0 ≠ s := fun z => by
          rw [z, hos1] at g0
          cases g0
        have bt := b1.trans (But.of t0)
        refine ⟨_, rfl, s, l, 7, rfl, S1.keep t0, by decide, Nat.lt_of_lt_of_le (by decide) n9, fun r H2 r0 r1 b2 S2 => ?_⟩
        obtain ⟨x, hx, hat⟩ := lit_pick a0 r0 r1
        refine ⟨_, _, _, _, rfl, rfl, SqL.of (b2 _ _ np e0), hat, ?_⟩
        refine gname ?_
        refine ⟨_, rfl, _, rfl, s, l, 3, rfl, S2, by decide, Nat.lt_of_lt_of_le (by decide) n9, fun r3 H3 r30 r31 b3 S3 => ?_⟩
        refine ⟨_, rfl, s, l, 2, rfl, S3, by decide, Nat.lt_of_lt_of_le (by decide) n9, fun r4 H4 r40 r41 b4 S4 => ?_⟩
        have bb := ((bt.trans b2).trans b3).trans b4
        have h34 : 0 ≤ r3 * r4 ∧ r3 * r4 ≤ 2 := by
          rcases (show r4 = 0 ∨ r4 = 1 by omega) with z | z <;> subst z <;> omega
        refine ⟨_, _, rfl, rfl, .inl ⟨by omega, by omega⟩, (by show 3 ≤ sizeLine; decide), fun p np => ?_⟩
        obtain ⟨os, hos⟩ := S4.at_s
        obtain ⟨ol, hol⟩ := S4.at_l
        exact q _ (.tuple [.str "f", .str x, .int (r3 * r4)]) _ ⟨1, .f x _ (List.all_eq_true.mp names7_ok _ hx) h34.1 (by omega)⟩ (by show (r3 * r4).toNat ≤ 2; omega) (bb.trans (But.of (same_upd np))) (S4.put (ne_of_none hos np) (ne_of_none hol np)) (.tup (fresh H4 bb S4 p np) upd_same (.cons (.str _) (.cons (.str _) (.cons (.int _) .nil))))

theorem ok_term_key {f : Addr} {fd : FuncData} (F : Fun K "term_key" "term_key" s_term_key f fd) (E : Bi K mg) (D_node_key : Has P w K mg base 2 "node_key" ["node"] (sp_node_key K)) : FnOk P w K mg base CX0 3 f fd ["term"] (sp_term_key K) := by
  obtain ⟨f_node_key, fd_node_key, G_node_key, g_node_key, kp_node_key, b_node_key⟩ := D_node_key
  refine F.ok sc_term_key (fun vs H Q E h => ?_) (fun cdv A outer s H vs Q E' hr h => ?_)
  · obtain ⟨x, ds, rfl, _⟩ := h
    rfl
  · obtain ⟨x, ds, rfl, hx, hn, hl, q⟩ := h
    refine ⟨_, (pss_one (ps_ret (pe_lc (own := [("node", 1)]) (g := gName 1) (tt := tYes) rfl sc_term_key.nd (pi_tup (pv 0)) (blkOk_by (N := N_term_key) (sc := defScope s_term_key) (by decide +kernel)) (fun _ _ _ _ _ => pg_name (i := 1) sc_term_key.nd rfl (Or.inl rfl)) (fun _ _ _ _ _ => pts_nil) (fun _ _ _ _ _ => (pe_call G_node_key (hr.mono (by decide)) (by rfl) g_node_key kp_node_key b_node_key .nil pass0 (pa_cons (pv 1) pa_nil)))))), ?_⟩
    cases id hx with
    | @tup a xs _ hs ha =>
    have hxl := DpAll.len ha
    refine ⟨_, rfl, a, rfl, ⟨_, hs⟩, fun D hD => lc_tup (K := K) (a := a) (xs := xs) (fun i H' => ∃ ys, Same H H' ∧ H' D = some (.lst ys) ∧ DpAll K H' ys ((ds.take i).map keyD) ∧ ys.length = i)
      ⟨[], same_upd hD, upd_same, .nil, rfl⟩ (fun i H' _ ⟨_, e, _⟩ => same_sqT e hs) ?_ ?_⟩
    · rintro i y H1 hi ⟨ys, s1, h1, h2, h3⟩
      obtain ⟨d, hd, dy0⟩ := DpAll.getV ha hi
      have ndd := hn d (List.mem_of_getElem? hd)
      have hil := (List.getElem?_eq_some_iff.mp hd).1
      refine ⟨rfl, _, rfl, y, d, rfl, dp_same s1 _ _ dy0, ndd, fun v H2 s2 d2 => ?_⟩
      have nt : notTup H2 D := .inl ⟨_, s2 _ _ h1⟩
      refine ⟨ys, s2 _ _ h1, small1000 (by omega), ys ++ [v], (fun b o e => by rw [upd_ne (ne_of_none e hD)]; exact s2 _ _ (s1 _ _ e)), upd_same, ?_, by rw [List.length_append, h3]; rfl⟩
      rw [List.take_add_one, hd, List.map_append]
      exact DpAll.app (dp_putAll nt _ _ (keys_facts fun x hx => hn x (List.mem_of_mem_take hx)).2.2.2 (dp_sameAll s2 _ _ h2)) (.cons (dp_put nt _ _ (key_facts ndd).2.2.2 d2) .nil)
    · rintro H1 ⟨ys, s1, h1, h2, h3⟩
      rw [hxl, List.take_length] at h2
      exact q _ _ s1 (.lst (SqL.of h1) h2)

theorem ok__law_numbered {f : Addr} {fd : FuncData} (F : Fun K "_law_numbered" "_law_numbered" s__law_numbered f fd) (E : Bi K mg) (D__law_is_variable : Has P w K mg base 1 "_law_is_variable" ["node"] (sp__law_is_variable K)) (D__law_put : Has P w K mg base 2 "_law_put" ["table", "term"] (sp__law_put K)) : FnOk P w K mg base CX0 3 f fd ["terms", "first"] (sp__law_numbered K) := by
  obtain ⟨f__law_is_variable, fd__law_is_variable, G__law_is_variable, g__law_is_variable, kp__law_is_variable, b__law_is_variable⟩ := D__law_is_variable
  obtain ⟨f__law_put, fd__law_put, G__law_put, g__law_put, kp__law_put, b__law_put⟩ := D__law_put
  refine F.ok sc__law_numbered (fun vs H Q E h => ?_) (fun cdv A outer s H vs Q E' hr h => ?_)
  · obtain ⟨a, x, ds, rfl, _⟩ := h
    rfl
  · obtain ⟨a, x, ds, rfl, ha0, hx, hn, hl, q⟩ := h
    refine ⟨_, (pss_cons (ps_set (i := 2) sc__law_numbered.nd rfl (Or.inl rfl) pe_dnewK)
      (pss_cons (ps_set (i := 3) sc__law_numbered.nd rfl (Or.inl rfl) (pe_lst pa_nil))
      (pss_cons (ps_for PassesOwn.never rfl (pi_list (pv 0)) (pg_name (i := 4) sc__law_numbered.nd rfl (Or.inl rfl)) (pss_cons (ps_for PassesOwn.never rfl (pi_tup (pv 4)) (pg_name (i := 5) sc__law_numbered.nd rfl (Or.inl rfl)) (pss_one (ps_if (pw_and (pt_val (pe_call G__law_is_variable (hr.mono (by decide)) (by rfl) g__law_is_variable kp__law_is_variable b__law_is_variable .nil pass0 (pa_cons (pv 5) pa_nil))) (pw_and1 (pt_cmp (pc_dnotin (hu_of hr) (pe_ix ix_tup (pv 5) pe_int (fun _ _ => rfl)) (pv 2))))).pt (pss_one (ps_dput (hu_of hr) (pv 2) (pe_ix ix_tup (pv 5) pe_int (fun _ _ => rfl)) (pe_tup (pa_cons (pe_tup (pa_cons pe_str (pa_cons (pe_op op_add (pv 1) (pe_callB call_lenD (by rfl) E.b_len PySem.boot_len (pa_cons (pv 2) pa_nil))) pa_nil))) pa_nil)) (by rfl))) pss_nil)))
      (pss_one (ps_expr (pe_bm PySem.F.plainAttrs_list PySem.F.slot_list_append PySem.F.type_list_append mt_append (pv 3) (pa_cons (pe_call G__law_put (hr.mono (by decide)) (by rfl) g__law_put kp__law_put b__law_put .nil pass0 (pa_cons (pv 2) (pa_cons (pv 4) pa_nil))) pa_nil))))))
      (pss_one (ps_ret (pv 3)))))), ?_⟩
    refine seq_asg ?_
    refine fun d nd => ?_
    refine gname (seq_asg ?_)
    have s00 : Same H (upd H d (.dK [])) := same_upd nd
    refine ⟨Nat.zero_le _, fun r nr => ?_⟩
    refine gname (seq_any ?_)
    have nrH : H r = Option.none := s00.free nr
    have dr : d ≠ r := fun z => by rw [z, upd_same] at nr; cases nr
    have s0 : Same H (upd (upd H d (.dK [])) r (.lst [])) := s00.trans (same_upd nr)
    have put : ∀ {H1 : Hp} {o : HO}, Same H H1 → Same H (upd H1 r o) := fun {H1 o} s1 b u e => by rw [upd_ne (ne_of_none e nrH)]; exact s1 b u e
    have putd : ∀ {H1 : Hp} {o : HO}, Same H H1 → Same H (upd H1 d o) := fun {H1 o} s1 b u e => by rw [upd_ne (ne_of_none e nd)]; exact s1 b u e
    cases id hx with
    | @tup c zs _ hs hz =>
    have hzl := DpAll.len hz
    refine ⟨_, rfl, a, rfl, ⟨_, SqL.of (s0 _ _ ha0)⟩, for_list (K := K) (a := a) (xs := [.ref c]) (fun i σ H' => ∃ (vt vn : Option V), σ = [some (.ref a), some (.int 0), some (.ref d), some (.ref r), vt, vn] ∧ Same H H' ∧ ((i = 0 ∧ H' d = some (.dK []) ∧ H' r = some (.lst [])) ∨ (i = 1 ∧ ∃ y es, H' r = some (.lst [y]) ∧ Dp K H' y (.tuple es) ∧ (∀ d ∈ es, NdA d) ∧ es.length = ds.length)))
      ⟨none, none, rfl, s0, .inl ⟨rfl, by rw [upd_ne dr, upd_same], upd_same⟩⟩ (fun i σ H' _ ⟨_, _, _, e, _⟩ => SqL.of (e _ _ ha0)) ?_ ?_⟩
    · rintro i y σ H1 hi ⟨vt, vn, rfl, s1, hcase⟩
      have hi0 : i < 1 := by
        have := (List.getElem?_eq_some_iff.mp hi).1
        simpa using this
      obtain rfl : i = 0 := by omega
      rw [List.getElem?_cons_zero] at hi
      cases hi
      rcases hcase with ⟨_, h1, h2⟩ | ⟨z, _⟩
      · refine gname (seq_any ?_)
        refine ⟨_, rfl, c, rfl, ⟨_, same_sqT s1 hs⟩, for_tup (K := K) (a := c) (xs := zs) (fun j σ H' => ∃ (vn : Option V) (kvs : List (Key × V)) (t : Tab), σ = [some (.ref a), some (.int 0), some (.ref d), some (.ref r), some (.ref c), vn] ∧ Same H H' ∧ H' d = some (.dK kvs) ∧ H' r = some (.lst []) ∧ TabK K H' kvs t ∧ TabN t ∧ OneT t ∧ t.length ≤ j)
          ⟨vn, [], [], rfl, s1, h1, h2, True.intro, (fun x hx => nomatch hx), (fun x hx => nomatch hx), Nat.le_refl _⟩ (fun i σ H' _ ⟨_, _, _, _, e, _⟩ => same_sqT e hs) ?_ ?_⟩
        · rintro j u σ H2 hj ⟨vn, kvs, t, rfl, s2, g1, g2, g3, g4, g5, g6⟩
          obtain ⟨e, hd, du0⟩ := DpAll.getV hz hj
          have ndd := hn e (List.mem_of_getElem? hd)
          have hjl := (List.getElem?_eq_some_iff.mp hd).1
          have du := dp_same s2 _ _ du0
          have hkl := TabK.len g3
          refine gname ?_
          refine ⟨_, rfl, u, e, rfl, du, ndd, _, rfl, ite2 (fun v => ?_) (fun v => ?_)⟩
          · obtain ⟨n, n0, rfl⟩ := var_num ndd v
            cases id du with
            | @tup p2 ws _ hw aw =>
            obtain ⟨v2, hv2, dv2⟩ := DpAll.get (i := 1) aw rfl
            cases dv2
            refine ⟨_, rfl, _, _, _, _, rfl, rfl, hw, atI_nat (j := 1) hv2, _, rfl, d, _, rfl, DGet.k (k := Sum.inl n) g1, _, rfl, ?_⟩
            cases hv : valV kvs (Sum.inl n) with
            | some w =>
              exact iteF ⟨_, kvs, t, rfl, s2, g1, g2, g3, g4, g5, by omega⟩
            | none =>
              refine iteT ?_
              refine ⟨_, rfl, _, rfl, _, _, rfl, g1, _, _, rfl, rfl, (by show 2 ≤ sizeLine; decide), fun p np => ⟨(by show 1 ≤ sizeLine; decide), fun p3 np3 => ?_⟩⟩
              have sp := same_upd (o := .tup [.str "v", .int (0 + (kvs.length : Int))]) np
              have sp3 := same_upd (o := .tup [.ref p]) np3
              have s3 := sp.trans sp3
              have dval : Dp K _ (.ref p3) (.tuple (varN (0 + (kvs.length : Int)))) := .tup (SqT.of (upd_same (H := upd H2 p (.tup [.str "v", .int (0 + (kvs.length : Int))])) (a := p3) (o := .tup [.ref p]))) (.cons (.tup (SqT.of (sp3 _ _ upd_same)) (.cons (.str _) (.cons (.int _) .nil))) .nil)
              have g1' := s3 _ _ g1
              have g2' := s3 _ _ g2
              have g3' := tab_same s3 g4 g3
              have hw' := same_sqT s3 hw
              generalize upd (upd H2 p (.tup [.str "v", .int (0 + (kvs.length : Int))])) p3 (.tup [.ref p]) = H3 at s3 dval g1' g2' g3' hw'
              have nt : notTup H3 d := .inr (.inl ⟨_, g1'⟩)
              refine ⟨_, rfl, _, rfl, _, _, _, _, rfl, rfl, hw', atI_nat (j := 1) hv2, d, _, rfl, DPut.k (k := Sum.inl n) g1' (small1000 (by omega)), ?_⟩
              have nv0 := var_nd (n := 0 + (kvs.length : Int)) (by omega)
              obtain ⟨t', z1, z2, z3⟩ := TabK.put (n := n) (dp_put (o := .dK (putK kvs (Sum.inl n) (.ref p3))) nt _ _ (tup_noL nv0) dval) (tab_put (o := .dK (putK kvs (Sum.inl n) (.ref p3))) nt g4 g3')
              refine ⟨_, _, t', rfl, putd (s2.trans s3), upd_same, by rw [upd_ne dr.symm]; exact g2', z1, fun x hx => ?_, fun x hx => ?_, by omega⟩
              · rcases z2 x hx with z | z
                · exact g4 x z
                · rw [z]; exact nv0
              · rcases z2 x hx with z | z
                · exact g5 x z
                · rw [z]; rfl
          · exact iteF ⟨_, kvs, t, rfl, s2, g1, g2, g3, g4, g5, by omega⟩
        · rintro σ H2 ⟨vn, kvs, t, rfl, s2, g1, g2, g3, g4, g5, g6⟩
          refine nxp ?_
          refine ⟨_, rfl, .inl ⟨rfl, _, SqL.of g2⟩, _, rfl, _, rfl, d, kvs, t, .ref c, ds, rfl, g1, g3, g4, dp_same s2 _ _ hx, hn, fun i => ?_, fun v H3 s3 d3 => ?_⟩
          · rw [appM_one g5, List.length_take]
            omega
          · refine ⟨_, _, _, rfl, rfl, s3 _ _ g2, (by show 0 < sizeLine; decide), ?_⟩
            have nt : notTup H3 r := .inl ⟨_, s3 _ _ g2⟩
            have an := appM_nd g4 hn
            exact ⟨_, _, rfl, put (s2.trans s3), .inr ⟨rfl, v, appM t ds, upd_same, dp_put nt _ _ (tup_noL an) d3, an, appM_one g5 ds⟩⟩
      · omega
    · rintro σ H1 ⟨vt, vn, rfl, s1, hcase⟩
      refine nxp ?_
      rcases hcase with ⟨z, _⟩ | ⟨_, y, es, h1, h2, h3, h4⟩
      · cases z
      · exact ⟨_, rfl, q r y es _ s1 h1 h2 h3 h4⟩

theorem ok__law_before {f : Addr} {fd : FuncData} (F : Fun K "_law_before" "_law_before" s__law_before f fd) (E : Bi K mg) (D__law_ranks : Has P w K mg base 2 "_law_ranks" ["term"] (sp__law_ranks K)) : FnOk P w K mg base CX0 3 f fd ["left", "right"] (sp__law_before K) := by
  obtain ⟨f__law_ranks, fd__law_ranks, G__law_ranks, g__law_ranks, kp__law_ranks, b__law_ranks⟩ := D__law_ranks
  refine F.ok sc__law_before (fun vs H Q E h => ?_) (fun cdv A outer s H vs Q E' hr h => ?_)
  · obtain ⟨x, y, ds, es, rfl, _⟩ := h
    rfl
  · obtain ⟨x, y, ds, es, rfl, hx, hy, nx, ny, lx, ly, q⟩ := h
    refine ⟨_, (pss_one (ps_ret (pe_cmpR (op_ltD hr.units) (pe_call G__law_ranks (hr.mono (by decide)) (by rfl) g__law_ranks kp__law_ranks b__law_ranks .nil pass0 (pa_cons (pv 0) pa_nil)) (pe_call G__law_ranks (hr.mono (by decide)) (by rfl) g__law_ranks kp__law_ranks b__law_ranks .nil pass0 (pa_cons (pv 1) pa_nil)) (nomark _)))), ?_⟩
    exact ⟨_, rfl, x, ds, rfl, hx, nx, lx, fun v1 H1 s1 d1 => ⟨_, rfl, y, es, rfl, dp_same s1 _ _ hy, ny, ly, fun v2 H2 s2 d2 => ⟨_, _, dp_same s2 _ _ d1, d2, (kt_alike nx ny).2, (fun z => nomatch z), (kt_deep nx).2, q _ (s1.trans s2)⟩⟩⟩

theorem ok__law_some {f : Addr} {fd : FuncData} (F : Fun K "_law_some" "_law_some" s__law_some f fd) (E : Bi K mg) (D__law_node : Has P w K mg base 2 "_law_node" ["stream"] (sp__law_node K)) : FnOk P w K mg base CX0 3 f fd ["stream", "size"] (sp__law_some K) := by
  obtain ⟨f__law_node, fd__law_node, G__law_node, g__law_node, kp__law_node, b__law_node⟩ := D__law_node
  refine F.ok sc__law_some (fun vs H Q E h => ?_) (fun cdv A outer s H vs Q E' hr h => ?_)
  · obtain ⟨s, l, rfl, _⟩ := h
    rfl
  · obtain ⟨s, l, rfl, hS, q⟩ := h
    refine ⟨_, (pss_cons (ps_set (i := 2) sc__law_some.nd rfl (Or.inl rfl) (pe_lst pa_nil))
      (pss_cons (ps_set (i := 3) sc__law_some.nd rfl (Or.inl rfl) pe_int)
      (pss_cons (ps_while PassesOwn.never (pt_cmpR op_gt (pv 3) pe_int (nomark _)) (pss_cons (ps_set (i := 4) sc__law_some.nd rfl (Or.inl rfl) (pe_call G__law_node (hr.mono (by decide)) (by rfl) g__law_node kp__law_node b__law_node .nil pass0 (pa_cons (pv 0) pa_nil)))
      (pss_cons (ps_if (pw_and (pt_val (pe_callB call_isi (by rfl) E.b_isinstance (by decide +kernel) (pa_cons (pv 4) (pa_cons (pe_ty "tuple" (by rfl) E.b_tuple (by decide +kernel)) pa_nil)))) (pw_and1 (pt_cmpR op_eq (pe_ix ix_tup (pv 4) pe_int (fun _ _ => rfl)) pe_str (nomark _)))).pt (pss_cons (ps_if (pt_cmpR op_ge (pe_callB call_len_seq (by rfl) E.b_len PySem.boot_len (pa_cons (pv 2) pa_nil)) (pv 1) (nomark _)) (pss_one (ps_set (i := 4) sc__law_some.nd rfl (Or.inl rfl) (pe_tup (pa_cons pe_str (pa_cons (pe_ix ix_tup (pv 4) pe_int (fun _ _ => rfl)) (pa_cons pe_int pa_nil)))))) pss_nil)
      (pss_one (ps_set (i := 3) sc__law_some.nd rfl (Or.inl rfl) (pe_op op_add (pv 3) (pe_ix ix_tup (pv 4) pe_int (fun _ _ => rfl)))))) pss_nil)
      (pss_cons (ps_expr (pe_bm PySem.F.plainAttrs_list PySem.F.slot_list_append PySem.F.type_list_append mt_append (pv 2) (pa_cons (pv 4) pa_nil)))
      (pss_one (ps_set (i := 3) sc__law_some.nd rfl (Or.inl rfl) (pe_op op_sub (pv 3) pe_int)))))))
      (pss_one (ps_ret (pe_callTy call_tuple_of (by rfl) E.b_tuple (by decide +kernel) (pa_cons (pv 2) pa_nil))))))), ?_⟩
    refine seq_asg ?_
    refine ⟨Nat.zero_le _, fun r nr => ?_⟩
    refine gname (seq_asg (gname (seq_any ?_)))
    obtain ⟨os, hos⟩ := hS.at_s
    obtain ⟨ol, hol⟩ := hS.at_l
    have sr : s ≠ r := ne_of_none hos nr
    have lr : l ≠ r := ne_of_none hol nr
    refine ⟨fun k σ H' => ∃ (m : Nat) (va : Option V) (xs : List V) (ds : List PyData), σ = [some (.ref s), some (.int 5), some (.ref r), some (.int (m : Int)), va] ∧ H' r = some (.lst xs) ∧ ImAll K (fun b => H b = Option.none ∧ b ≠ r) H' xs ds ∧ (∀ d ∈ ds, NdA d) ∧ m + ds.length + 2 * (5 - min ds.length 5) ≤ 11 ∧ 0 < m + ds.length ∧ Stm H' s l ∧ But s H H' ∧ k = 11 - ds.length,
      ⟨_, 1, _, [], [], rfl, upd_same, .nil, (fun d hd => nomatch hd), by decide, by decide, hS.put sr lr, But.of (same_upd nr), rfl⟩, ?_⟩
    rintro k σ H1 ⟨m, va, xs, ds, rfl, h1, h2, h3, h4, h5, h6, h7, rfl⟩
    have hxl : xs.length = ds.length := h2.len
    refine ⟨_, rfl, _, _, rfl, rfl, _, rfl, ite2 (fun e => ?_) (fun e => ?_)⟩
    · have hm : 0 < m := by
        have := of_decide_eq_true e
        omega
      refine ⟨fun σ' H' => ∃ (m' : Nat) (va : Option V) (xs' : List V) (ds' : List PyData), σ' = [some (.ref s), some (.int 5), some (.ref r), some (.int (m' : Int)), va] ∧ H' r = some (.lst xs') ∧ ImAll K (fun b => H b = Option.none ∧ b ≠ r) H' xs' ds' ∧ (∀ d ∈ ds', NdA d) ∧ m' + ds'.length + 2 * (5 - min ds'.length 5) ≤ 11 ∧ 0 < m' + ds'.length ∧ Stm H' s l ∧ But s H H' ∧ ds'.length = ds.length + 1,
        fun σ' H' ⟨m', va', xs', ds', g1, g2, g3, g4, g5, g6, g7, g8, g9⟩ => ⟨11 - ds'.length, by omega, m', va', xs', ds', g1, g2, g3, g4, g5, g6, g7, g8, rfl⟩, ?_⟩
      have free : ∀ (Hn : Hp), But s H1 Hn → Stm Hn s l → ∀ b, Hn b = Option.none → H b = Option.none ∧ b ≠ r := fun Hn bn Sn b g => by
        obtain ⟨on, hon⟩ := Sn.at_s
        refine ⟨?_, fun z => by rw [z, bn _ _ sr.symm h1] at g; cases g⟩
        cases eh : H b with
        | none => rfl
        | some o =>
          by_cases z : b = s
          · rw [z, hon] at g; cases g
          · rw [bn _ _ z (h7 _ _ z eh)] at g; cases g
      refine seq_asg ?_
      refine ⟨_, rfl, s, l, rfl, h6, fun v d H2 nd ar b2 S2 iv => ?_⟩
      refine gname ?_
      have iv1 : Im K (fun b => H b = Option.none ∧ b ≠ r) H2 v d := Im.mono (fun _ _ _ e => e) (free _ (But.refl _ _) h6) _ _ iv
      refine seq_via (fun σ2 H3 => ∃ (m' : Nat) (v' : V) (d' : PyData), σ2 = [some (.ref s), some (.int 5), some (.ref r), some (.int (m' : Int)), some v'] ∧ NdA d' ∧ Im K (fun b => H b = Option.none ∧ b ≠ r) H3 v' d' ∧ But s H1 H3 ∧ Stm H3 s l ∧ 0 < m' ∧ m' + ds.length + 2 * (5 - min (ds.length + 1) 5) ≤ 11) ?_ (fun go => ?_)
      · rintro σ2 H3 ⟨m', v', d', rfl, nd', i', b3, S3, m0, mb⟩
        refine seq_any ?_
        have e3 := b3 _ _ sr.symm h1
        refine ⟨_, rfl, .inl ⟨rfl, _, SqL.of e3⟩, _, rfl, _, _, _, rfl, rfl, e3, small1000 (by omega), ?_⟩
        refine nxp (asg1 ?_)
        refine ⟨_, rfl, _, _, rfl, rfl, ?_⟩
        refine gname ?_
        have k1 : ∀ b o, (H b = Option.none ∧ b ≠ r) → H3 b = some o → (upd H3 r (.lst (xs ++ [v']))) b = some o := fun b o g e => by rw [upd_ne g.2]; exact e
        refine ⟨m' - 1, _, xs ++ [v'], ds ++ [d'], by show [_, _, _, some (V.int ((m' : Int) - 1)), _] = _; rw [show (m' : Int) - 1 = ((m' - 1 : Nat) : Int) by omega], upd_same, ?_, fun x hx => ?_, ?_, ?_, S3.put sr lr, fun b o hb e => ?_, by rw [List.length_append]; rfl⟩
        · refine ImAll.snoc (Im.monoAll (fun b o g e => k1 b o g (b3 b o (fun z => by rw [z, hos] at g; cases g.1) e)) (fun _ g => g) _ _ h2) (Im.mono k1 (fun _ g => g) _ _ i')
        · rcases List.mem_append.mp hx with z | z
          · exact h3 _ z
          · rw [List.mem_singleton.mp z]; exact nd'
        · rw [List.length_append, List.length_singleton]
          omega
        · rw [List.length_append, List.length_singleton]
          omega
        · rw [upd_ne (ne_of_none e nr)]
          exact b3 b o hb (h7 b o hb e)
      · have dx := Im.dp _ _ iv1
        have keep : ∃ (m' : Nat) (v' : V) (d' : PyData), [some (V.ref s), some (.int 5), some (.ref r), some (.int (m : Int)), some v] = [some (.ref s), some (.int 5), some (.ref r), some (.int (m' : Int)), some v'] ∧ NdA d' ∧ Im K (fun b => H b = Option.none ∧ b ≠ r) H2 v' d' ∧ But s H1 H2 ∧ Stm H2 s l ∧ 0 < m' ∧ m' + ds.length + 2 * (5 - min (ds.length + 1) 5) ≤ 11 := ⟨m, v, d, rfl, nd, iv1, b2, S2, hm, by omega⟩
        refine ⟨_, rfl, _, _, _, _, _, rfl, .ty _, tyx_of dx, kit_ty (kitT _), _, rfl, ?_⟩
        obtain ⟨wd, nd0⟩ := id nd
        cases nd0 with
        | i n z1 z2 => exact iteF (iteF (go _ _ keep))
        | v n z1 z2 =>
          cases id dx with
          | tup hz az =>
          obtain ⟨v0, hv0, dv0⟩ := DpAll.get (i := 0) az rfl
          cases dv0
          refine iteT ⟨_, rfl, _, _, _, _, rfl, rfl, hz, atI_nat (j := 0) hv0, rfl, _, rfl, ?_⟩
          rw [show decide (V.str (Str.ofString "v") = V.str (Str.ofString "f")) = false by decide +kernel]
          exact iteF (go _ _ keep)
        | f y n z0 z1 z2 =>
          cases id dx with
          | tup hz az =>
          obtain ⟨v0, hv0, dv0⟩ := DpAll.get (i := 0) az rfl
          obtain ⟨v1, hv1, dv1⟩ := DpAll.get (i := 1) az rfl
          cases dv0
          cases dv1
          have arn : n.toNat ≤ 2 := ar
          refine iteT ⟨_, rfl, _, _, _, _, rfl, rfl, hz, atI_nat (j := 0) hv0, rfl, _, rfl, ?_⟩
          rw [decide_eq_true rfl]
          refine iteT ?_
          have e2 := b2 _ _ sr.symm h1
          refine seq_via (fun σ2 H3 => ∃ (v' : V) (n' : Int), σ2 = [some (.ref s), some (.int 5), some (.ref r), some (.int (m : Int)), some v'] ∧ 0 ≤ n' ∧ n' ≤ 2 ∧ (5 ≤ ds.length → n' = 0) ∧ Im K (fun b => H b = Option.none ∧ b ≠ r) H3 v' (.tuple [.str "f", .str y, .int n']) ∧ But s H1 H3 ∧ Stm H3 s l) ?_ (fun go2 => ?_)
          · rintro σ2 H3 ⟨v', n', rfl, n0, n2, n5, i', b3, S3⟩
            have dx' := Im.dp _ _ i'
            cases id dx' with
            | tup hz' az' =>
            obtain ⟨v2, hv2, dv2⟩ := DpAll.get (i := 2) az' rfl
            cases dv2
            refine ⟨_, rfl, _, rfl, _, _, _, _, rfl, rfl, hz', atI_nat (j := 2) hv2, _, _, rfl, rfl, ?_⟩
            refine gname (go _ _ ⟨m + n'.toNat, _, _, by show [_, _, _, some (V.int ((m : Int) + n')), _] = _; rw [show (m : Int) + n' = ((m + n'.toNat : Nat) : Int) by omega], ⟨1, .f y n' z0 n0 (by omega)⟩, i', b3, S3, by omega, ?_⟩)
            by_cases z : 5 ≤ ds.length
            · have := n5 z
              omega
            · omega
          · refine ⟨_, rfl, _, _, rfl, .inl (SqL.of e2), _, rfl, _, _, rfl, rfl, _, rfl, ite2 (fun e5 => ?_) (fun e5 => ?_)⟩
            · refine ⟨_, rfl, _, _, _, _, rfl, rfl, hz, atI_nat (j := 1) hv1, (by show 3 ≤ sizeLine; decide), fun p np => ?_⟩
              obtain ⟨os2, hos2⟩ := S2.at_s
              obtain ⟨ol2, hol2⟩ := S2.at_l
              refine gname (go2 _ _ ⟨_, 0, rfl, by decide, by decide, fun _ => rfl, .tup (free _ b2 S2 _ np) upd_same (.cons (.str _) (.cons (.str _) (.cons (.int _) .nil))), b2.trans (But.of (same_upd np)), S2.put (ne_of_none hos2 np) (ne_of_none hol2 np)⟩)
            · have hlt : ¬ (5 : Int) ≤ (xs.length : Int) := fun z => e5 (decide_eq_true z)
              exact go2 _ _ ⟨_, n, rfl, z1, by omega, fun z => by omega, iv1, b2, S2⟩
    · refine nxp ?_
      have hm : m = 0 := by
        cases m with
        | zero => rfl
        | succ m => exact absurd (decide_eq_true (by omega)) e
      subst hm
      refine ⟨_, rfl, _, _, rfl, .inl ⟨SqL.of h1, fun t nt => ?_⟩⟩
      obtain ⟨os1, hos1⟩ := h6.at_s
      obtain ⟨ol1, hol1⟩ := h6.at_l
      have ft : H t = Option.none := by
        cases eh : H t with
        | none => rfl
        | some o =>
          by_cases z : t = s
          · rw [z, hos1] at nt; cases nt
          · rw [h7 _ _ z eh] at nt; cases nt
      exact q _ ds _ h3 (by omega) (by omega) (h7.trans (But.of (same_upd nt))) (h6.put (ne_of_none hos1 nt) (ne_of_none hol1 nt)) (.tup ft upd_same (Im.monoAll (fun b o _ e => same_upd nt b o e) (fun _ g => g.1) _ _ h2))

theorem ok__law_near {f : Addr} {fd : FuncData} (F : Fun K "_law_near" "_law_near" s__law_near f fd) (E : Bi K mg) (D__law_draw : Has P w K mg base 1 "_law_draw" ["stream", "many"] (sp__law_draw K)) (D__law_node : Has P w K mg base 2 "_law_node" ["stream"] (sp__law_node K)) : FnOk P w K mg base CX0 3 f fd ["stream", "term"] (sp__law_near K) := by
  obtain ⟨f__law_draw, fd__law_draw, G__law_draw, g__law_draw, kp__law_draw, b__law_draw⟩ := D__law_draw
  obtain ⟨f__law_node, fd__law_node, G__law_node, g__law_node, kp__law_node, b__law_node⟩ := D__law_node
  refine F.ok sc__law_near (fun vs H Q E h => ?_) (fun cdv A outer s H vs Q E' hr h => ?_)
  · obtain ⟨G, s, l, v, ds, rfl, _⟩ := h
    rfl
  · obtain ⟨G, s, l, v, ds, rfl, hS, hG, iv, hn, h0, h100, q⟩ := h
    have n9 : (2 : Nat) ^ 8 ≤ 2 ^ 9000 := Nat.pow_le_pow_right (by decide) (by decide)
    refine ⟨_, (pss_cons (ps_set (i := 2) sc__law_near.nd rfl (Or.inl rfl) (pe_call G__law_draw (hr.mono (by decide)) (by rfl) g__law_draw kp__law_draw b__law_draw .nil pass0 (pa_cons (pv 0) (pa_cons (pe_callB call_len_seq (by rfl) E.b_len PySem.boot_len (pa_cons (pv 1) pa_nil)) pa_nil))))
      (pss_cons (ps_set (i := 3) sc__law_near.nd rfl (Or.inl rfl) (pe_call G__law_node (hr.mono (by decide)) (by rfl) g__law_node kp__law_node b__law_node .nil pass0 (pa_cons (pv 0) pa_nil)))
      (pss_cons (ps_set (i := 4) sc__law_near.nd rfl (Or.inl rfl) (pe_ix ix_tup (pv 1) (pv 2) (fun _ _ => rfl)))
      (pss_cons (ps_set (i := 5) sc__law_near.nd rfl (Or.inl rfl) pe_int)
      (pss_cons (ps_if (pw_and (pt_val (pe_callB call_isi (by rfl) E.b_isinstance (by decide +kernel) (pa_cons (pv 4) (pa_cons (pe_ty "tuple" (by rfl) E.b_tuple (by decide +kernel)) pa_nil)))) (pw_and1 (pt_cmpR op_eq (pe_ix ix_tup (pv 4) pe_int (fun _ _ => rfl)) pe_str (nomark _)))).pt (pss_one (ps_set (i := 5) sc__law_near.nd rfl (Or.inl rfl) (pe_ix ix_tup (pv 4) pe_int (fun _ _ => rfl)))) pss_nil)
      (pss_cons (ps_if (pw_or (pt_cmpR op_gt (pv 5) pe_int (nomark _)) (pw_or1 (pw_and (pt_val (pe_callB call_isi (by rfl) E.b_isinstance (by decide +kernel) (pa_cons (pv 3) (pa_cons (pe_ty "tuple" (by rfl) E.b_tuple (by decide +kernel)) pa_nil)))) (pw_and1 (pt_cmpR op_eq (pe_ix ix_tup (pv 3) pe_int (fun _ _ => rfl)) pe_str (nomark _)))).pt)).pt (pss_one (ps_set (i := 3) sc__law_near.nd rfl (Or.inl rfl) (pe_tup (pa_cons pe_str (pa_cons (pe_ix ix_list (pe_lst (pa_cons pe_str (pa_cons pe_str (pa_cons pe_str (pa_cons pe_str pa_nil))))) (pe_call G__law_draw (hr.mono (by decide)) (by rfl) g__law_draw kp__law_draw b__law_draw .nil pass0 (pa_cons (pv 0) (pa_cons pe_int pa_nil))) (fun _ _ => rfl)) (pa_cons (pv 5) pa_nil)))))) pss_nil)
      (pss_one (ps_ret (pe_op op_catA (pe_op op_catA (pe_slice sl_tupA (pv 1) po_none (po_some (pv 2))) (pe_tup (pa_cons (pv 3) pa_nil))) (pe_slice sl_tupA (pv 1) (po_some (pe_op op_add (pv 2) pe_int)) po_none)))))))))), ?_⟩
    obtain ⟨os, hos⟩ := hS.at_s
    have gs : ∀ b, (G b ∨ H b = Option.none) → b ≠ s := fun b g z => by
      rcases g with g | g
      · exact hG b g z
      · rw [z, hos] at g; cases g
    have fr : ∀ Hn, But s H Hn → Stm Hn s l → ∀ b, Hn b = Option.none → H b = Option.none := fun Hn bn Sn b np => by
      obtain ⟨on, hon⟩ := Sn.at_s
      cases e : H b with
      | none => rfl
      | some o =>
        by_cases z : b = s
        · rw [z, hon] at np; cases np
        · rw [bn _ _ z e] at np; cases np
    have wk : ∀ Hn, But s H Hn → Stm Hn s l → ∀ (H' : Hp) (v : V) (d : PyData), Im K (fun b => (G b ∨ H b = Option.none) ∨ Hn b = Option.none) H' v d → Im K (fun b => G b ∨ H b = Option.none) H' v d := fun Hn bn Sn H' v d i => Im.mono (fun _ _ _ e => e) (fun b g => g.elim id fun z => .inr (fr Hn bn Sn b z)) _ _ i
    have kp : ∀ (Hn Hm : Hp), But s Hn Hm → ∀ (v : V) (d : PyData), Im K (fun b => G b ∨ H b = Option.none) Hn v d → Im K (fun b => G b ∨ H b = Option.none) Hm v d := fun Hn Hm b v d i => Im.mono (fun c o g e => b c o (gs c g) e) (fun _ g => g) _ _ i
    have put : ∀ {Hn : Hp} {p : Addr} {o : HO}, Stm Hn s l → Hn p = Option.none → Stm (upd Hn p o) s l := fun {Hn p o} Sn np => by
      obtain ⟨_, h1⟩ := Sn.at_s
      obtain ⟨_, h2⟩ := Sn.at_l
      exact Sn.put (ne_of_none h1 np) (ne_of_none h2 np)
    cases id iv with
    | @tup a xs _ ga ea ia =>
    have hxl := ia.len
    refine seq_asg ?_
    refine ⟨_, rfl, _, rfl, _, _, rfl, .inr (SqT.of ea), s, l, _, rfl, hS, by omega, Nat.lt_of_lt_of_le (show _ < 2 ^ 8 from by omega) n9, fun at' H1 a0 a1 b1 S1 => ?_⟩
    refine gname (seq_asg ?_)
    obtain ⟨k, hk⟩ : ∃ k : Nat, at' = (k : Int) := ⟨at'.toNat, by omega⟩
    subst hk
    have hkl : k < ds.length := by omega
    have hd : ds[k]? = some ds[k] := List.getElem?_eq_getElem hkl
    generalize ds[k] = d at hd
    have ndd := hn d (List.mem_of_getElem? hd)
    have iv0 : Im K (fun b => G b ∨ H b = Option.none) H (.ref a) (.tuple ds) := Im.mono (fun _ _ _ e => e) (fun _ g => .inl g) _ _ iv
    -- node
    refine ⟨_, rfl, s, l, rfl, S1, fun w e H2 ne _ b2 S2 iw => ?_⟩
    refine gname (seq_asg ?_)
    have b12 := b1.trans b2
    have iv2 := kp _ _ b12 _ _ iv0
    have iw2 : Im K (fun b => G b ∨ H b = Option.none) H2 w e := Im.mono (fun _ _ _ e => e) (fun b g => .inr (fr _ b1 S1 b g)) _ _ iw
    -- old
    cases id iv2 with
    | @tup _ _ _ ga2 ea2 ia2 =>
    obtain ⟨x, hx, ix⟩ := ImAll.get ia2 hd
    refine ⟨_, rfl, _, rfl, _, _, _, _, rfl, rfl, SqT.of ea2, atI_nat (j := k) hx, ?_⟩
    refine gname (seq_asg (gname ?_))
    have dx := Im.dp _ _ ix
    refine seq_via (fun σ' H' => H' = H2 ∧ ∃ ar : Int, 0 ≤ ar ∧ ar ≤ 8 ∧ σ' = [some (.ref s), some (.ref a), some (.int (k : Int)), some w, some x, some (.int ar)]) ?_ (fun go => ?_)
    · rintro σ' H' ⟨rfl, ar, ar0, ar8, rfl⟩
      refine seq_via (fun σ3 H3 => ∃ (w' : V) (e' : PyData), σ3 = [some (.ref s), some (.ref a), some (.int (k : Int)), some w', some x, some (.int ar)] ∧ NdA e' ∧ But s H H3 ∧ Stm H3 s l ∧ Im K (fun b => G b ∨ H b = Option.none) H3 w' e') ?_ (fun go => ?_)
      · rintro σ3 H3 ⟨w', e', rfl, ne', b3, S3, iw3⟩
        have iv3 := kp _ _ b3 _ _ iv0
        refine ⟨_, rfl, _, rfl, _, rfl, ?_⟩
        show rSlA _ _ Option.none (some (k : Int)) _ _
        refine im_take iv3 (by omega) fun t1 H4 s4 i4 => ?_
        have S4 := S3.keep s4
        have b4 := b3.trans (But.of s4)
        have i4 := wk _ b3 S3 _ _ _ i4
        refine ⟨_, rfl, (by show 1 ≤ sizeLine; decide), fun p np => ?_⟩
        have b5 := b4.trans (But.of (same_upd (o := .tup [w']) np))
        have S5 := put (o := .tup [w']) S4 np
        have i5 := kp _ _ (But.of (same_upd (o := .tup [w']) np)) _ _ i4
        have iw5 := kp _ _ ((But.of s4).trans (But.of (same_upd (o := .tup [w']) np))) _ _ iw3
        have it5 : Im K (fun b => G b ∨ H b = Option.none) (upd H4 p (.tup [w'])) (.ref p) (.tuple [e']) := .tup (.inr (fr _ b4 S4 _ np)) upd_same (.cons iw5 .nil)
        clear np iw5
        generalize upd H4 p (.tup [w']) = H5 at b5 S5 i5 it5
        refine im_cat i5 it5 (by rw [List.length_take, List.length_singleton]; omega) fun v6 H6 s6 i6 => ?_
        have i6 := wk _ b5 S5 _ _ _ i6
        have S6 := S5.keep s6
        have b6 := b5.trans (But.of s6)
        refine ⟨_, rfl, _, rfl, _, _, rfl, rfl, _, rfl, ?_⟩
        show rSlA K (.ref a) (some ((k : Int) + 1)) Option.none H6 fun y H5 => rCatA K v6 y H5 Q
        rw [show (k : Int) + 1 = ((k + 1 : Nat) : Int) by omega]
        refine im_drop (kp _ _ b6 _ _ iv0) (by omega) fun v7 H7 s7 i7 => ?_
        have i7 := wk _ b6 S6 _ _ _ i7
        have S7 := S6.keep s7
        have b7 := b6.trans (But.of s7)
        refine im_cat (kp _ _ (But.of s7) _ _ i6) i7 (by rw [List.length_append, List.length_take, List.length_singleton, List.length_drop]; omega) fun v8 H8 s8 i8 => ?_
        obtain ⟨z1, z2⟩ := setsp hn ne' hd
        exact q _ _ _ z1 z2 (b7.trans (But.of s8)) (S7.keep s8) (wk _ b7 S7 _ _ _ i8)
      · have keep : ∃ (w' : V) (e' : PyData), [some (V.ref s), some (.ref a), some (.int (k : Int)), some w, some x, some (.int ar)] = [some (V.ref s), some (.ref a), some (.int (k : Int)), some w', some x, some (.int ar)] ∧ NdA e' ∧ But s H H' ∧ Stm H' s l ∧ Im K (fun b => G b ∨ H b = Option.none) H' w' e' := ⟨w, e, rfl, ne, b12, S2, iw2⟩
        have new : ∀ D : Ends, (∀ σ3 H3, (∃ (w' : V) (e' : PyData), σ3 = [some (V.ref s), some (.ref a), some (.int (k : Int)), some w', some x, some (.int ar)] ∧ NdA e' ∧ But s H H3 ∧ Stm H3 s l ∧ Im K (fun b => G b ∨ H b = Option.none) H3 w' e') → D.nx σ3 H3) → tAsg (tTup (tCons (tC (V.str (Str.ofString "f"))) (tCons (tOp (rIxL K) (tLst (tCons (tC (V.str (Str.ofString "a"))) (tCons (tC (V.str (Str.ofString "b"))) (tCons (tC (V.str (Str.ofString "ab"))) (tCons (tC (V.str (Str.ofString "f"))) tNil))))) (tCall (sp__law_draw K) [] E0 (tCons (tVar 0) (tCons (tC (V.int 4)) tNil)))) (tCons (tVar 5) tNil)))) (gName 3) D [some (V.ref s), some (.ref a), some (.int (k : Int)), some w, some x, some (.int ar)] H' := by
          intro D go
          refine asg1 (tup_of (args1 (const_of (args1 (op_of ?_)))))
          refine lit_lst (K := K) (ds := names4.map PyData.str) ?_ (by decide) H' _ fun v0 H0 t0 i0 => ?_
          · unfold names4
            simp only [List.map_cons, List.map_nil]
            walk_at "lits"
          cases i0 with
          | @lst p0 xs0 _ g0 e0 a0 =>
          obtain ⟨os1, hos1⟩ := S2.at_s
          have np : p0 ≠ s := fun z => by
            rw [z, hos1] at g0
            cases g0
          refine ⟨_, rfl, s, l, 4, rfl, S2.keep t0, by decide, Nat.lt_of_lt_of_le (by decide) n9, fun r H3 r0 r1 b3 S3 => ?_⟩
          obtain ⟨y, hy, hat⟩ := lit_pick a0 r0 r1
          refine ⟨_, _, _, _, rfl, rfl, SqL.of (b3 _ _ np e0), hat, ?_⟩
          refine ⟨_, rfl, (by show 3 ≤ sizeLine; decide), fun p np => ?_⟩
          have bb := (b12.trans (But.of t0)).trans b3
          exact gname (go _ _ ⟨_, _, rfl, ⟨1, .f y ar (List.all_eq_true.mp names4_ok _ hy) ar0 ar8⟩, bb.trans (But.of (same_upd np)), put S3 np, .tup (.inr (fr _ bb S3 _ np)) upd_same (.cons (.str _) (.cons (.str _) (.cons (.int _) .nil)))⟩)
        have dw := Im.dp _ _ iw2
        refine ⟨_, rfl, _, _, rfl, rfl, _, rfl, ite2 (fun _ => iteT (new _ go)) (fun _ => ?_)⟩
        refine ⟨_, rfl, _, _, _, _, _, rfl, .ty _, tyx_of dw, kit_ty (kitT _), _, rfl, ?_⟩
        obtain ⟨wd, nd⟩ := id ne
        cases nd with
        | i n z1 z2 => exact iteF (iteF (go _ _ keep))
        | v n z1 z2 =>
          cases id dw with
          | tup hs2 ha2 =>
          obtain ⟨v2, hv2, hdv2⟩ := DpAll.get (i := 0) ha2 rfl
          cases hdv2
          refine iteT ⟨_, rfl, _, _, _, _, rfl, rfl, hs2, atI_nat (j := 0) hv2, rfl, _, rfl, ?_⟩
          rw [show decide (V.str (Str.ofString "v") = V.str (Str.ofString "f")) = false by decide +kernel]
          exact iteF (go _ _ keep)
        | f y n z0 z1 z2 =>
          cases id dw with
          | tup hs2 ha2 =>
          obtain ⟨v2, hv2, hdv2⟩ := DpAll.get (i := 0) ha2 rfl
          cases hdv2
          refine iteT ⟨_, rfl, _, _, _, _, rfl, rfl, hs2, atI_nat (j := 0) hv2, rfl, _, rfl, ?_⟩
          rw [decide_eq_true rfl]
          exact iteT (new _ go)
    · refine ⟨_, rfl, _, _, _, _, _, rfl, .ty _, tyx_of dx, kit_ty (kitT _), _, rfl, ?_⟩
      obtain ⟨wd, nd⟩ := id ndd
      cases nd with
      | i n z1 z2 => exact iteF (iteF (go _ _ ⟨rfl, 0, by decide, by decide, rfl⟩))
      | v n z1 z2 =>
        cases id dx with
        | tup hs2 ha2 =>
        obtain ⟨v2, hv2, hdv2⟩ := DpAll.get (i := 0) ha2 rfl
        cases hdv2
        refine iteT ⟨_, rfl, _, _, _, _, rfl, rfl, hs2, atI_nat (j := 0) hv2, rfl, _, rfl, ?_⟩
        rw [show decide (V.str (Str.ofString "v") = V.str (Str.ofString "f")) = false by decide +kernel]
        exact iteF (go _ _ ⟨rfl, 0, by decide, by decide, rfl⟩)
      | f y n z0 z1 z2 =>
        cases id dx with
        | tup hs2 ha2 =>
        obtain ⟨v2, hv2, hdv2⟩ := DpAll.get (i := 0) ha2 rfl
        obtain ⟨v4, hv4, hdv4⟩ := DpAll.get (i := 2) ha2 rfl
        cases hdv2
        cases hdv4
        refine iteT ⟨_, rfl, _, _, _, _, rfl, rfl, hs2, atI_nat (j := 0) hv2, rfl, _, rfl, ?_⟩
        rw [decide_eq_true rfl]
        refine iteT ?_
        refine ⟨_, rfl, _, _, _, _, rfl, rfl, hs2, atI_nat (j := 2) hv4, ?_⟩
        exact gname (go _ _ ⟨rfl, n, z1, z2, rfl⟩)

theorem ok_table_order {f : Addr} {fd : FuncData} (F : Fun K "table_order" "table_order" s_table_order f fd) (E : Bi K mg) (D_term_key : Has P w K mg base 3 "term_key" ["term"] (sp_term_key K)) : FnOk P w K mg base CX0 4 f fd ["left", "right"] (sp_table_order K) := by
  obtain ⟨f_term_key, fd_term_key, G_term_key, g_term_key, kp_term_key, b_term_key⟩ := D_term_key
  refine F.ok sc_table_order (fun vs H Q E h => ?_) (fun cdv A outer s H vs Q E' hr h => ?_)
  · obtain ⟨x, y, ds, es, rfl, _⟩ := h
    rfl
  · obtain ⟨x, y, ds, es, rfl, hx, hy, nx, ny, lx, ly, q⟩ := h
    refine ⟨_, (pss_cons (ps_par (i := 2) (j := 3) rfl sc_table_order.nd rfl rfl (by decide) rfl rfl (pa_cons (pe_call G_term_key (hr.mono (by decide)) (by rfl) g_term_key kp_term_key b_term_key .nil pass0 (pa_cons (pv 0) pa_nil)) (pa_cons (pe_call G_term_key (hr.mono (by decide)) (by rfl) g_term_key kp_term_key b_term_key .nil pass0 (pa_cons (pv 1) pa_nil)) pa_nil)) (by rfl))
      (pss_cons (ps_if (pt_cmpR (op_eqD hr.units) (pv 2) (pv 3) (nomark _)) (pss_one (ps_ret pe_int)) pss_nil)
      (pss_one (ps_ret (pe_ifExp (pt_cmpR (op_ltD hr.units) (pv 2) (pv 3) (nomark _)) (pe_un un_neg pe_int) pe_int))))), ?_⟩
    refine seq_any ?_
    refine ⟨_, rfl, x, ds, rfl, hx, nx, lx, fun v1 H1 s1 d1 => ⟨_, rfl, y, es, rfl, dp_same s1 _ _ hy, ny, ly, fun v2 H2 s2 d2 => ⟨v1, v2, rfl, ?_⟩⟩⟩
    have s12 := s1.trans s2
    have d1' := dp_same s2 _ _ d1
    refine nxp (seq_ifN ?_)
    refine ⟨_, rfl, _, rfl, _, _, d1', d2, kt_shaped nx, kt_shaped ny, _, rfl, ?_⟩
    rw [kt_eqv nx ny]
    have q2 := q _ s12
    unfold ordM at q2
    cases e : PyData.eqvAll ds es with
    | true =>
      rw [e, if_pos rfl] at q2
      exact iteT q2
    | false =>
      rw [e, if_neg Bool.false_ne_true] at q2
      refine iteF ?_
      refine ⟨_, rfl, _, rfl, _, _, d1', d2, (kt_alike nx ny).1, (fun z => nomatch z), (kt_deep nx).1, _, rfl, ?_⟩
      rw [kt_lt]
      refine ite2 (fun z => ?_) (fun z => ?_)
      · rw [if_pos z] at q2
        exact ⟨_, rfl, q2⟩
      · rw [if_neg z] at q2
        exact q2

theorem ok_law {f : Addr} {fd : FuncData} (F : Fun K "law" "law" s_law f fd) (E : Bi K mg) (D__law_stream : Has P w K mg base 1 "_law_stream" ["script"] (sp__law_stream K)) (D__law_some : Has P w K mg base 3 "_law_some" ["stream", "size"] (sp__law_some K)) (D__law_near : Has P w K mg base 3 "_law_near" ["stream", "term"] (sp__law_near K)) (D__law_draw : Has P w K mg base 1 "_law_draw" ["stream", "many"] (sp__law_draw K)) (D__law_numbered : Has P w K mg base 3 "_law_numbered" ["terms", "first"] (sp__law_numbered K)) (D__law_before : Has P w K mg base 3 "_law_before" ["left", "right"] (sp__law_before K)) (D_table_order : Has P w K mg base 4 "table_order" ["left", "right"] (sp_table_order K)) : FnOk P w K mg base CX0 5 f fd ["script"] (sp_law K) := by
  obtain ⟨f__law_stream, fd__law_stream, G__law_stream, g__law_stream, kp__law_stream, b__law_stream⟩ := D__law_stream
  obtain ⟨f__law_some, fd__law_some, G__law_some, g__law_some, kp__law_some, b__law_some⟩ := D__law_some
  obtain ⟨f__law_near, fd__law_near, G__law_near, g__law_near, kp__law_near, b__law_near⟩ := D__law_near
  obtain ⟨f__law_draw, fd__law_draw, G__law_draw, g__law_draw, kp__law_draw, b__law_draw⟩ := D__law_draw
  obtain ⟨f__law_numbered, fd__law_numbered, G__law_numbered, g__law_numbered, kp__law_numbered, b__law_numbered⟩ := D__law_numbered
  obtain ⟨f__law_before, fd__law_before, G__law_before, g__law_before, kp__law_before, b__law_before⟩ := D__law_before
  obtain ⟨f_table_order, fd_table_order, G_table_order, g_table_order, kp_table_order, b_table_order⟩ := D_table_order
  refine F.ok sc_law (fun vs H Q E h => ?_) (fun cdv A outer s H vs Q E' hr h => ?_)
  · obtain ⟨a, ns, rfl, _⟩ := h
    rfl
  · obtain ⟨a, ns, rfl, hS, hl, q⟩ := h
    refine ⟨_, (pss_cons (ps_set (i := 1) sc_law.nd rfl (Or.inl rfl) (pe_call G__law_stream (hr.mono (by decide)) (by rfl) g__law_stream kp__law_stream b__law_stream .nil pass0 (pa_cons (pv 0) pa_nil)))
      (pss_cons (ps_set (i := 2) sc_law.nd rfl (Or.inl rfl) (pe_call G__law_some (hr.mono (by decide)) (by rfl) g__law_some kp__law_some b__law_some .nil pass0 (pa_cons (pv 1) (pa_cons pe_int pa_nil))))
      (pss_cons (ps_set (i := 3) sc_law.nd rfl (Or.inl rfl) (pe_call G__law_near (hr.mono (by decide)) (by rfl) g__law_near kp__law_near b__law_near .nil pass0 (pa_cons (pv 1) (pa_cons (pv 2) pa_nil))))
      (pss_cons (ps_if (pt_cmpR op_eq (pe_call G__law_draw (hr.mono (by decide)) (by rfl) g__law_draw kp__law_draw b__law_draw .nil pass0 (pa_cons (pv 1) (pa_cons pe_int pa_nil))) pe_int (nomark _)) (pss_one (ps_set (i := 3) sc_law.nd rfl (Or.inl rfl) (pe_call G__law_some (hr.mono (by decide)) (by rfl) g__law_some kp__law_some b__law_some .nil pass0 (pa_cons (pv 1) (pa_cons pe_int pa_nil))))) pss_nil)
      (pss_cons (ps_set (i := 4) sc_law.nd rfl (Or.inl rfl) (pe_call G__law_near (hr.mono (by decide)) (by rfl) g__law_near kp__law_near b__law_near .nil pass0 (pa_cons (pv 1) (pa_cons (pv 3) pa_nil))))
      (pss_cons (ps_setLc (i := 5) (own := [("term", 6)]) (g := gName 6) (tt := tYes) rfl sc_law.nd rfl rfl (by rfl) (pi_tup (pe_tup (pa_cons (pv 2) (pa_cons (pv 3) (pa_cons (pv 4) pa_nil))))) (blkOk_by (N := N_law) (sc := defScope s_law) (by decide +kernel)) (fun _ _ _ _ _ => pg_name (i := 6) sc_law.nd rfl (Or.inl rfl)) (fun _ _ _ _ _ => pts_nil) (fun _ _ _ _ _ => (pe_ix (show IxR _ (rIxL K) from ix_list) (pe_call G__law_numbered (hr.mono (by decide)) (by rfl) g__law_numbered kp__law_numbered b__law_numbered .nil pass0 (pa_cons (pe_lst (pa_cons (pv 6) pa_nil)) (pa_cons pe_int pa_nil))) pe_int (fun _ _ => rfl))))
      (pss_cons (ps_for PassesOwn.never rfl (pi_list (pv 5)) (pg_name (i := 7) sc_law.nd rfl (Or.inl rfl)) (pss_one (ps_for PassesOwn.never rfl (pi_list (pv 5)) (pg_name (i := 8) sc_law.nd rfl (Or.inl rfl)) (pss_cons (ps_set (i := 9) sc_law.nd rfl (Or.inl rfl) pe_int)
      (pss_cons (ps_if (pt_val (pe_call G__law_before (hr.mono (by decide)) (by rfl) g__law_before kp__law_before b__law_before .nil pass0 (pa_cons (pv 7) (pa_cons (pv 8) pa_nil)))) (pss_one (ps_set (i := 9) sc_law.nd rfl (Or.inl rfl) (pe_un un_neg pe_int))) (pss_one (ps_if (pt_cmpR (op_neD hr.units) (pv 7) (pv 8) (nomark _)) (pss_one (ps_set (i := 9) sc_law.nd rfl (Or.inl rfl) pe_int)) pss_nil)))
      (pss_cons (ps_set (i := 10) sc_law.nd rfl (Or.inl rfl) (pe_call G_table_order (hr.mono (by decide)) (by rfl) g_table_order kp_table_order b_table_order .nil pass0 (pa_cons (pv 7) (pa_cons (pv 8) pa_nil))))
      (pss_one (ps_if (pw_or (pt_not (pt_val (pe_callB call_isi (by rfl) E.b_isinstance (by decide +kernel) (pa_cons (pv 10) (pa_cons (pe_ty "int" (by rfl) E.b_int (by decide +kernel)) pa_nil))))) (pw_or (pt_val (pe_callB call_isi (by rfl) E.b_isinstance (by decide +kernel) (pa_cons (pv 10) (pa_cons (pe_ty "bool" (by rfl) E.b_bool (by decide +kernel)) pa_nil)))) (pw_or1 (pt_cmpR op_ne (pv 10) (pv 9) (nomark _))))).pt (pss_one (ps_ret pe_bl)) pss_nil))))))))
      (pss_one (ps_ret pe_bl))))))))), ?_⟩
    have n9 : (2 : Nat) ^ 8 ≤ 2 ^ 9000 := Nat.pow_le_pow_right (by decide) (by decide)
    refine seq_asg ?_
    refine ⟨_, rfl, a, ns, rfl, hS, hl, fun s l H1 hs hl1 s1 S1 => ?_⟩
    refine gname (seq_asg ?_)
    refine ⟨_, rfl, s, l, rfl, S1, fun v1 ds1 H2 n1 p1 q1 b2 S2 i1 => ?_⟩
    refine gname (seq_asg ?_)
    have nw : ∀ {Ha Hb : Hp} {v : V} {d : PyData}, Stm Ha s l → Im K (fun b => Ha b = Option.none) Hb v d → Im K (fun b => b ≠ s) Hb v d := fun {Ha Hb v d} Sa i => by
      obtain ⟨oa, hoa⟩ := Sa.at_s
      exact Im.mono (fun _ _ _ e => e) (fun b g z => by rw [z, hoa] at g; cases g) _ _ i
    have nw2 : ∀ {Ha Hb : Hp} {v : V} {d : PyData}, Stm Ha s l → Im K (fun b => b ≠ s ∨ Ha b = Option.none) Hb v d → Im K (fun b => b ≠ s) Hb v d := fun {Ha Hb v d} Sa i => by
      obtain ⟨oa, hoa⟩ := Sa.at_s
      exact Im.mono (fun _ _ _ e => e) (fun b g => g.elim id fun g z => by rw [z, hoa] at g; cases g) _ _ i
    have kp : ∀ {Hn Hm : Hp} {v : V} {d : PyData}, But s Hn Hm → Im K (fun b => b ≠ s) Hn v d → Im K (fun b => b ≠ s) Hm v d := fun b i => Im.mono (fun c o g e => b c o g e) (fun _ g => g) _ _ i
    have i1 := nw S1 i1
    refine ⟨_, rfl, _, rfl, fun b => b ≠ s, s, l, v1, ds1, rfl, S2, (fun _ g => g), i1, n1, p1, by omega, fun v2 ds2 H3 n2 q2 b3 S3 i2 => ?_⟩
    refine gname (seq_via (fun σ' H' => ∃ (v2 : V) (ds2 : List PyData), σ' = [some (.ref a), some (.ref s), some v1, some v2, none, none, none, none, none, none, none] ∧ (∀ d ∈ ds2, NdA d) ∧ 0 < ds2.length ∧ ds2.length ≤ 100 ∧ But s H3 H' ∧ Stm H' s l ∧ Im K (fun b => b ≠ s) H' v2 (.tuple ds2)) ?_ (fun go => ?_))
    · rintro σ' H4 ⟨v2, ds2, rfl, n2, p2, q2, b4, S4, i2⟩
      refine seq_asg ?_
      refine ⟨_, rfl, _, rfl, fun b => b ≠ s, s, l, v2, ds2, rfl, S4, (fun _ g => g), i2, n2, p2, q2, fun v3 ds3 H5 n3 q3 b5 S5 i3 => ?_⟩
      refine gname (seq_asg ?_)
      have i1 := kp ((b3.trans b4).trans b5) i1
      have i2 := kp b5 i2
      have i3 := nw2 S4 i3
      have row : ∀ (i : Nat) (x : V), [v1, v2, v3][i]? = some x → ∃ ds, Dp K H5 x (.tuple ds) ∧ (∀ d ∈ ds, NdA d) ∧ ds.length ≤ 100 := fun i x hx => by
        have hm := List.mem_of_getElem? hx
        simp only [List.mem_cons, List.not_mem_nil, or_false] at hm
        rcases hm with z | z | z <;> subst z
        · exact ⟨ds1, Im.dp _ _ i1, n1, by omega⟩
        · exact ⟨ds2, Im.dp _ _ i2, n2, q2⟩
        · exact ⟨ds3, Im.dp _ _ i3, n3, by omega⟩
      refine ⟨_, rfl, _, rfl, _, rfl, (by show 3 ≤ sizeLine; decide), fun p np => ⟨p, rfl, ⟨_, SqT.of upd_same⟩, fun D hD => ?_⟩⟩
      have sp := same_upd (o := .tup [v1, v2, v3]) np
      refine lc_tup (K := K) (a := p) (xs := [v1, v2, v3]) (fun i H' => ∃ ys, Same (upd H5 p (.tup [v1, v2, v3])) H' ∧ H' D = some (.lst ys) ∧ ys.length = i ∧ ∀ y ∈ ys, ∃ es, Dp K H' y (.tuple es) ∧ (∀ d ∈ es, NdA d) ∧ es.length ≤ 100)
        ⟨[], same_upd hD, upd_same, rfl, (fun _ h => nomatch h)⟩ (fun i H' _ ⟨_, e, _⟩ => SqT.of (e _ _ upd_same)) ?_ ?_
      · rintro i x H6 hi ⟨ys, s6, h6, l6, m6⟩
        obtain ⟨ds, dx, nx, lx⟩ := row i x hi
        have hi3 := (List.getElem?_eq_some_iff.mp hi).1
        have hi3 : i < 3 := hi3
        refine ⟨rfl, ?_⟩
        refine ⟨_, rfl, (by show 1 ≤ sizeLine; decide), fun p2 np2 => ?_⟩
        have s7 := same_upd (o := .lst [x]) np2
        refine ⟨p2, x, ds, rfl, upd_same, dp_same (sp.trans (s6.trans s7)) _ _ dx, nx, lx, fun r y es H8 s8 hr8 dy ny ly => ?_⟩
        refine ⟨_, _, _, _, rfl, rfl, SqL.of hr8, atI_nat (j := 0) rfl, ?_⟩
        have s78 := s7.trans s8
        have e8 := s78 _ _ h6
        have nt : notTup H8 D := .inl ⟨_, e8⟩
        refine ⟨ys, e8, small1000 (by omega), ys ++ [y], (fun b o e => by rw [upd_ne (ne_of_none e hD)]; exact s78 _ _ (s6 _ _ e)), upd_same, by rw [List.length_append, l6]; rfl, fun y' hy' => ?_⟩
        rcases List.mem_append.mp hy' with z | z
        · obtain ⟨es', d', n', l'⟩ := m6 y' z
          exact ⟨es', dp_put nt _ _ (tup_noL n') (dp_same s78 _ _ d'), n', l'⟩
        · rw [List.mem_singleton.mp z]
          exact ⟨es, dp_put nt _ _ (tup_noL ny) dy, ny, by omega⟩
      · rintro H6 ⟨ys, s6, h6, l6, m6⟩
        refine gname (seq_any ?_)
        have rw6 : ∀ (i : Nat) (x : V), ys[i]? = some x → ∃ ds, Dp K H6 x (.tuple ds) ∧ (∀ d ∈ ds, NdA d) ∧ ds.length ≤ 100 := fun i x hx => m6 x (List.mem_of_getElem? hx)
        refine ⟨_, rfl, D, rfl, ⟨_, SqL.of h6⟩, for_list (K := K) (a := D) (xs := ys) (fun i σ H' => ∃ w7 w8 w9 w10, σ = [some (.ref a), some (.ref s), some v1, some v2, some v3, some (.ref D), none, w7, w8, w9, w10] ∧ Same H6 H')
          ⟨none, none, none, none, rfl, Same.refl H6⟩ (fun i σ H' _ ⟨_, _, _, _, _, e⟩ => SqL.of (e _ _ h6)) ?_ ?_⟩
        · rintro i x σ H7 hx ⟨w7, w8, w9, w10, rfl, s7⟩
          obtain ⟨ds, dx, nx, lx⟩ := rw6 i x hx
          refine gname ?_
          refine ⟨_, rfl, D, rfl, ⟨_, SqL.of (s7 _ _ h6)⟩, for_list (K := K) (a := D) (xs := ys) (fun j σ H' => ∃ w8 w9 w10, σ = [some (.ref a), some (.ref s), some v1, some v2, some v3, some (.ref D), none, some x, w8, w9, w10] ∧ Same H6 H')
            ⟨w8, w9, w10, rfl, s7⟩ (fun i σ H' _ ⟨_, _, _, _, e⟩ => SqL.of (e _ _ h6)) ?_ ?_⟩
          · rintro j y σ H8 hy ⟨w8, w9, w10, rfl, s8⟩
            obtain ⟨es, dy, ny, ly⟩ := rw6 j y hy
            refine gname (seq_asg (gname ?_))
            refine seq_via (fun σ' H' => ∃ (due : Int), due = ordM ds es ∧ σ' = [some (.ref a), some (.ref s), some v1, some v2, some v3, some (.ref D), none, some x, some y, some (.int due), w10] ∧ Same H6 H') ?_ (fun go => ?_)
            · rintro σ' H9 ⟨due, hdue, rfl, s9⟩
              refine seq_asg ?_
              refine ⟨_, rfl, _, rfl, x, y, ds, es, rfl, dp_same s9 _ _ dx, dp_same s9 _ _ dy, nx, ny, by omega, by omega, fun H10 s10 => ?_⟩
              refine gname ?_
              subst hdue
              have di : Dp K H10 (V.int (ordM ds es)) (.int (ordM ds es)) := .int _
              refine ⟨_, rfl, _, _, _, _, _, rfl, .ty _, tyx_of di, kit_ty (kitI _), _, rfl, iteF ?_⟩
              refine ⟨_, rfl, _, _, _, _, _, rfl, .ty _, tyx_of di, kit_ty (kitBo _), _, rfl, iteF ?_⟩
              refine ⟨_, rfl, _, rfl, rfl, _, rfl, ?_⟩
              rw [decide_eq_true rfl]
              exact iteF ⟨_, _, _, rfl, s9.trans s10⟩
            · refine ⟨_, rfl, _, rfl, x, y, ds, es, rfl, dp_same s8 _ _ dx, dp_same s8 _ _ dy, nx, ny, by omega, by omega, fun H9 s9 => ?_⟩
              have s89 := s8.trans s9
              refine ⟨_, rfl, ?_⟩
              cases hb : befM ds es with
              | true =>
                refine iteT ?_
                refine ⟨_, rfl, ?_⟩
                refine gname (go _ _ ⟨-1, ?_, rfl, s89⟩)
                unfold ordM
                rw [bef_ne nx ny hb, if_neg Bool.false_ne_true, if_pos hb]
              | false =>
                refine iteF ?_
                refine ⟨_, rfl, _, rfl, _, _, dp_same s89 _ _ dx, dp_same s89 _ _ dy, tup_shaped nx, tup_shaped ny, _, rfl, ?_⟩
                have ee : PyData.eqv (.tuple ds) (.tuple es) = PyData.eqvAll ds es := by simp only [PyData.eqv]
                rw [ee]
                cases he : PyData.eqvAll ds es with
                | true =>
                  refine iteF (go _ _ ⟨0, ?_, rfl, s89⟩)
                  unfold ordM
                  rw [if_pos he]
                | false =>
                  refine iteT (gname (go _ _ ⟨1, ?_, rfl, s89⟩))
                  unfold ordM
                  rw [if_neg (by rw [he]; exact Bool.false_ne_true), if_neg (by rw [hb]; exact Bool.false_ne_true)]
          · rintro σ H8 ⟨w8, w9, w10, rfl, s8⟩
            exact ⟨_, _, _, _, rfl, s8⟩
        · rintro σ H7 ⟨w7, w8, w9, w10, rfl, s7⟩
          exact q _
    · refine ⟨_, rfl, s, l, 2, rfl, S3, by decide, Nat.lt_of_lt_of_le (by decide) n9, fun r H4 _ _ b4 S4 => ⟨rfl, _, rfl, ite2 (fun e => ?_) (fun e => ?_)⟩⟩
      · refine ⟨_, rfl, s, l, rfl, S4, fun v2 ds2 H5 n2 p2 q2 b5 S5 i2 => ?_⟩
        exact gname (go _ _ ⟨v2, ds2, rfl, n2, p2, by omega, b4.trans b5, S5, nw S4 i2⟩)
      · exact go _ _ ⟨v2, ds2, rfl, n2, by omega, by omega, b4, S4, kp b4 (nw2 S2 i2)⟩

end
/-! ### the end -/
theorem all_mk {l : PySem.W.OpenLaw} {w : World} {K : PySem.W.Frag} {h : Heap} {mg : Str → Option Value} {fa f1 f2 f3 f4 f5 f6 f7 f8 f9 f10 f11 f12 f13 f14 f15 f16 f17 : Addr} (X : K.In h) (G : h.Ns mainGlobals mg) (hfa : mg "law" = some (.ref fa))
    {od1 an1 od2 an2 od3 an3 od4 an4 od5 an5 od6 an6 od7 an7 od8 an8 od9 an9 od10 an10 od11 an11 od12 an12 od13 an13 od14 an14 od15 an15 od16 an16 od17 an17 : Option Addr} {sl1 sl2 sl3 sl4 sl5 sl6 sl7 sl8 sl9 sl10 sl11 sl12 sl13 sl14 sl15 sl16 sl17 : Array (Option Value)} {oc1 kV1 dc1 pm1 cd1 ct1 oc2 kV2 dc2 pm2 cd2 ct2 oc3 kV3 dc3 pm3 cd3 ct3 oc4 kV4 dc4 pm4 cd4 ct4 oc5 kV5 dc5 pm5 cd5 ct5 oc6 kV6 dc6 pm6 cd6 ct6 oc7 kV7 dc7 pm7 cd7 ct7 oc8 kV8 dc8 pm8 cd8 ct8 oc9 kV9 dc9 pm9 cd9 ct9 oc10 kV10 dc10 pm10 cd10 ct10 oc11 kV11 dc11 pm11 cd11 ct11 oc12 kV12 dc12 pm12 cd12 ct12 oc13 kV13 dc13 pm13 cd13 ct13 oc14 kV14 dc14 pm14 cd14 ct14 oc15 kV15 dc15 pm15 cd15 ct15 oc16 kV16 dc16 pm16 cd16 ct16 oc17 kV17 dc17 pm17 cd17 ct17 : Value}

    (a1 : PySem.W.nsIn K mainGlobals "is_variable" = some (some (.ref f1))) (l1 : K.lookup f1 = some ⟨oc1, od1, .func (PySem.W.fnOf "is_variable" "is_variable" (defArgs s_is_variable) (defBody s_is_variable) (defScope s_is_variable) .none kV1 dc1 pm1 an1 cd1 ct1), sl1⟩) (c1 : PySem.W.codeIn K cd1 "is_variable" = true) (k1 : PySem.W.keepIn K (.ref f1) = true)
    (a2 : PySem.W.nsIn K mainGlobals "is_symbol" = some (some (.ref f2))) (l2 : K.lookup f2 = some ⟨oc2, od2, .func (PySem.W.fnOf "is_symbol" "is_symbol" (defArgs s_is_symbol) (defBody s_is_symbol) (defScope s_is_symbol) .none kV2 dc2 pm2 an2 cd2 ct2), sl2⟩) (c2 : PySem.W.codeIn K cd2 "is_symbol" = true) (k2 : PySem.W.keepIn K (.ref f2) = true)
    (a3 : PySem.W.nsIn K mainGlobals "node_key" = some (some (.ref f3))) (l3 : K.lookup f3 = some ⟨oc3, od3, .func (PySem.W.fnOf "node_key" "node_key" (defArgs s_node_key) (defBody s_node_key) (defScope s_node_key) .none kV3 dc3 pm3 an3 cd3 ct3), sl3⟩) (c3 : PySem.W.codeIn K cd3 "node_key" = true) (k3 : PySem.W.keepIn K (.ref f3) = true)
    (a4 : PySem.W.nsIn K mainGlobals "term_key" = some (some (.ref f4))) (l4 : K.lookup f4 = some ⟨oc4, od4, .func (PySem.W.fnOf "term_key" "term_key" (defArgs s_term_key) (defBody s_term_key) (defScope s_term_key) .none kV4 dc4 pm4 an4 cd4 ct4), sl4⟩) (c4 : PySem.W.codeIn K cd4 "term_key" = true) (k4 : PySem.W.keepIn K (.ref f4) = true)
    (a5 : PySem.W.nsIn K mainGlobals "table_order" = some (some (.ref f5))) (l5 : K.lookup f5 = some ⟨oc5, od5, .func (PySem.W.fnOf "table_order" "table_order" (defArgs s_table_order) (defBody s_table_order) (defScope s_table_order) .none kV5 dc5 pm5 an5 cd5 ct5), sl5⟩) (c5 : PySem.W.codeIn K cd5 "table_order" = true) (k5 : PySem.W.keepIn K (.ref f5) = true)
    (a6 : PySem.W.nsIn K mainGlobals "_law_stream" = some (some (.ref f6))) (l6 : K.lookup f6 = some ⟨oc6, od6, .func (PySem.W.fnOf "_law_stream" "_law_stream" (defArgs s__law_stream) (defBody s__law_stream) (defScope s__law_stream) .none kV6 dc6 pm6 an6 cd6 ct6), sl6⟩) (c6 : PySem.W.codeIn K cd6 "_law_stream" = true) (k6 : PySem.W.keepIn K (.ref f6) = true)
    (a7 : PySem.W.nsIn K mainGlobals "_law_draw" = some (some (.ref f7))) (l7 : K.lookup f7 = some ⟨oc7, od7, .func (PySem.W.fnOf "_law_draw" "_law_draw" (defArgs s__law_draw) (defBody s__law_draw) (defScope s__law_draw) .none kV7 dc7 pm7 an7 cd7 ct7), sl7⟩) (c7 : PySem.W.codeIn K cd7 "_law_draw" = true) (k7 : PySem.W.keepIn K (.ref f7) = true)
    (a8 : PySem.W.nsIn K mainGlobals "_law_is_variable" = some (some (.ref f8))) (l8 : K.lookup f8 = some ⟨oc8, od8, .func (PySem.W.fnOf "_law_is_variable" "_law_is_variable" (defArgs s__law_is_variable) (defBody s__law_is_variable) (defScope s__law_is_variable) .none kV8 dc8 pm8 an8 cd8 ct8), sl8⟩) (c8 : PySem.W.codeIn K cd8 "_law_is_variable" = true) (k8 : PySem.W.keepIn K (.ref f8) = true)
    (a9 : PySem.W.nsIn K mainGlobals "_law_put" = some (some (.ref f9))) (l9 : K.lookup f9 = some ⟨oc9, od9, .func (PySem.W.fnOf "_law_put" "_law_put" (defArgs s__law_put) (defBody s__law_put) (defScope s__law_put) .none kV9 dc9 pm9 an9 cd9 ct9), sl9⟩) (c9 : PySem.W.codeIn K cd9 "_law_put" = true) (k9 : PySem.W.keepIn K (.ref f9) = true)
    (a10 : PySem.W.nsIn K mainGlobals "_law_numbered" = some (some (.ref f10))) (l10 : K.lookup f10 = some ⟨oc10, od10, .func (PySem.W.fnOf "_law_numbered" "_law_numbered" (defArgs s__law_numbered) (defBody s__law_numbered) (defScope s__law_numbered) .none kV10 dc10 pm10 an10 cd10 ct10), sl10⟩) (c10 : PySem.W.codeIn K cd10 "_law_numbered" = true) (k10 : PySem.W.keepIn K (.ref f10) = true)
    (a11 : PySem.W.nsIn K mainGlobals "_law_rank" = some (some (.ref f11))) (l11 : K.lookup f11 = some ⟨oc11, od11, .func (PySem.W.fnOf "_law_rank" "_law_rank" (defArgs s__law_rank) (defBody s__law_rank) (defScope s__law_rank) .none kV11 dc11 pm11 an11 cd11 ct11), sl11⟩) (c11 : PySem.W.codeIn K cd11 "_law_rank" = true) (k11 : PySem.W.keepIn K (.ref f11) = true)
    (a12 : PySem.W.nsIn K mainGlobals "_law_ranks" = some (some (.ref f12))) (l12 : K.lookup f12 = some ⟨oc12, od12, .func (PySem.W.fnOf "_law_ranks" "_law_ranks" (defArgs s__law_ranks) (defBody s__law_ranks) (defScope s__law_ranks) .none kV12 dc12 pm12 an12 cd12 ct12), sl12⟩) (c12 : PySem.W.codeIn K cd12 "_law_ranks" = true) (k12 : PySem.W.keepIn K (.ref f12) = true)
    (a13 : PySem.W.nsIn K mainGlobals "_law_before" = some (some (.ref f13))) (l13 : K.lookup f13 = some ⟨oc13, od13, .func (PySem.W.fnOf "_law_before" "_law_before" (defArgs s__law_before) (defBody s__law_before) (defScope s__law_before) .none kV13 dc13 pm13 an13 cd13 ct13), sl13⟩) (c13 : PySem.W.codeIn K cd13 "_law_before" = true) (k13 : PySem.W.keepIn K (.ref f13) = true)
    (a14 : PySem.W.nsIn K mainGlobals "_law_node" = some (some (.ref f14))) (l14 : K.lookup f14 = some ⟨oc14, od14, .func (PySem.W.fnOf "_law_node" "_law_node" (defArgs s__law_node) (defBody s__law_node) (defScope s__law_node) .none kV14 dc14 pm14 an14 cd14 ct14), sl14⟩) (c14 : PySem.W.codeIn K cd14 "_law_node" = true) (k14 : PySem.W.keepIn K (.ref f14) = true)
    (a15 : PySem.W.nsIn K mainGlobals "_law_some" = some (some (.ref f15))) (l15 : K.lookup f15 = some ⟨oc15, od15, .func (PySem.W.fnOf "_law_some" "_law_some" (defArgs s__law_some) (defBody s__law_some) (defScope s__law_some) .none kV15 dc15 pm15 an15 cd15 ct15), sl15⟩) (c15 : PySem.W.codeIn K cd15 "_law_some" = true) (k15 : PySem.W.keepIn K (.ref f15) = true)
    (a16 : PySem.W.nsIn K mainGlobals "_law_near" = some (some (.ref f16))) (l16 : K.lookup f16 = some ⟨oc16, od16, .func (PySem.W.fnOf "_law_near" "_law_near" (defArgs s__law_near) (defBody s__law_near) (defScope s__law_near) .none kV16 dc16 pm16 an16 cd16 ct16), sl16⟩) (c16 : PySem.W.codeIn K cd16 "_law_near" = true) (k16 : PySem.W.keepIn K (.ref f16) = true)
    (a17 : PySem.W.nsIn K mainGlobals "law" = some (some (.ref f17))) (l17 : K.lookup f17 = some ⟨oc17, od17, .func (PySem.W.fnOf "law" "law" (defArgs s_law) (defBody s_law) (defScope s_law) .none kV17 dc17 pm17 an17 cd17 ct17), sl17⟩) (c17 : PySem.W.codeIn K cd17 "law" = true) (k17 : PySem.W.keepIn K (.ref f17) = true)
    (z0 : PySem.W.nsIn K mainGlobals "abs" = some none)
    (z1 : PySem.W.nsIn K mainGlobals "bool" = some none)
    (z2 : PySem.W.nsIn K mainGlobals "int" = some none)
    (z3 : PySem.W.nsIn K mainGlobals "isinstance" = some none)
    (z4 : PySem.W.nsIn K mainGlobals "len" = some none)
    (z5 : PySem.W.nsIn K mainGlobals "list" = some none)
    (z6 : PySem.W.nsIn K mainGlobals "tuple" = some none)
    : ∃ fd : FuncData, (∀ (s : Shared) (v : Value), BindsTo s fd ⟨[v], []⟩ [("script", v)]) ∧ ∀ base : Heap, K.In base → base.Ns mainGlobals mg → FnOk l.prog w K mg base CX0 5 fa fd ["script"] (sp_law K) := by
  have e := hfa.symm.trans (PySem.W.mg_of X G a17)
  cases e
  have F1 := fun_mk (st := s_is_variable) l1 c1 k1
  have b1 := F1.binds (ps := ["node"]) fun _ _ _ _ _ _ us hl => match us, hl with | [_], _ => rfl
  have F2 := fun_mk (st := s_is_symbol) l2 c2 k2
  have b2 := F2.binds (ps := ["node"]) fun _ _ _ _ _ _ us hl => match us, hl with | [_], _ => rfl
  have F3 := fun_mk (st := s_node_key) l3 c3 k3
  have b3 := F3.binds (ps := ["node"]) fun _ _ _ _ _ _ us hl => match us, hl with | [_], _ => rfl
  have F4 := fun_mk (st := s_term_key) l4 c4 k4
  have b4 := F4.binds (ps := ["term"]) fun _ _ _ _ _ _ us hl => match us, hl with | [_], _ => rfl
  have F5 := fun_mk (st := s_table_order) l5 c5 k5
  have b5 := F5.binds (ps := ["left", "right"]) fun _ _ _ _ _ _ us hl => match us, hl with | [_, _], _ => rfl
  have F6 := fun_mk (st := s__law_stream) l6 c6 k6
  have b6 := F6.binds (ps := ["script"]) fun _ _ _ _ _ _ us hl => match us, hl with | [_], _ => rfl
  have F7 := fun_mk (st := s__law_draw) l7 c7 k7
  have b7 := F7.binds (ps := ["stream", "many"]) fun _ _ _ _ _ _ us hl => match us, hl with | [_, _], _ => rfl
  have F8 := fun_mk (st := s__law_is_variable) l8 c8 k8
  have b8 := F8.binds (ps := ["node"]) fun _ _ _ _ _ _ us hl => match us, hl with | [_], _ => rfl
  have F9 := fun_mk (st := s__law_put) l9 c9 k9
  have b9 := F9.binds (ps := ["table", "term"]) fun _ _ _ _ _ _ us hl => match us, hl with | [_, _], _ => rfl
  have F10 := fun_mk (st := s__law_numbered) l10 c10 k10
  have b10 := F10.binds (ps := ["terms", "first"]) fun _ _ _ _ _ _ us hl => match us, hl with | [_, _], _ => rfl
  have F11 := fun_mk (st := s__law_rank) l11 c11 k11
  have b11 := F11.binds (ps := ["node"]) fun _ _ _ _ _ _ us hl => match us, hl with | [_], _ => rfl
  have F12 := fun_mk (st := s__law_ranks) l12 c12 k12
  have b12 := F12.binds (ps := ["term"]) fun _ _ _ _ _ _ us hl => match us, hl with | [_], _ => rfl
  have F13 := fun_mk (st := s__law_before) l13 c13 k13
  have b13 := F13.binds (ps := ["left", "right"]) fun _ _ _ _ _ _ us hl => match us, hl with | [_, _], _ => rfl
  have F14 := fun_mk (st := s__law_node) l14 c14 k14
  have b14 := F14.binds (ps := ["stream"]) fun _ _ _ _ _ _ us hl => match us, hl with | [_], _ => rfl
  have F15 := fun_mk (st := s__law_some) l15 c15 k15
  have b15 := F15.binds (ps := ["stream", "size"]) fun _ _ _ _ _ _ us hl => match us, hl with | [_, _], _ => rfl
  have F16 := fun_mk (st := s__law_near) l16 c16 k16
  have b16 := F16.binds (ps := ["stream", "term"]) fun _ _ _ _ _ _ us hl => match us, hl with | [_, _], _ => rfl
  have F17 := fun_mk (st := s_law) l17 c17 k17
  have E : Bi K mg := ⟨PySem.W.mg_none_of X G z0, PySem.W.mg_none_of X G z1, PySem.W.mg_none_of X G z2, PySem.W.mg_none_of X G z3, PySem.W.mg_none_of X G z4, PySem.W.mg_none_of X G z5, PySem.W.mg_none_of X G z6⟩
  refine ⟨PySem.W.fnOf "law" "law" (defArgs s_law) (defBody s_law) (defScope s_law) .none kV17 dc17 pm17 an17 cd17 ct17, fun s v => .of_eq rfl, fun base _ _ => ?_⟩
  have D1 : Has l.prog w K mg base 1 "is_variable" ["node"] (sp_is_variable K) := ⟨_, _, ok_is_variable F1 E , PySem.W.mg_of X G a1, k1, b1⟩
  have D2 : Has l.prog w K mg base 1 "is_symbol" ["node"] (sp_is_symbol K) := ⟨_, _, ok_is_symbol F2 E , PySem.W.mg_of X G a2, k2, b2⟩
  have D6 : Has l.prog w K mg base 1 "_law_stream" ["script"] (sp__law_stream K) := ⟨_, _, ok__law_stream F6 E , PySem.W.mg_of X G a6, k6, b6⟩
  have D7 : Has l.prog w K mg base 1 "_law_draw" ["stream", "many"] (sp__law_draw K) := ⟨_, _, ok__law_draw F7 E , PySem.W.mg_of X G a7, k7, b7⟩
  have D8 : Has l.prog w K mg base 1 "_law_is_variable" ["node"] (sp__law_is_variable K) := ⟨_, _, ok__law_is_variable F8 E , PySem.W.mg_of X G a8, k8, b8⟩
  have D11 : Has l.prog w K mg base 1 "_law_rank" ["node"] (sp__law_rank K) := ⟨_, _, ok__law_rank F11 E , PySem.W.mg_of X G a11, k11, b11⟩
  have D3 : Has l.prog w K mg base 2 "node_key" ["node"] (sp_node_key K) := ⟨_, _, ok_node_key F3 E D1 D2, PySem.W.mg_of X G a3, k3, b3⟩
  have D9 : Has l.prog w K mg base 2 "_law_put" ["table", "term"] (sp__law_put K) := ⟨_, _, ok__law_put F9 E D8, PySem.W.mg_of X G a9, k9, b9⟩
  have D12 : Has l.prog w K mg base 2 "_law_ranks" ["term"] (sp__law_ranks K) := ⟨_, _, ok__law_ranks F12 E D11, PySem.W.mg_of X G a12, k12, b12⟩
  have D14 : Has l.prog w K mg base 2 "_law_node" ["stream"] (sp__law_node K) := ⟨_, _, ok__law_node F14 E D7, PySem.W.mg_of X G a14, k14, b14⟩
  have D4 : Has l.prog w K mg base 3 "term_key" ["term"] (sp_term_key K) := ⟨_, _, ok_term_key F4 E D3, PySem.W.mg_of X G a4, k4, b4⟩
  have D10 : Has l.prog w K mg base 3 "_law_numbered" ["terms", "first"] (sp__law_numbered K) := ⟨_, _, ok__law_numbered F10 E D8 D9, PySem.W.mg_of X G a10, k10, b10⟩
  have D13 : Has l.prog w K mg base 3 "_law_before" ["left", "right"] (sp__law_before K) := ⟨_, _, ok__law_before F13 E D12, PySem.W.mg_of X G a13, k13, b13⟩
  have D15 : Has l.prog w K mg base 3 "_law_some" ["stream", "size"] (sp__law_some K) := ⟨_, _, ok__law_some F15 E D14, PySem.W.mg_of X G a15, k15, b15⟩
  have D16 : Has l.prog w K mg base 3 "_law_near" ["stream", "term"] (sp__law_near K) := ⟨_, _, ok__law_near F16 E D7 D14, PySem.W.mg_of X G a16, k16, b16⟩
  have D5 : Has l.prog w K mg base 4 "table_order" ["left", "right"] (sp_table_order K) := ⟨_, _, ok_table_order F5 E D4, PySem.W.mg_of X G a5, k5, b5⟩
  exact ok_law F17 E D6 D15 D16 D7 D10 D13 D5
end My
open PySem PySem.W PyProof.Rows
set_option maxRecDepth 100000 in
set_option maxHeartbeats 0 in
theorem PySem.Challenge.cw_hornbook_k49_table_order_holds : PySem.Challenge.rw_hornbook_k49_table_order.Holds := by
  w_on; o_law; k_head; (case hw => w_witness2)
  k_fill
  refine L2.walk_of (l := PySem.Challenge.rw_hornbook_k49_table_order) (n := 63) (k := 5) (x := "script") (CX := fun _ => L2.CX0) (sp := fun w => My.sp_law _) rfl (by decide) rfl ⟨rfl, by decide, by decide⟩ (fun w h Y => PySem.W.kIn_of Y) ?F (fun _ _ a ns hl _ hS => ⟨a, ns, rfl, hS, hl, fun _ => rfl⟩) (fun _ _ _ _ _ h => h)
  case F =>
    intro w mg fa h KX G hmg
    refine' My.all_mk KX G hmg ?a1 ?l1 ?c1 ?k1 ?a2 ?l2 ?c2 ?k2 ?a3 ?l3 ?c3 ?k3 ?a4 ?l4 ?c4 ?k4 ?a5 ?l5 ?c5 ?k5 ?a6 ?l6 ?c6 ?k6 ?a7 ?l7 ?c7 ?k7 ?a8 ?l8 ?c8 ?k8 ?a9 ?l9 ?c9 ?k9 ?a10 ?l10 ?c10 ?k10 ?a11 ?l11 ?c11 ?k11 ?a12 ?l12 ?c12 ?k12 ?a13 ?l13 ?c13 ?k13 ?a14 ?l14 ?c14 ?k14 ?a15 ?l15 ?c15 ?k15 ?a16 ?l16 ?c16 ?k16 ?a17 ?l17 ?c17 ?k17 ?z0 ?z1 ?z2 ?z3 ?z4 ?z5 ?z6
    (case a1 => k_is)
    (case l1 => k_is)
    (case c1 => k_is)
    (case k1 => k_is)
    (case a2 => k_is)
    (case l2 => k_is)
    (case c2 => k_is)
    (case k2 => k_is)
    (case a3 => k_is)
    (case l3 => k_is)
    (case c3 => k_is)
    (case k3 => k_is)
    (case a4 => k_is)
    (case l4 => k_is)
    (case c4 => k_is)
    (case k4 => k_is)
    (case a5 => k_is)
    (case l5 => k_is)
    (case c5 => k_is)
    (case k5 => k_is)
    (case a6 => k_is)
    (case l6 => k_is)
    (case c6 => k_is)
    (case k6 => k_is)
    (case a7 => k_is)
    (case l7 => k_is)
    (case c7 => k_is)
    (case k7 => k_is)
    (case a8 => k_is)
    (case l8 => k_is)
    (case c8 => k_is)
    (case k8 => k_is)
    (case a9 => k_is)
    (case l9 => k_is)
    (case c9 => k_is)
    (case k9 => k_is)
    (case a10 => k_is)
    (case l10 => k_is)
    (case c10 => k_is)
    (case k10 => k_is)
    (case a11 => k_is)
    (case l11 => k_is)
    (case c11 => k_is)
    (case k11 => k_is)
    (case a12 => k_is)
    (case l12 => k_is)
    (case c12 => k_is)
    (case k12 => k_is)
    (case a13 => k_is)
    (case l13 => k_is)
    (case c13 => k_is)
    (case k13 => k_is)
    (case a14 => k_is)
    (case l14 => k_is)
    (case c14 => k_is)
    (case k14 => k_is)
    (case a15 => k_is)
    (case l15 => k_is)
    (case c15 => k_is)
    (case k15 => k_is)
    (case a16 => k_is)
    (case l16 => k_is)
    (case c16 => k_is)
    (case k16 => k_is)
    (case a17 => k_is)
    (case l17 => k_is)
    (case c17 => k_is)
    (case k17 => k_is)
    (case z0 => k_is)
    (case z1 => k_is)
    (case z2 => k_is)
    (case z3 => k_is)
    (case z4 => k_is)
    (case z5 => k_is)
    (case z6 => k_is)
