import PyProof.Rows.All
import Wide.All
import OpenK.AllK
import Wide.FinOn
import HandS.ForMost
import HandS.IsInst
import HandS.Wide
import HandS.Codes
import HandS.Style
import HandS.TupLe
import HandS.TupAny
import HandS.EndBits
import HandS.Walk
import HandS.Zip
import KE.LtData
import HandS.ForExc
import HandS.ExcIs
import HandS.RaiseMore
import HandS.FStr
import HandS.Defaults
import HandS.SortKw
import KE.KRevSl
import HandS.DictComp
import HandS.DictEq
import PyProof.EqKinds
import HandS.DeepEq
import PyProof.NeKinds
import HandS.Star
import KE.DatumOrd
import HandS.More
import HandS.MethStar
import HandS.SetKeys
import HandS.DictTup
import PyProof.DictMoreH
import HandS.SetKeys
import HandS.WordsDict
import HandS.DictComp
import HandS.DictTup
import HandS.Conv
import HandS.Flt
import HandS.More
import HandS.Deep
import HandS.TupMul
import HandS.Defaults
import PySem.Challenge.RW_hornbook_k45_plain_defaults
set_option Elab.async false
set_option linter.all false
set_option maxRecDepth 100000
set_option maxHeartbeats 4000000
set_option exponentiation.threshold 10000
namespace My
open PySem PySem.Spec PyProof.Rows L2
/-- a def of the text that keeps a promise, as its callers want it -/
def Has (P : Program) (w : World) (K : PySem.W.Frag) (mg : Str → Option Value) (base : Heap) (k : Nat) (x : Str) (ps : List Str) (sp : Sp) : Prop :=
  ∃ (f : Addr) (fd : FuncData), FnOk P w K mg base CX0 k f fd ps sp ∧ mg x = some (.ref f) ∧ PySem.W.keepIn K (.ref f) = true ∧ Binds K fd ps []
theorem same_upd {H : Hp} {p : Addr} {o : HO} (h : H p = none) : Same H (upd H p o) := fun b x e => by
  rw [upd_ne (ne_of_none e h)]
  exact e
/-- all but the object at s is as it was -/
def But (s : Addr) (H H' : Hp) : Prop := ∀ b o, b ≠ s → H b = some o → H' b = some o
theorem But.refl (s : Addr) (H : Hp) : But s H H := fun _ _ _ e => e
theorem But.trans {s : Addr} {H H1 H2 : Hp} (a : But s H H1) (b : But s H1 H2) : But s H H2 := fun c o hc e => b c o hc (a c o hc e)
theorem But.of {s : Addr} {H H' : Hp} (a : Same H H') : But s H H' := fun b o _ e => a b o e
theorem But.put {s : Addr} {H : Hp} {o : HO} : But s H (upd H s o) := fun b u hb e => by rw [upd_ne hb]; exact e
/-! ### what a value is -/
mutual
inductive Im (K : PySem.W.Frag) (G : Addr → Prop) (H : Hp) : V → PyData → Prop
  | non : Im K G H .non .none
  | bl (b : Bool) : Im K G H (.bl b) (.bool b)
  | int (i : Int) : Im K G H (.int i) (.int i)
  | str (x : Str) : Im K G H (.str x) (.str x)
  | lst {a : Addr} {xs : List V} {ds : List PyData} : G a → H a = some (.lst xs) → ImAll K G H xs ds → Im K G H (.ref a) (.list ds)
  | tup {a : Addr} {xs : List V} {ds : List PyData} : G a → H a = some (.tup xs) → ImAll K G H xs ds → Im K G H (.ref a) (.tuple ds)
inductive ImAll (K : PySem.W.Frag) (G : Addr → Prop) (H : Hp) : List V → List PyData → Prop
  | nil : ImAll K G H [] []
  | cons {v : V} {vs : List V} {d : PyData} {ds : List PyData} : Im K G H v d → ImAll K G H vs ds → ImAll K G H (v :: vs) (d :: ds)
end
section
variable {K : PySem.W.Frag} {G G' : Addr → Prop} {H H' : Hp}
mutual
theorem Im.mono (hH : ∀ b o, G b → H b = some o → H' b = some o) (hG : ∀ b, G b → G' b) : ∀ (d : PyData) (v : V), Im K G H v d → Im K G' H' v d
  | .none, _, h => by cases h; exact .non
  | .bool b, _, h => by cases h; exact .bl b
  | .int i, _, h => by cases h; exact .int i
  | .str x, _, h => by cases h; exact .str x
  | .list ds, _, h => by
    cases h with
    | lst g e ha => exact .lst (hG _ g) (hH _ _ g e) (Im.monoAll hH hG ds _ ha)
  | .tuple ds, _, h => by
    cases h with
    | tup g e ha => exact .tup (hG _ g) (hH _ _ g e) (Im.monoAll hH hG ds _ ha)
  | .dict _, _, h => by cases h
theorem Im.monoAll (hH : ∀ b o, G b → H b = some o → H' b = some o) (hG : ∀ b, G b → G' b) : ∀ (ds : List PyData) (vs : List V), ImAll K G H vs ds → ImAll K G' H' vs ds
  | [], _, h => by cases h; exact .nil
  | d :: ds, _, h => by
    cases h with
    | cons h1 h2 => exact .cons (Im.mono hH hG d _ h1) (Im.monoAll hH hG ds _ h2)
end
mutual
theorem Im.dp : ∀ (d : PyData) (v : V), Im K G H v d → Dp K H v d
  | .none, _, h => by cases h; exact .non
  | .bool b, _, h => by cases h; exact .bl b
  | .int i, _, h => by cases h; exact .int i
  | .str x, _, h => by cases h; exact .str x
  | .list ds, _, h => by
    cases h with
    | lst g e ha => exact .lst (SqL.of e) (Im.dpAll ds _ ha)
  | .tuple ds, _, h => by
    cases h with
    | tup g e ha => exact .tup (SqT.of e) (Im.dpAll ds _ ha)
  | .dict _, _, h => by cases h
theorem Im.dpAll : ∀ (ds : List PyData) (vs : List V), ImAll K G H vs ds → DpAll K H vs ds
  | [], _, h => by cases h; exact .nil
  | d :: ds, _, h => by
    cases h with
    | cons h1 h2 => exact .cons (Im.dp d _ h1) (Im.dpAll ds _ h2)
end
theorem ImAll.len : ∀ {vs : List V} {ds : List PyData}, ImAll K G H vs ds → vs.length = ds.length
  | _, _, .nil => rfl
  | _, _, .cons _ t => congrArg (· + 1) (ImAll.len t)
theorem ImAll.get : ∀ {vs : List V} {ds : List PyData} {i : Nat} {d : PyData}, ImAll K G H vs ds → ds[i]? = some d → ∃ v, vs[i]? = some v ∧ Im K G H v d
  | _, _, _, _, .nil, e => by simp at e
  | _, _, 0, _, .cons r _, e => by simp at e; subst e; exact ⟨_, rfl, r⟩
  | _, _, i + 1, _, .cons _ t, e => by
    obtain ⟨u, h1, h2⟩ := ImAll.get (i := i) t (by simpa using e)
    exact ⟨u, by simpa using h1, h2⟩
theorem ImAll.getV : ∀ {vs : List V} {ds : List PyData} {i : Nat} {v : V}, ImAll K G H vs ds → vs[i]? = some v → ∃ d, ds[i]? = some d ∧ Im K G H v d
  | _, _, _, _, .nil, e => by simp at e
  | _, _, 0, _, .cons r _, e => by simp at e; subst e; exact ⟨_, rfl, r⟩
  | _, _, i + 1, _, .cons _ t, e => by
    obtain ⟨u, h1, h2⟩ := ImAll.getV (i := i) t (by simpa using e)
    exact ⟨u, by simpa using h1, h2⟩
theorem ImAll.snoc : ∀ {vs : List V} {ds : List PyData} {v : V} {d : PyData}, ImAll K G H vs ds → Im K G H v d → ImAll K G H (vs ++ [v]) (ds ++ [d])
  | _, _, _, _, .nil, r => .cons r .nil
  | _, _, _, _, .cons q t, r => .cons q (ImAll.snoc t r)
theorem ImAll.app : ∀ {vs : List V} {ds : List PyData} {us : List V} {es : List PyData}, ImAll K G H vs ds → ImAll K G H us es → ImAll K G H (vs ++ us) (ds ++ es)
  | _, _, _, _, .nil, r => r
  | _, _, _, _, .cons q t, r => .cons q (ImAll.app t r)
end
section
variable {K : PySem.W.Frag} {H : Hp}
theorem DpAll.len : ∀ {vs : List V} {ds : List PyData}, DpAll K H vs ds → vs.length = ds.length
  | _, _, .nil => rfl
  | _, _, .cons _ t => congrArg (· + 1) (DpAll.len t)
theorem DpAll.get : ∀ {vs : List V} {ds : List PyData} {i : Nat} {d : PyData}, DpAll K H vs ds → ds[i]? = some d → ∃ v, vs[i]? = some v ∧ Dp K H v d
  | _, _, _, _, .nil, e => by simp at e
  | _, _, 0, _, .cons r _, e => by simp at e; subst e; exact ⟨_, rfl, r⟩
  | _, _, i + 1, _, .cons _ t, e => by
    obtain ⟨u, h1, h2⟩ := DpAll.get (i := i) t (by simpa using e)
    exact ⟨u, by simpa using h1, h2⟩
/-- the name of a value's class -/
def tyN : PyData → String
  | .none => "NoneType" | .bool _ => "bool" | .int _ => "int" | .str _ => "str" | .list _ => "list" | .tuple _ => "tuple" | .dict _ => "dict"
theorem tyx_of : ∀ {x : V} {d : PyData}, Dp K H x d → TyX K H x (.type (tyN d))
  | _, _, .non => .base .non
  | _, _, .bl b => .base (.bl b)
  | _, _, .int i => .base (.int i)
  | _, _, .str x => .base (.str x)
  | _, _, .lst h _ => by
    rcases h with (h | ⟨o, h⟩) | ⟨o, its, n, hk, hc, _⟩
    · exact .base (.lst h)
    · exact .base (.frz h)
    · exact .kList hk hc
  | _, _, .tup h _ => by
    rcases h with (h | ⟨o, h⟩) | ⟨o, its, n, hk, hc, _⟩
    · exact .base (.tup h)
    · exact .fTuple h
    · exact .kTuple hk hc
def isI : PyData → Bool
  | .int _ => true | .bool _ => true | _ => false
def isB : PyData → Bool
  | .bool _ => true | _ => false
def isS : PyData → Bool
  | .str _ => true | _ => false
def isT : PyData → Bool
  | .tuple _ => true | _ => false
def isL : PyData → Bool
  | .list _ => true | _ => false
theorem kitI (d : PyData) : kitB (tyN d) "int" = some (isI d) := by cases d <;> (show kitB _ "int" = _; simp only [tyN, isI]; decide +kernel)
theorem kitBo (d : PyData) : kitB (tyN d) "bool" = some (isB d) := by cases d <;> (show kitB _ "bool" = _; simp only [tyN, isB]; decide +kernel)
theorem kitS (d : PyData) : kitB (tyN d) "str" = some (isS d) := by cases d <;> (show kitB _ "str" = _; simp only [tyN, isS]; decide +kernel)
theorem kitT (d : PyData) : kitB (tyN d) "tuple" = some (isT d) := by cases d <;> (show kitB _ "tuple" = _; simp only [tyN, isT]; decide +kernel)
theorem kitL (d : PyData) : kitB (tyN d) "list" = some (isL d) := by cases d <;> (show kitB _ "list" = _; simp only [tyN, isL]; decide +kernel)
theorem isi_int {x : V} {d : PyData} {Q : VK} (h : Dp K H x d) (q : Q (.bl (isI d)) H) : rIsi K [x, .ty "int"] H Q := ⟨x, .ty "int", _, _, _, rfl, .ty _, tyx_of h, kit_ty (kitI d), q⟩
theorem isi_bool {x : V} {d : PyData} {Q : VK} (h : Dp K H x d) (q : Q (.bl (isB d)) H) : rIsi K [x, .ty "bool"] H Q := ⟨x, .ty "bool", _, _, _, rfl, .ty _, tyx_of h, kit_ty (kitBo d), q⟩
theorem isi_str {x : V} {d : PyData} {Q : VK} (h : Dp K H x d) (q : Q (.bl (isS d)) H) : rIsi K [x, .ty "str"] H Q := ⟨x, .ty "str", _, _, _, rfl, .ty _, tyx_of h, kit_ty (kitS d), q⟩
theorem isi_tup {x : V} {d : PyData} {Q : VK} (h : Dp K H x d) (q : Q (.bl (isT d)) H) : rIsi K [x, .ty "tuple"] H Q := ⟨x, .ty "tuple", _, _, _, rfl, .ty _, tyx_of h, kit_ty (kitT d), q⟩
theorem isi_list {x : V} {d : PyData} {Q : VK} (h : Dp K H x d) (q : Q (.bl (isL d)) H) : rIsi K [x, .ty "list"] H Q := ⟨x, .ty "list", _, _, _, rfl, .ty _, tyx_of h, kit_ty (kitL d), q⟩
end
/-! ### the stream of draws -/
structure Stm (H : Hp) (s l : Addr) : Prop where
  ex : ∃ (a b m : Int) (ns : List Int), H s = some (.lst [.ref l, .int a, .int b, .int m]) ∧ H l = some (.lst (ns.map V.int)) ∧ ns.length ≤ 63 ∧ 0 ≤ a ∧ 0 ≤ b ∧ 0 ≤ m ∧ m < 2147483647
theorem Stm.keep {H H' : Hp} {s l : Addr} (h : Stm H s l) (e : Same H H') : Stm H' s l := by
  obtain ⟨a, b, m, ns, h1, h2, r⟩ := h.ex
  exact ⟨a, b, m, ns, e _ _ h1, e _ _ h2, r⟩
/-- another object is changed -/
theorem Stm.put {H : Hp} {s l r : Addr} {o : HO} (h : Stm H s l) (h1 : s ≠ r) (h2 : l ≠ r) : Stm (upd H r o) s l := by
  obtain ⟨a, b, m, ns, e1, e2, q⟩ := h.ex
  exact ⟨a, b, m, ns, by rw [upd_ne h1]; exact e1, by rw [upd_ne h2]; exact e2, q⟩
theorem Stm.at_s {H : Hp} {s l : Addr} (h : Stm H s l) : ∃ o, H s = some o := by
  obtain ⟨a, b, m, ns, e1, e2, q⟩ := h.ex
  exact ⟨_, e1⟩
theorem Stm.at_l {H : Hp} {s l : Addr} (h : Stm H s l) : ∃ o, H l = some o := by
  obtain ⟨a, b, m, ns, e1, e2, q⟩ := h.ex
  exact ⟨_, e2⟩
/-- a constant of the module -/
def GV (mg : Str → Option Value) (x : Str) (v : V) : Prop := ∃ u, mg x = some u ∧ RelV v u
theorem pe_gC {X : Cx} {x : Str} {v : V} {pos : Pos} (hg : Gl X x) (h : GV X.mg x v) (hd : (x == ("__debug__" : Str)) = false := by decide) : PE X (.Name x pos) (tC v) := by
  obtain ⟨u, e, r⟩ := h
  exact pe_glob hg e r hd

/-! ### 'a' * 40 -/
section
variable {X : Cx}
theorem op_mulS : OpR X (binaryOp .Mult) (fun x y H Q => ∃ z i, x = .str z ∧ y = .int i ∧ MulOk z i ∧ Q (.str (Txt.mul z i)) H) := by
  intro pins s σ H x y v u Q I rx ry h
  obtain ⟨z, i, rfl, rfl, hk, q⟩ := h
  obtain ⟨t, rfl⟩ := rx
  obtain ⟨t', rfl⟩ := ry
  exact SB.mul hk fun t2 k => ⟨.str _, H, I.tok k, ⟨_, rfl⟩, q⟩
end
/-! ### data written out: each part of it is new -/
section
variable {K : PySem.W.Frag}
/-- an expression that makes data and changes nothing else -/
def Lit (K : PySem.W.Frag) (σ : L2.St) (t : TE) (d : PyData) : Prop := ∀ (H : Hp) (Q : VK), (∀ v H', Same H H' → Im K (fun b => H b = Option.none) H' v d → Q v H') → t σ H Q
def LitA (K : PySem.W.Frag) (σ : L2.St) (t : TA) (ds : List PyData) : Prop := ∀ (H : Hp) (Q : List V → Hp → Prop), (∀ vs H', Same H H' → ImAll K (fun b => H b = Option.none) H' vs ds → Q vs H') → t σ H Q
variable {σ : L2.St}
theorem lit_int {i : Int} : Lit K σ (tC (.int i)) (.int i) := fun H Q h => h _ H (Same.refl H) (.int i)
theorem lit_str {x : Str} : Lit K σ (tC (.str x)) (.str x) := fun H Q h => h _ H (Same.refl H) (.str x)
theorem lit_bl {b : Bool} : Lit K σ (tC (.bl b)) (.bool b) := fun H Q h => h _ H (Same.refl H) (.bl b)
theorem lit_non : Lit K σ (tC .non) .none := fun H Q h => h _ H (Same.refl H) .non
theorem litA_nil : LitA K σ tNil [] := fun H Q h => h _ H (Same.refl H) .nil
theorem litA_cons {t : TE} {ta : TA} {d : PyData} {ds : List PyData} (h1 : Lit K σ t d) (h2 : LitA K σ ta ds) : LitA K σ (tCons t ta) (d :: ds) := fun H Q h =>
  h1 H _ fun v H1 s1 i1 => h2 H1 _ fun vs H2 s2 i2 => h _ H2 (s1.trans s2) (.cons (Im.mono (fun b o _ e => s2 b o e) (fun _ e => e) _ _ i1) (Im.monoAll (fun _ _ _ e => e) (fun b e => s1.free e) _ _ i2))
theorem lit_tup {ta : TA} {ds : List PyData} (h1 : LitA K σ ta ds) (hz : ds.length ≤ sizeLine) : Lit K σ (tTup ta) (.tuple ds) := fun H Q h =>
  h1 H _ fun vs H1 s1 i1 => ⟨by rw [i1.len]; exact hz, fun p np => h _ _ (s1.trans (same_upd np)) (.tup (s1.free np) upd_same (Im.monoAll (fun b o _ e => same_upd np b o e) (fun _ e => e) _ _ i1))⟩
theorem lit_lst {ta : TA} {ds : List PyData} (h1 : LitA K σ ta ds) (hz : ds.length ≤ sizeLine) : Lit K σ (tLst ta) (.list ds) := fun H Q h =>
  h1 H _ fun vs H1 s1 i1 => ⟨by rw [i1.len]; exact hz, fun p np => h _ _ (s1.trans (same_upd np)) (.lst (s1.free np) upd_same (Im.monoAll (fun b o _ e => same_upd np b o e) (fun _ e => e) _ _ i1))⟩
/-- what is an int -/
theorem lit_neg {t : TE} {i : Int} (h1 : Lit K σ t (.int i)) : Lit K σ (tUn (rU fun i => .int (-i)) t) (.int (-i)) := fun H Q h =>
  h1 H _ fun v H1 s1 i1 => by
    cases i1
    exact ⟨_, rfl, h _ H1 s1 (.int _)⟩
theorem lit_sub {t u : TE} {i j : Int} (h1 : Lit K σ t (.int i)) (h2 : Lit K σ u (.int j)) : Lit K σ (tOp (rI0 fun i j => .int (i - j)) t u) (.int (i - j)) := fun H Q h =>
  h1 H _ fun v H1 s1 i1 => h2 H1 _ fun v2 H2 s2 i2 => by
    cases i1
    cases i2
    exact ⟨_, _, rfl, rfl, h _ H2 (s1.trans s2) (.int _)⟩
theorem lit_pow {t u : TE} {i j : Int} (h1 : Lit K σ t (.int i)) (h2 : Lit K σ u (.int j)) (hc : CPow i j) : Lit K σ (tOp (rI CPow fun i j => .int (i ^ j.toNat)) t u) (.int (i ^ j.toNat)) := fun H Q h =>
  h1 H _ fun v H1 s1 i1 => h2 H1 _ fun v2 H2 s2 i2 => by
    cases i1
    cases i2
    exact ⟨_, _, rfl, rfl, hc, h _ H2 (s1.trans s2) (.int _)⟩
theorem lit_mulS {t u : TE} {z : Str} {j : Int} (h1 : Lit K σ t (.str z)) (h2 : Lit K σ u (.int j)) (hc : MulOk z j) : Lit K σ (tOp (fun x y H Q => ∃ z i, x = .str z ∧ y = .int i ∧ MulOk z i ∧ Q (.str (Txt.mul z i)) H) t u) (.str (Txt.mul z j)) := fun H Q h =>
  h1 H _ fun v H1 s1 i1 => h2 H1 _ fun v2 H2 s2 i2 => by
    cases i1
    cases i2
    exact ⟨_, _, rfl, rfl, hc, h _ H2 (s1.trans s2) (.str _)⟩
end
section
variable {X : Cx} {pos : Pos}
/-- a built-in class as a value -/
theorem pe_ty {x : Str} (n : String) (hg : Gl X x) (hm : X.mg x = Option.none) (hv : bootBuiltins x = some (.type n)) (hn : x ≠ "__name__" := by decide) (hd : (x == ("__debug__" : Str)) = false := by decide) : PE X (.Name x pos) (tC (.ty n)) :=
  pe_bltn hg hm hv rfl hn hd
end
section
variable {K : PySem.W.Frag} {H H' : Hp}
theorem same_sqT {a : Addr} {xs : List V} (e : Same H H') (h : SqT K H a xs) : SqT K H' a xs := by
  rcases h with (h | ⟨o, h⟩) | h
  · exact .inl (.inl (e _ _ h))
  · exact .inl (.inr ⟨o, e _ _ h⟩)
  · exact .inr h
mutual
theorem dp_same (e : Same H H') : ∀ (d : PyData) (v : V), Dp K H v d → Dp K H' v d
  | .none, _, h => by cases h; exact .non
  | .bool b, _, h => by cases h; exact .bl b
  | .int i, _, h => by cases h; exact .int i
  | .str x, _, h => by cases h; exact .str x
  | .list ds, _, h => by
    cases h with
    | lst g ha => exact .lst (e.seq g) (dp_sameAll e ds _ ha)
  | .tuple ds, _, h => by
    cases h with
    | tup g ha => exact .tup (same_sqT e g) (dp_sameAll e ds _ ha)
  | .dict _, _, h => by cases h
theorem dp_sameAll (e : Same H H') : ∀ (ds : List PyData) (vs : List V), DpAll K H vs ds → DpAll K H' vs ds
  | [], _, h => by cases h; exact .nil
  | d :: ds, _, h => by
    cases h with
    | cons h1 h2 => exact .cons (dp_same e d _ h1) (dp_sameAll e ds _ h2)
end
end
theorem small_of {n : Nat} (h : n ≤ 1000) : n ≤ sizeLine := Nat.le_of_lt (small1000 h)
theorem seq_asg {te : TE} {g : TG} {u : TS} {D : Ends} {σ : L2.St} {H : Hp} (h : te σ H fun x H1 => g x σ H1 (u D)) : tSeq (tAsg te g) u D σ H := h
theorem gname {i : Nat} {v : V} {σ : L2.St} {H : Hp} {Q : L2.St → Hp → Prop} (h : Q (σ.set i (some v)) H) : gName i v σ H Q := h
theorem nxp {N : L2.St → Hp → Prop} {R : VK} {B C : L2.St → Hp → Prop} {σ : L2.St} {H : Hp} (h : N σ H) : ({ nx := N, rt := R, bk := B, ct := C } : Ends).nx σ H := h
theorem seq_if {c : TT} {t t2 : TS} {u : TS} {D : Ends} {σ : L2.St} {H : Hp} (h : c σ H fun b H1 => if b = true then t { D with nx := u D } σ H1 else t2 { D with nx := u D } σ H1) : tSeq (tIfS c t t2) u D σ H := h
theorem seq_ifN {c : TT} {t : TS} {u : TS} {D : Ends} {σ : L2.St} {H : Hp} (h : c σ H fun b H1 => if b = true then t { D with nx := u D } σ H1 else u D σ H1) : tSeq (tIfS c t tNext) u D σ H := h
theorem seq_any {t : TS} {u : TS} {D : Ends} {σ : L2.St} {H : Hp} (h : t { D with nx := u D } σ H) : tSeq t u D σ H := h
theorem asg1 {te : TE} {g : TG} {D : Ends} {σ : L2.St} {H : Hp} (h : te σ H fun x H1 => g x σ H1 D.nx) : tAsg te g D σ H := h
section
variable {K : PySem.W.Frag} {G G' : Addr → Prop} {H H' : Hp}
mutual
theorem Im.mono2 (hH : ∀ b o, G b → H b = some o → H' b = some o) (hG : ∀ b o, H b = some o → G b → G' b) : ∀ (d : PyData) (v : V), Im K G H v d → Im K G' H' v d
  | .none, _, h => by cases h; exact .non
  | .bool b, _, h => by cases h; exact .bl b
  | .int i, _, h => by cases h; exact .int i
  | .str x, _, h => by cases h; exact .str x
  | .list ds, _, h => by
    cases h with
    | lst g e ha => exact .lst (hG _ _ e g) (hH _ _ g e) (Im.mono2All hH hG ds _ ha)
  | .tuple ds, _, h => by
    cases h with
    | tup g e ha => exact .tup (hG _ _ e g) (hH _ _ g e) (Im.mono2All hH hG ds _ ha)
  | .dict _, _, h => by cases h
theorem Im.mono2All (hH : ∀ b o, G b → H b = some o → H' b = some o) (hG : ∀ b o, H b = some o → G b → G' b) : ∀ (ds : List PyData) (vs : List V), ImAll K G H vs ds → ImAll K G' H' vs ds
  | [], _, h => by cases h; exact .nil
  | d :: ds, _, h => by
    cases h with
    | cons h1 h2 => exact .cons (Im.mono2 hH hG d _ h1) (Im.mono2All hH hG ds _ h2)
end
end
theorem join_set {c : Prop} [Decidable c] {v : V} {i : Nat} {u : TS} {D : Ends} {σ : L2.St} {H : Hp} (P : L2.St → Prop) (h : ∀ σ2, P σ2 → u D σ2 H) (h1 : c → P (σ.set i (some v))) (h2 : ¬ c → P σ) :
    if c then tAsg (tC v) (gName i) { D with nx := u D } σ H else u D σ H := by
  by_cases hc : c
  · rw [if_pos hc]
    exact h _ (h1 hc)
  · rw [if_neg hc]
    exact h _ (h2 hc)
/-- a constant tuple of the module, by its data -/
def GC (K : PySem.W.Frag) (mg : Str → Option Value) (x : Str) (d : PyData) : Prop := ∃ (u : Value) (v : V), mg x = some u ∧ RelV v u ∧ Dp K (fun _ => Option.none) v d
theorem none_same (H : Hp) : Same (fun _ => Option.none) H := fun _ _ e => nomatch e
theorem kt_of {K : PySem.W.Frag} {a : Addr} {its : Array Value} {n : Nat} {dd : Option Addr} {sl : Array (Option Value)} {xs : List V} {ds : List PyData} (h : K.lookup a = some ⟨.type "tuple", dd, .seq its n, sl⟩) (hz : its.size ≤ 1000) (hv : Vals xs its.toList) (ha : DpAll K (fun _ => Option.none) xs ds) :
    Dp K (fun _ => Option.none) (.ref a) (.tuple ds) := .tup (.inr ⟨_, its, n, h, rfl, rfl, Nat.le_trans hz (by decide), hv⟩) ha
/-! ### list.extend(tuple) -/
section
open Builtin
theorem extT (l b : Addr) (xs ys : Array Value) (n k : Nat) (dd : Option Addr) (sl : Array (Option Value)) (hlong : ¬(!xs.isEmpty && Builtin.List.listTooLong (xs.size + ys.size)) = true) (h1 : xs.size ≤ sizeLine) (h2 : xs.size + ys.size ≤ sizeLine + 1) :
    Meets (Builtin.«list.extend» ⟨[.ref l, .ref b], []⟩) (fun _ R s => s.heap.get? l = some { cls := .type "list", dict := none, data := .seq xs n, slots := #[] } ∧ s.heap.get? b = some { cls := .type "tuple", dict := dd, data := .seq ys k, slots := sl } ∧ R (.ok (.ret Value.none)) { s with heap := s.heap.update l (Obj.mapSeq fun x => x ++ ys), toks := s.toks }) := by
  refine .of_wp fun prog w A R s h => ?_
  obtain ⟨hp, g, d, tk, os⟩ := s
  obtain ⟨ea, eb, q⟩ := h
  have i1 := AutoSeq1.idx_int
  have i2 := AutoSeq1.sub_tuple_tuple
  have i3 := AutoSeq1.sub_list_list
  have i4 := AutoSeq1.sub_tuple_list
  have i5 := AutoSeq1.sub_list_tuple
  have hz : (xs ++ ys).size ≤ sizeLine + 1 := by rw [Array.size_append]; exact h2
  wp_walk using (wpAny_updateSeq ea rfl (hz := h1) (_hz' := hz)), AutoSeq1.wpAny_loadPart' ea, AutoSeq1.wpAny_loadPart' eb
  exact ⟨_, rfl, q⟩
end
section
variable {X : Cx}
def rExtT (K : PySem.W.Frag) : V → List V → Hp → VK → Prop := fun x vs H Q => ∃ l b xs zs, x = .ref l ∧ vs = [.ref b] ∧ H l = some (.lst xs) ∧ SqT K H b zs ∧ xs.length + zs.length ≤ sizeLine ∧ Q .non (upd H l (.lst (xs ++ zs)))
theorem mt_extT : MtR X "list.extend" (rExtT X.K) := by
  intro pins s σ H x vs v us Q I rx rv h
  obtain ⟨l, b, xs, zs, rfl, rfl, hH, hB, hz, q⟩ := h
  cases rx
  obtain ⟨u, rfl, ru⟩ := rv.one
  cases ru
  obtain ⟨z, its, n, r, hl, e⟩ := I.lstM hH
  obtain ⟨its2, r2, ⟨⟨oc, od, dt, sl⟩, e2, ec, k2, ed⟩, _⟩ := I.tuple hB
  simp only at ec ed
  subst ec ed
  have z1 := r.length
  have z2 := r2.length
  have hsz : its.toArray.size + its2.toArray.size ≤ sizeLine := by rw [List.size_toArray, List.size_toArray]; omega
  have nl : ¬ (!its.toArray.isEmpty && Builtin.List.listTooLong (its.toArray.size + its2.toArray.size)) = true := by
    rw [notLongL hsz, Bool.and_false]
    exact Bool.false_ne_true
  refine call_meets F.slot_list_extend ⟨_, e, rfl⟩ F.entry_list_extend (F.args_list_extend_2 _ _) (extT l b its.toArray its2.toArray n k2 od sl nl (by rw [List.size_toArray]; omega) (by omega)) ⟨e, e2, ?_⟩
  refine ⟨.non, _, I.lset (its' := its ++ its2) hH e (by simp) (r.append r2) ?_, rfl, q⟩
  rw [List.length_append]
  omega
/-! ### x in (a, b, ..), data of any depth -/
def rInT (K : PySem.W.Frag) : R2 := fun x y H Q => ∃ d ds, Dp K H x d ∧ Dp K H y (.tuple ds) ∧ SeqAt.shaped d = true ∧ SeqAt.shaped (.tuple ds) = true ∧ Q (.bl (ds.any fun z => PyData.eqv z d)) H
def rNotInT (K : PySem.W.Frag) : R2 := fun x y H Q => ∃ d ds, Dp K H x d ∧ Dp K H y (.tuple ds) ∧ SeqAt.shaped d = true ∧ SeqAt.shaped (.tuple ds) = true ∧ Q (.bl (!ds.any fun z => PyData.eqv z d)) H
theorem op_inT (hu : X.A.units + 65 < cLine) : OpR X (compareOp .In) (rInT X.K) := by
  intro pins s σ H x y v u Q I rx ry h
  obtain ⟨d, ds, hd, he, sd, se, q⟩ := h
  obtain ⟨as, r1⟩ := Dp.reads I d x v hd rx
  obtain ⟨bs, r2⟩ := Dp.reads I (.tuple ds) y u he ry
  exact SeqAt.in_tuple_reads r2 r1 (SeqAt.canLay_of_shaped se) (SeqAt.canLay_of_shaped sd) (room_in_shaped sd hu) ⟨.bl _, H, I, rfl, q⟩
theorem op_notInT (hu : X.A.units + 65 < cLine) : OpR X (compareOp .NotIn) (rNotInT X.K) := by
  intro pins s σ H x y v u Q I rx ry h
  obtain ⟨d, ds, hd, he, sd, se, q⟩ := h
  obtain ⟨as, r1⟩ := Dp.reads I d x v hd rx
  obtain ⟨bs, r2⟩ := Dp.reads I (.tuple ds) y u he ry
  exact SeqAt.notIn_tuple_reads r2 r1 (SeqAt.canLay_of_shaped se) (SeqAt.canLay_of_shaped sd) (room_in_shaped sd hu) ⟨.bl _, H, I, rfl, q⟩
theorem units65 {k : Nat} {A : Around} (r : Room k A) : A.units + 65 < cLine := by
  have := r.un
  omega
end
section
variable {K : PySem.W.Frag} {H : Hp}
theorem DpAll.dropt : ∀ {xs : List V} {ds : List PyData} (n : Nat), DpAll K H xs ds → DpAll K H (xs.drop n) (ds.drop n)
  | _, _, 0, r => r
  | _, _, _ + 1, .nil => .nil
  | _, _, n + 1, .cons _ t => DpAll.dropt n t
theorem DpAll.taket : ∀ {xs : List V} {ds : List PyData} (n : Nat), DpAll K H xs ds → DpAll K H (xs.take n) (ds.take n)
  | _, _, 0, _ => .nil
  | _, _, _ + 1, .nil => .nil
  | _, _, n + 1, .cons r t => .cons r (DpAll.taket n t)
theorem DpAll.app : ∀ {xs ys : List V} {ds es : List PyData}, DpAll K H xs ds → DpAll K H ys es → DpAll K H (xs ++ ys) (ds ++ es)
  | _, _, _, _, .nil, r => r
  | _, _, _, _, .cons q t, r => .cons q (DpAll.app t r)
theorem DpAll.getV : ∀ {vs : List V} {ds : List PyData} {i : Nat} {v : V}, DpAll K H vs ds → vs[i]? = some v → ∃ d, ds[i]? = some d ∧ Dp K H v d
  | _, _, _, _, .nil, e => by simp at e
  | _, _, 0, _, .cons r _, e => by simp at e; subst e; exact ⟨_, rfl, r⟩
  | _, _, i + 1, _, .cons _ t, e => by
    obtain ⟨u, h1, h2⟩ := DpAll.getV (i := i) t (by simpa using e)
    exact ⟨u, by simpa using h1, h2⟩
end
/-- a part of a tuple, also the whole -/
theorem cut_nat (xs : List V) (i j : Nat) (h1 : i ≤ xs.length) (h2 : j ≤ xs.length) : cutV xs (some (i : Int)) (some (j : Int)) = (xs.drop i).take (j - i) := by
  unfold cutV
  rw [HT.sIx_nat, HT.sIx_nat, Nat.min_eq_left h1, Nat.min_eq_left h2]
theorem slA_nat {K : PySem.W.Frag} {H : Hp} {a : Addr} {xs : List V} {i j : Nat} {Q : VK} (hs : SqT K H a xs) (h1 : i ≤ xs.length) (h2 : j ≤ xs.length) (h : ∀ b H', Same H H' → SqT K H' b ((xs.drop i).take (j - i)) → (∀ c, H c = Option.none → c ≠ b → H' c = Option.none) → Q (.ref b) H') :
    rSlA K (.ref a) (some (i : Int)) (some (j : Int)) H Q := by
  refine ⟨a, xs, rfl, hs, fun z => ?_, fun z p np => ?_⟩
  · rw [HT.sIx_nat, HT.sIx_nat, Nat.min_eq_left h1, Nat.min_eq_left h2] at z
    refine h a H (Same.refl H) ?_ fun _ e _ => e
    rw [z.1, z.2, List.drop_zero, Nat.sub_zero, List.take_length]
    exact hs
  · rw [cut_nat xs i j h1 h2]
    exact h p _ (same_upd np) (SqT.of upd_same) fun c e hc => by rw [upd_ne hc]; exact e
theorem cat_dp {K : PySem.W.Frag} {H : Hp} {x y : V} {ds es : List PyData} {Q : VK} (hx : Dp K H x (.tuple ds)) (hy : Dp K H y (.tuple es)) (hne : ds ≠ []) (hz : ds.length + es.length ≤ 1000) (h : ∀ v H', Same H H' → Dp K H' v (.tuple (ds ++ es)) → Q v H') : rCatT K x y H Q := by
  cases hx with
  | @tup a xs _ sx ax =>
  cases hy with
  | @tup b ys _ sy ay =>
  have lx := DpAll.len ax
  have ly := DpAll.len ay
  refine ⟨a, b, xs, ys, rfl, rfl, sx, sy, fun z => ?_, small_of (by omega), fun z => ?_, fun z p np => ?_⟩
  · rw [z] at lx
    exact hne (List.eq_nil_of_length_eq_zero lx.symm)
  · subst z
    cases ay
    rw [List.append_nil] at h
    exact h _ H (Same.refl H) (.tup sx ax)
  · exact h _ _ (same_upd np) (.tup (SqT.of upd_same) (dp_sameAll (same_upd np) _ _ (DpAll.app ax ay)))
theorem cut_from1 (v : V) (xs : List V) : cutV (v :: xs) (some 1) Option.none = xs := by
  unfold cutV
  rw [show (some (1 : Int)) = some ((1 : Nat) : Int) from rfl, HT.sIx_nat, HT.sIx_none, List.length_cons, Nat.min_eq_left (by omega), List.drop_succ_cons, List.drop_zero, Nat.add_sub_cancel]
  exact List.take_length
section
variable {σ : L2.St} {H : Hp}
theorem args1 {t : TE} {ta : TA} {Q : List V → Hp → Prop} (h : t σ H fun x H1 => ta σ H1 fun xs H2 => Q (x :: xs) H2) : tCons t ta σ H Q := h
theorem tup_of {ta : TA} {Q : VK} (h : ta σ H fun xs H1 => xs.length ≤ sizeLine ∧ ∀ p, H1 p = Option.none → Q (.ref p) (upd H1 p (.tup xs))) : tTup ta σ H Q := h
theorem const_of {v : V} {Q : VK} (h : Q v H) : tC v σ H Q := h
theorem op_of {r : R2} {ta tb : TE} {Q : VK} (h : ta σ H fun x H1 => tb σ H1 fun y H2 => r x y H2 Q) : tOp r ta tb σ H Q := h
theorem nil_of {Q : List V → Hp → Prop} (h : Q [] H) : tNil σ H Q := h
end
section
variable {σ : L2.St} {H : Hp}
theorem call_of {sp : Sp} {dvs : List V} {E : XK} {t : TA} {Q : VK} (h : t σ H fun vs H1 => sp (vs ++ dvs) H1 Q E) : tCall sp dvs E t σ H Q := h
theorem args_and {r : R2} {sp : Sp} {dvs : List V} {E : XK} {t : TA} {tb tc : TE} {D : Ends} (h : t σ H fun vs H1 => sp (vs ++ dvs) H1 (fun x H1 => tb σ H1 fun y H2 => r x y H2 fun x H1 => ∃ c, x = .bl c ∧ if c = true then tc σ H1 D.rt else D.rt (.bl false) H1) E) : tRet (tAndV (tOp r (tCall sp dvs E t) tb) tc) D σ H := h
end
theorem relStr (x : Str) (t : Tok) : RelV (.str x) (.str x t) := ⟨_, rfl⟩
theorem relInt (i : Int) (t : Tok) : RelV (.int i) (.int i t) := ⟨_, rfl⟩
theorem relRef (a : Addr) : RelV (.ref a) (.ref a) := rfl
/-! ### a < b of data whose places are alike -/
section
variable {X : Cx}
def rLtD (K : PySem.W.Frag) : R2 := fun x y H Q => ∃ d e, Dp K H x d ∧ Dp K H y e ∧ PySem.W.alike d e = true ∧ d ≠ .none ∧ d.depth ≤ 8 ∧ Q (.bl (PySem.W.dataLt d e)) H
theorem op_ltD (hu : X.A.units + 64 < cLine) : OpR X (compareOp .Lt) (rLtD X.K) := by
  intro pins s σ H x y v u Q I rx ry h
  obtain ⟨d, e, hd, he, ha, hn, hz, q⟩ := h
  obtain ⟨as, r1⟩ := Dp.reads I d x v hd rx
  obtain ⟨bs, r2⟩ := Dp.reads I e y u he ry
  have R := PySem.W.rcLt_alike d e X.A s v u as bs r1 r2 ha hn (Nat.lt_of_le_of_lt (Nat.add_le_add_left (Nat.le_trans (Nat.min_le_left _ _) (Nat.le_trans hz (by decide : 8 ≤ 64))) _) hu)
  have z : wpAny (model X.prog X.w) X.A (compareOp .Lt v u) (EP X pins σ Q) X.xe s := R X.prog X.w X.xe (EP X pins σ Q) ⟨.bl _, H, I, rfl, q⟩
  exact z
end
/-! ### zip of two tuples -/
theorem walk_zipT {K : PySem.W.Frag} {a b : Addr} {xs ys : List V} {n : Nat} (hn : n = min xs.length ys.length) : Walk (RZ.ItzT K a b) n (fun H => SqT K H a xs ∧ SqT K H b ys) (YPair (fun i => xs[i]?) (fun i => ys[i]?)) := by
  subst hn
  refine ⟨fun i H hi q => ?_, fun H q => ⟨xs, ys, q.1, q.2, by omega⟩, fun i H v H' hi q y => ?_⟩
  · have h1 : i < xs.length := by omega
    have h2 : i < ys.length := by omega
    exact ⟨xs, ys, _, _, q.1, q.2, List.getElem?_eq_getElem h1, List.getElem?_eq_getElem h2⟩
  · obtain ⟨T, x, y, e1, e2, e3, e4, e5⟩ := y
    exact ⟨T, x, y, e1, e2, e3, e4 xs q.1, e5 ys q.2⟩
/-! ### () + t -/
section
open Builtin
theorem addE (l b : Addr) (xs ys : Array Value) (n k : Nat) (dd dd2 : Option Addr) (sl sl2 : Array (Option Value)) (he : xs.isEmpty = true) :
    Meets (Builtin.«tuple.__add__» ⟨[.ref l, .ref b], []⟩) (fun _ R s => s.heap.get? l = some { cls := .type "tuple", dict := dd, data := .seq xs n, slots := sl } ∧ s.heap.get? b = some { cls := .type "tuple", dict := dd2, data := .seq ys k, slots := sl2 } ∧ R (.ok (.ret (Value.ref b))) s) := by
  refine .of_wp fun prog w A R s h => ?_
  obtain ⟨hp, g, d, tk, os⟩ := s
  obtain ⟨ea, eb, q⟩ := h
  have i1 := AutoSeq1.idx_int
  have i2 := AutoSeq1.sub_tuple_tuple
  have i3 := AutoSeq1.sub_list_list
  have i4 := AutoSeq1.sub_tuple_list
  have i5 := AutoSeq1.sub_list_tuple
  wp_walk using AutoSeq1.wpAny_loadPart' ea, AutoSeq1.wpAny_loadPart' eb
  exact ⟨_, rfl, q⟩
end
section
variable {X : Cx}
def rCatA (K : PySem.W.Frag) : R2 := fun x y H Q => ∃ a b xs ys, x = .ref a ∧ y = .ref b ∧ SqT K H a xs ∧ SqT K H b ys ∧ xs.length + ys.length ≤ sizeLine ∧ (xs = [] → Q (.ref b) H) ∧ (ys = [] → Q (.ref a) H) ∧ ∀ p, H p = Option.none → Q (.ref p) (upd H p (.tup (xs ++ ys)))
theorem op_catA : OpR X (binaryOp .Add) (rCatA X.K) := by
  intro pins s σ H x y v u Q I rx ry h
  obtain ⟨a, b, xs, ys, rfl, rfl, ha, hb, hz, q1, q2, q3⟩ := h
  by_cases hx : xs = []
  · subst hx
    cases rx
    cases ry
    obtain ⟨its, r1, p1, _⟩ := I.tuple ha
    obtain ⟨its2, r2, p2, _⟩ := I.tuple hb
    cases r1
    obtain ⟨⟨oc, od, dt, sl⟩, e1, c1, n, d1⟩ := p1
    obtain ⟨⟨oc2, od2, dt2, sl2⟩, e2, c2, n2, d2⟩ := p2
    simp only at c1 d1 c2 d2
    subst c1 d1 c2 d2
    exact concat_meets ⟨_, e1, rfl⟩ ⟨_, e2, rfl⟩ noFill_tuple_add seq_tuple_add PySem.F.slot_tuple_add PySem.F.entry_tuple_add (PySem.F.args_tuple_add_2 _ _)
      (addE a b #[] its2.toArray n n2 od od2 sl sl2 rfl) ⟨e1, e2, ⟨.ref b, H, I, rfl, q1 rfl⟩⟩
  · exact op_catT pins s σ H (.ref a) (.ref b) v u Q I rx ry ⟨a, b, xs, ys, rfl, rfl, ha, hb, hx, hz, q2, fun _ p np => q3 p np⟩
end
section
variable {K : PySem.W.Frag} {G : Addr → Prop} {H : Hp}
theorem ImAll.dropt : ∀ {xs : List V} {ds : List PyData} (n : Nat), ImAll K G H xs ds → ImAll K G H (xs.drop n) (ds.drop n)
  | _, _, 0, r => r
  | _, _, _ + 1, .nil => .nil
  | _, _, n + 1, .cons _ t => ImAll.dropt n t
theorem ImAll.taket : ∀ {xs : List V} {ds : List PyData} (n : Nat), ImAll K G H xs ds → ImAll K G H (xs.take n) (ds.take n)
  | _, _, 0, _ => .nil
  | _, _, _ + 1, .nil => .nil
  | _, _, n + 1, .cons r t => .cons r (ImAll.taket n t)
theorem im_new {xs : List V} {ds : List PyData} {p : Addr} (np : H p = Option.none) (ia : ImAll K G H xs ds) : Im K (fun b => G b ∨ H b = Option.none) (upd H p (.tup xs)) (.ref p) (.tuple ds) :=
  .tup (.inr np) upd_same (Im.monoAll (fun b o _ e => same_upd np b o e) (fun _ g => .inl g) _ _ ia)
theorem im_cut {x : V} {ds es : List PyData} {lo hi : Option Int} {Q : VK} (iv : Im K G H x (.tuple ds)) (hc : ∀ xs : List V, ImAll K G H xs ds → ImAll K G H (cutV xs lo hi) es) (h : ∀ v H', Same H H' → (∀ b, G b ∨ H b = Option.none → G b ∨ H b = Option.none) → Im K (fun b => G b ∨ H b = Option.none) H' v (.tuple es) → Q v H') : rSlA K x lo hi H Q := by
  cases iv with
  | @tup a xs _ g e ia =>
  refine ⟨a, xs, rfl, SqT.of e, fun z => ?_, fun z p np => ?_⟩
  · have hw : cutV xs lo hi = xs := by
      unfold cutV
      rw [z.1, z.2, List.drop_zero, Nat.sub_zero, List.take_length]
    have := hc xs ia
    rw [hw] at this
    exact h _ H (Same.refl H) (fun _ q => q) (.tup (.inl g) e (Im.monoAll (fun _ _ _ e => e) (fun _ g => .inl g) _ _ this))
  · exact h _ _ (same_upd np) (fun _ q => q) (im_new np (hc xs ia))
theorem im_take {x : V} {ds : List PyData} {k : Nat} {Q : VK} (iv : Im K G H x (.tuple ds)) (hk : k ≤ ds.length) (h : ∀ v H', Same H H' → Im K (fun b => G b ∨ H b = Option.none) H' v (.tuple (ds.take k)) → Q v H') : rSlA K x Option.none (some (k : Int)) H Q :=
  im_cut iv (fun xs ia => by
    unfold cutV
    rw [HT.sIx_none, HT.sIx_nat, Nat.min_eq_left (by rw [ia.len]; exact hk), List.drop_zero, Nat.sub_zero]
    exact ImAll.taket _ ia) fun v H' s _ i => h v H' s i
theorem im_drop {x : V} {ds : List PyData} {k : Nat} {Q : VK} (iv : Im K G H x (.tuple ds)) (hk : k ≤ ds.length) (h : ∀ v H', Same H H' → Im K (fun b => G b ∨ H b = Option.none) H' v (.tuple (ds.drop k)) → Q v H') : rSlA K x (some (k : Int)) Option.none H Q :=
  im_cut iv (fun xs ia => by
    unfold cutV
    rw [HT.sIx_none, HT.sIx_nat, Nat.min_eq_left (by rw [ia.len]; exact hk), List.take_of_length_le (by rw [List.length_drop]; exact Nat.le_refl _)]
    exact ImAll.dropt _ ia) fun v H' s _ i => h v H' s i
theorem im_cat {x y : V} {ds es : List PyData} {Q : VK} (iv : Im K G H x (.tuple ds)) (iw : Im K G H y (.tuple es)) (hz : ds.length + es.length ≤ 1000) (h : ∀ v H', Same H H' → Im K (fun b => G b ∨ H b = Option.none) H' v (.tuple (ds ++ es)) → Q v H') : rCatA K x y H Q := by
  have w1 := Im.mono (G' := fun b => G b ∨ H b = Option.none) (fun _ _ _ e => e) (fun _ g => .inl g) _ _ iv
  have w2 := Im.mono (G' := fun b => G b ∨ H b = Option.none) (fun _ _ _ e => e) (fun _ g => .inl g) _ _ iw
  cases iv with
  | @tup a xs _ g e ia =>
  cases iw with
  | @tup b ys _ g2 e2 ib =>
  have l1 := ia.len
  have l2 := ib.len
  refine ⟨a, b, xs, ys, rfl, rfl, SqT.of e, SqT.of e2, small_of (by omega), fun z => ?_, fun z => ?_, fun p np => ?_⟩
  · subst z
    cases ia
    exact h _ H (Same.refl H) w2
  · subst z
    cases ib
    rw [List.append_nil] at h
    exact h _ H (Same.refl H) w1
  · exact h _ _ (same_upd np) (im_new np (ImAll.app ia ib))
end
end My
namespace My
open PySem PySem.Spec PyProof.Rows L2 SkE
/-! ### defs that may raise, and the program's own error classes -/
def HasX (P : Program) (w : World) (K : PySem.W.Frag) (mg : Str → Option Value) (base : Heap) (k : Nat) (x : Str) (ps : List Str) (sp : Sp) : Prop :=
  ∃ (f : Addr) (fd : FuncData), FnOk P w K mg base (L2.CX P w) k f fd ps sp ∧ mg x = some (.ref f) ∧ PySem.W.keepIn K (.ref f) = true ∧ Binds K fd ps []
/-- where the class of this name stands -/
def clsA (K : PySem.W.Frag) (x : Str) : Addr := match PySem.W.nsIn K mainGlobals x with
  | some (some (.ref C)) => C | _ => 0
theorem clsA_of {K : PySem.W.Frag} {x : Str} {C : Addr} (h : PySem.W.nsIn K mainGlobals x = some (some (.ref C))) : clsA K x = C := by
  unfold clsA
  rw [h]
structure Xc (K : PySem.W.Frag) (mg : Str → Option Value) (x : Str) (C : Addr) : Prop where
  gC : mg x = some (.ref C)
  xC : PySem.W.excIn K C [.type "ValueError", .type "Exception", .type "BaseException", .type "object"] "ValueError.__new__" = true
  kC : PySem.W.keepIn K (.ref C) = true
  bC : PySem.W.subIn K (.ref C) (.type "BaseException") = some true
  tC : PySem.W.typeIn K (.ref C) = some (.type "type")
  iC : PySem.W.isClsIn K C = true
theorem exm_pair {K : PySem.W.Frag} {T S : Addr} {b : Bool} (h1 : PySem.W.subIn K (.ref S) (.type "BaseException") = some true) (h2 : PySem.W.isClsIn K S = true) (h3 : PySem.W.typeIn K (.ref S) = some (.type "type")) (h4 : PySem.W.subIn K (.ref T) (.ref S) = some b) :
    PySem.W.exmOne K (.ref T) (.ref S) = some b := by
  have e1 : (PySem.W.subIn K (.ref S) (.type "BaseException") == some true) = true := by rw [h1] <;> rfl
  have e2 : ((PySem.W.clsIn K S).isSome && PySem.W.typeIn K (.ref S) == some (.type "type")) = true := by
    have h2' : (PySem.W.clsIn K S).isSome = true := h2
    rw [h2', h3] <;> rfl
  show (if (PySem.W.subIn K (.ref S) (.type "BaseException") == some true) = true then (if ((PySem.W.clsIn K S).isSome && PySem.W.typeIn K (.ref S) == some (.type "type")) = true then PySem.W.subIn K (.ref T) (.ref S) else none) else none) = some b
  rw [if_pos e1, if_pos e2]
  exact h4
theorem pss_under {X : Cx} {b : List Stmt} {t : TS} {P : Prop} (h : P → PSs X b t) : PSs X b (fun D σ H => P ∧ t D σ H) := ⟨fun pins s σ H D I ⟨p, q⟩ => (h p).run pins s σ H D I q⟩
end My
namespace My
open PySem PySem.Spec PyProof.Rows L2
/-! ### one step of a reading each -/
section
variable {σ : L2.St} {H : Hp} {Q : VK} {QA : List V → Hp → Prop} {QT : Bool → Hp → Prop} {te ta tb : TE} {tr tk : TA} {t u : TS} {c d : TT} {D : Ends} {v x y : V} {i j : Int} {g : TG} {K : PySem.W.Frag}
theorem st_of {N : List Str} {vs : List V} (e : L2.start N vs = σ) (h : t D σ H) : t D (L2.start N vs) H := e ▸ h
theorem g_var {n : Nat} (e : σ[n]? = some (some v)) (h : Q v H) : tVar n σ H Q := ⟨v, e, h⟩
theorem g_c (h : Q v H) : tC v σ H Q := h
theorem g_nil (h : QA [] H) : tNil σ H QA := h
theorem g_cons (h : ta σ H fun x H1 => tr σ H1 fun xs H2 => QA (x :: xs) H2) : tCons ta tr σ H QA := h
theorem g_op {r : R2} (h : ta σ H fun x H1 => tb σ H1 fun y H2 => r x y H2 Q) : tOp r ta tb σ H Q := h
theorem g_un {r : V → Hp → VK → Prop} (h : ta σ H fun x H1 => r x H1 Q) : tUn r ta σ H Q := h
theorem g_i0 {f : Int → Int → V} (h : Q (f i j) H) : rI0 f (.int i) (.int j) H Q := ⟨i, j, rfl, rfl, h⟩
theorem g_i1 {C : Int → Int → Prop} {f : Int → Int → V} (hc : C i j) (h : Q (f i j) H) : rI C f (.int i) (.int j) H Q := ⟨i, j, rfl, rfl, hc, h⟩
theorem g_iu {f : Int → V} (h : Q (f i) H) : rU f (.int i) H Q := ⟨i, rfl, h⟩
theorem dec_i : decide (V.int i = V.int j) = decide (i = j) := by
  by_cases e : i = j
  · rw [e]; simp
  · rw [decide_eq_false e, decide_eq_false fun z => e (V.int.inj z)]
theorem dec_s {a b : Str} : decide (V.str a = V.str b) = decide (a = b) := by
  by_cases e : a = b
  · rw [e]; simp
  · rw [decide_eq_false e, decide_eq_false fun z => e (V.str.inj z)]
theorem g_eqi (h : Q (.bl (decide (i = j))) H) : rEq (.int i) (.int j) H Q := ⟨rfl, by rw [dec_i]; exact h⟩
theorem g_nei (h : Q (.bl (!decide (i = j))) H) : rNe (.int i) (.int j) H Q := ⟨rfl, by rw [dec_i]; exact h⟩
theorem g_eqs {a b : Str} (h : Q (.bl (decide (a = b))) H) : rEq (.str a) (.str b) H Q := ⟨rfl, by rw [dec_s]; exact h⟩
theorem g_nes {a b : Str} (h : Q (.bl (!decide (a = b))) H) : rNe (.str a) (.str b) H Q := ⟨rfl, by rw [dec_s]; exact h⟩
theorem g_bl {b : Bool} {P : Bool → Prop} (h : P b) : ∃ k, V.bl b = V.bl k ∧ P k := ⟨b, rfl, h⟩
theorem g_in {P : Int → Prop} (h : P i) : ∃ k, V.int i = V.int k ∧ P k := ⟨i, rfl, h⟩
theorem g_test (h : te σ H fun x H' => ∃ k, x = .bl k ∧ QT k H') : tTest te σ H QT := h
theorem g_b (h : te σ H fun x H' => ∃ k, x = .bl k ∧ QT k H') : tB te σ H QT := h
theorem g_not (h : c σ H fun b H1 => QT (!b) H1) : tNot c σ H QT := h
theorem g_and (h : c σ H fun b H1 => if b = true then d σ H1 QT else QT false H1) : tAnd c d σ H QT := h
theorem g_or (h : c σ H fun b H1 => if b = true then QT true H1 else d σ H1 QT) : tOr c d σ H QT := h
theorem g_andV (h : ta σ H fun x H1 => ∃ k, x = .bl k ∧ if k = true then tb σ H1 Q else Q (.bl false) H1) : tAndV ta tb σ H Q := h
theorem g_orV (h : ta σ H fun x H1 => ∃ k, x = .bl k ∧ if k = true then Q (.bl true) H1 else tb σ H1 Q) : tOrV ta tb σ H Q := h
theorem g_notV (h : ta σ H fun x H1 => ∃ k, x = .bl k ∧ Q (.bl (!k)) H1) : tNotV ta σ H Q := h
theorem g_if (h : c σ H fun b H1 => if b = true then ta σ H1 Q else tb σ H1 Q) : tIf c ta tb σ H Q := h
theorem g_next (h : D.nx σ H) : tNext D σ H := h
theorem g_seq (h : t { D with nx := u D } σ H) : tSeq t u D σ H := h
theorem g_brk (h : D.bk σ H) : tBreak D σ H := h
theorem g_cont (h : D.ct σ H) : tCont D σ H := h
theorem g_drop (h : te σ H fun _ H1 => D.nx σ H1) : tDrop te D σ H := h
theorem g_ret (h : te σ H D.rt) : tRet te D σ H := h
theorem g_retN (h : D.rt .non H) : tRetN D σ H := h
theorem g_ifS (h : c σ H fun b H1 => if b = true then t D σ H1 else u D σ H1) : tIfS c t u D σ H := h
theorem g_asg (h : te σ H fun x H1 => g x σ H1 D.nx) : tAsg te g D σ H := h
theorem g_par {m n : Nat} (h : tr σ H fun vs H1 => ∃ v w, vs = [v, w] ∧ D.nx ((σ.set m (some v)).set n (some w)) H1) : tPar m n tr D σ H := h
theorem g_two {P : V → V → Prop} (h : P x y) : ∃ a b, [x, y] = [a, b] ∧ P a b := ⟨x, y, rfl, h⟩
theorem g_aug {n : Nat} {ti : TIp} (e : σ[n]? = some (some x)) (h : te σ H fun y H1 => ti x y H1 fun z H2 => D.nx (σ.set n (some z)) H2) : tAug n te ti D σ H := ⟨x, e, h⟩
theorem g_call {sp : Sp} {dvs : List V} {E : XK} (h : tr σ H fun vs H1 => sp (vs ++ dvs) H1 Q E) : tCall sp dvs E tr σ H Q := h
theorem g_callN {n m : Nat} {sp : Sp} {gV : List V → List V → List V} {E : XK} (h : tr σ H fun vs H1 => tk σ H1 fun zs H2 => vs.length = n ∧ zs.length = m ∧ sp (gV vs zs) H2 Q E) : tCallN n m sp gV E tr tk σ H Q := h
theorem g_kw {r : List V → List V → Hp → VK → Prop} (h : tr σ H fun vs H1 => tk σ H1 fun zs H2 => r vs zs H2 Q) : tCKw r tr tk σ H Q := h
theorem g_cb {r : List V → Hp → VK → Prop} (h : tr σ H fun vs H1 => r vs H1 Q) : tCB r tr σ H Q := h
theorem g_tup (h : tr σ H fun xs H1 => xs.length ≤ sizeLine ∧ ∀ p, H1 p = Option.none → Q (.ref p) (upd H1 p (.tup xs))) : tTup tr σ H Q := h
theorem g_lst (h : tr σ H fun xs H1 => xs.length ≤ sizeLine ∧ ∀ p, H1 p = Option.none → Q (.ref p) (upd H1 p (.lst xs))) : tLst tr σ H Q := h
theorem g_sl {r : V → Option Int → Option Int → Hp → VK → Prop} {tl th : TO} (h : te σ H fun x H1 => tl σ H1 fun l H2 => th σ H2 fun u H3 => r x l u H3 Q) : tSl r te tl th σ H Q := h
theorem g_np {QO : Option Int → Hp → Prop} (h : QO Option.none H) : tNoPart σ H QO := h
theorem g_part {QO : Option Int → Hp → Prop} (h : te σ H fun x H1 => ∃ i, x = .int i ∧ QO (some i) H1) : tPart te σ H QO := h
theorem g_bm {T : String} {r : V → List V → Hp → VK → Prop} (h : te σ H fun x H1 => tyV K T x H1 ∧ tr σ H1 fun xs H2 => r x xs H2 Q) : tBM K T r te tr σ H Q := h
theorem g_bm0 {T : String} {r : V → List V → Hp → VK → Prop} (h : te σ H fun x H1 => tyV K T x H1 ∧ r x [] H1 Q) : tBM0 K T r te σ H Q := h
theorem g_rt {N : L2.St → Hp → Prop} {R : VK} {B C : L2.St → Hp → Prop} (h : R v H) : ({ nx := N, rt := R, bk := B, ct := C } : Ends).rt v H := h
theorem g_bk {N : L2.St → Hp → Prop} {R : VK} {B C : L2.St → Hp → Prop} (h : B σ H) : ({ nx := N, rt := R, bk := B, ct := C } : Ends).bk σ H := h
theorem g_ct {N : L2.St → Hp → Prop} {R : VK} {B C : L2.St → Hp → Prop} (h : C σ H) : ({ nx := N, rt := R, bk := B, ct := C } : Ends).ct σ H := h
theorem g_sub {to ti : TE} {ts : TSet} {QS : L2.St → Hp → Prop} (h : to σ H fun o H1 => ti σ H1 fun i H2 => ts o i v H2 fun H3 => QS σ H3) : gSub to ti ts v σ H QS := h
theorem g_isN {P : Bool → Prop} (h : P true) : P (decide (V.non = V.non)) := by rw [decide_eq_true rfl]; exact h
theorem ifv (P : Hp → Prop) (hu : ∀ H, P H → u D σ H) (hc : (∀ H, P H → u D σ H) → c σ H fun b H1 => if b = true then t D σ H1 else u D σ H1) : tIfS c t u D σ H := hc hu
theorem ifc (b : Bool) (hc : ∀ QT : Bool → Hp → Prop, QT b H → c σ H QT) (ht : b = true → t D σ H) (hu : b = false → u D σ H) : tIfS c t u D σ H := hc _ (by cases b with | true => exact iteT (ht rfl) | false => exact iteF (hu rfl))
theorem nx_via {t : TS} {N : L2.St → Hp → Prop} {R : VK} {B C : L2.St → Hp → Prop} (P : L2.St → Hp → Prop) (hu : ∀ σ H, P σ H → N σ H) (ht : (∀ σ H, P σ H → N σ H) → t { nx := N, rt := R, bk := B, ct := C } σ H) : t { nx := N, rt := R, bk := B, ct := C } σ H := ht hu
theorem iteNf {A B : Prop} (h : A) : if (!false) = true then A else B := h
theorem iteSs {α : Type} {u : α} {A B : Prop} (h : A) : if (some u).isSome = true then A else B := h
theorem iteSn {α : Type} {A B : Prop} (h : B) : if (Option.none : Option α).isSome = true then A else B := iteF h
theorem iteNt {A B : Prop} (h : B) : if (!true) = true then A else B := iteF h
theorem g_yes {QT : Bool → Hp → Prop} (h : QT true H) : tYes σ H QT := h
theorem nine {n : Int} (h0 : 0 ≤ n) (h : n ≤ 10 ^ 41) : n.natAbs < 2 ^ 9000 := Nat.lt_of_lt_of_le (show n.natAbs < 2 ^ 140 from Nat.lt_of_le_of_lt (show n.natAbs ≤ 10 ^ 41 by omega) (by decide)) (Nat.pow_le_pow_right (by decide) (by decide))
/-- a while by a measure -/
theorem while_m {tb : TS} (W : Nat → L2.St → Hp → Prop) (h0 : ∃ m, W m σ H) (hs : ∀ m σ H, W m σ H → c σ H fun b H1 => if b = true then ∃ N : L2.St → Hp → Prop, (∀ σ' H', N σ' H' → ∃ m', m' < m ∧ W m' σ' H') ∧ tb { D with nx := N, ct := N, bk := D.nx } σ H1 else D.nx σ H1) : tWhile c tb D σ H := ⟨W, h0, hs⟩
theorem while_n {tb : TS} {W : Nat → L2.St → Hp → Prop} {m : Nat} (h : tb { D with nx := fun σ' H' => ∃ m', m' < m ∧ W m' σ' H', ct := fun σ' H' => ∃ m', m' < m ∧ W m' σ' H', bk := D.nx } σ H) :
    ∃ N : L2.St → Hp → Prop, (∀ σ' H', N σ' H' → ∃ m', m' < m ∧ W m' σ' H') ∧ tb { D with nx := N, ct := N, bk := D.nx } σ H := ⟨_, fun _ _ z => z, h⟩
end
section
variable {K : PySem.W.Frag} {a p : Addr} {xs ys : List V} {H : Hp} {Q : VK} {v y : V} {j : Nat} {P : Prop} {D : Ends} {σ : L2.St} {g : TG} {tb : TS}
theorem ixL (hs : SqL K H p xs) (e : xs[j]? = some v) (q : Q v H) : rIxL K (.ref p) (.int (j : Int)) H Q := ⟨p, xs, _, v, rfl, rfl, hs, atI_nat e, q⟩
theorem ixT (hs : SqT K H p xs) (e : xs[j]? = some v) (q : Q v H) : rIxT K (.ref p) (.int (j : Int)) H Q := ⟨p, xs, _, v, rfl, rfl, hs, atI_nat e, q⟩
theorem tyl (hs : SqL K H p xs) (q : P) : tyV K "list" (.ref p) H ∧ P := ⟨.inl ⟨rfl, _, hs⟩, q⟩
theorem rap (e : H p = some (.lst xs)) (l : xs.length ≤ 10000000) (q : Q .non (upd H p (.lst (xs ++ [y])))) : rAppend (.ref p) [y] H Q := ⟨p, xs, y, rfl, rfl, e, Nat.lt_of_le_of_lt l (by decide), q⟩
theorem lenL (hs : SqL K H p xs) (q : Q (.int (xs.length : Nat)) H) : ∃ p' ys, [V.ref p] = [V.ref p'] ∧ (SqL K H p' ys ∨ SqT K H p' ys) ∧ Q (.int (ys.length : Nat)) H := ⟨p, xs, rfl, .inl hs, q⟩
theorem lenT (hs : SqT K H p xs) (q : Q (.int (xs.length : Nat)) H) : ∃ p' ys, [V.ref p] = [V.ref p'] ∧ (SqL K H p' ys ∨ SqT K H p' ys) ∧ Q (.int (ys.length : Nat)) H := ⟨p, xs, rfl, .inr hs, q⟩
theorem slL {lo hi : Option Int} (hs : SqL K H p xs) (q : ∀ b, H b = Option.none → Q (.ref b) (upd H b (.lst (cutV xs lo hi)))) : rSlL K (.ref p) lo hi H Q := ⟨p, xs, rfl, hs, q⟩
theorem newN {ws : List V} {n : Nat} (e : ws.length = n) (l : n ≤ 100000) {P : Addr → Prop} (q : ∀ b, H b = Option.none → P b) : ws.length ≤ sizeLine ∧ ∀ b, H b = Option.none → P b := ⟨Nat.le_trans (Nat.le_of_eq e) (Nat.le_trans l (by decide)), q⟩
end
section
variable {σ : L2.St} {H : Hp} {D : Ends} {K : PySem.W.Frag} {wi : TI} {g : TG} {tb : TS} {tl : TE} {ta : TA} {R : It → Hp → Prop}
theorem g_for (h : wi σ H fun J H1 => ∃ W : Nat → Nat → L2.St → Hp → Prop, (∃ m, W 0 m σ H1) ∧ ∀ i m σ H, W i m σ H →
    (J.stop i H ∧ D.nx σ H) ∨ (J.go i H ∧ ∃ N : L2.St → Hp → Prop, (∀ σ' H', N σ' H' → ∃ m', m' < m ∧ W (i + 1) m' σ' H') ∧ ∀ x H', J.yld i H x H' → g x σ H' fun σ2 H2 => tb { D with nx := N, ct := N, bk := D.nx } σ2 H2)) : tFor wi g tb D σ H := h
theorem g_iL (h : tl σ H fun x H1 => ∃ a, x = .ref a ∧ (∃ xs, SqL K H1 a xs) ∧ R (Itl K a) H1) : iList K tl σ H R := h
theorem g_iT (h : tl σ H fun x H1 => ∃ a, x = .ref a ∧ (∃ xs, SqT K H1 a xs) ∧ R (Itt K a) H1) : iTup K tl σ H R := h
theorem g_iR1 (h : ta σ H fun vs H1 => ∃ j : Int, vs = [.int j] ∧ -(2 ^ 62) ≤ j ∧ j < 2 ^ 62 ∧ R (Itr 0 j.toNat) H1) : iRng1 ta σ H R := h
theorem g_iR2 (h : ta σ H fun vs H1 => ∃ i j : Int, vs = [.int i, .int j] ∧ (-(2 ^ 62) ≤ i ∧ i < 2 ^ 62 ∧ -(2 ^ 62) ≤ j ∧ j < 2 ^ 62) ∧ R (Itr i (j - i).toNat) H1) : iRng2 ta σ H R := h
theorem itR {j : Int} {n : Nat} (e : j.toNat = n) (l : n ≤ 1000000) (h0 : 0 ≤ j) (q : R (Itr 0 n) H) : ∃ j' : Int, [V.int j] = [V.int j'] ∧ -(2 ^ 62) ≤ j' ∧ j' < 2 ^ 62 ∧ R (Itr 0 j'.toNat) H := ⟨j, rfl, by omega, by omega, by rw [e]; exact q⟩
theorem itRn {j : Int} (h0 : j ≤ 0) (l : -1000000 ≤ j) (q : R (Itr 0 0) H) : ∃ j' : Int, [V.int j] = [V.int j'] ∧ -(2 ^ 62) ≤ j' ∧ j' < 2 ^ 62 ∧ R (Itr 0 j'.toNat) H := ⟨j, rfl, by omega, by omega, by rw [Int.toNat_of_nonpos h0]; exact q⟩
theorem itL {a : Addr} {xs : List V} (hs : SqL K H a xs) (q : R (Itl K a) H) : ∃ a', V.ref a = .ref a' ∧ (∃ xs, SqL K H a' xs) ∧ R (Itl K a') H := ⟨a, rfl, ⟨xs, hs⟩, q⟩
theorem itT {a : Addr} {xs : List V} (hs : SqT K H a xs) (q : R (Itt K a) H) : ∃ a', V.ref a = .ref a' ∧ (∃ xs, SqT K H a' xs) ∧ R (Itt K a') H := ⟨a, rfl, ⟨xs, hs⟩, q⟩
theorem g_iZ (h : ta σ H fun vs H1 => ∃ a b xs ys, vs = [.ref a, .ref b] ∧ ((SqL K H1 a xs ∧ SqL K H1 b ys ∧ R (Itz K a b) H1) ∨ (SqT K H1 a xs ∧ SqT K H1 b ys ∧ R (RZ.ItzT K a b) H1))) : RZ.iZipA K ta σ H R := h
theorem itZ {a b : Addr} {xs ys : List V} (h1 : SqL K H a xs) (h2 : SqL K H b ys) (q : R (Itz K a b) H) : ∃ a' b' xs ys, [V.ref a, V.ref b] = [V.ref a', .ref b'] ∧ ((SqL K H a' xs ∧ SqL K H b' ys ∧ R (Itz K a' b') H) ∨ (SqT K H a' xs ∧ SqT K H b' ys ∧ R (RZ.ItzT K a' b') H)) := ⟨a, b, xs, ys, rfl, .inl ⟨h1, h2, q⟩⟩
theorem cutV_to (xs : List V) (n : Nat) : cutV xs Option.none (some (n : Int)) = xs.take n := by
  unfold cutV
  rw [HT.sIx_none, HT.sIx_nat, List.drop_zero, Nat.sub_zero]
  rcases Nat.le_total n xs.length with h | h
  · rw [Nat.min_eq_left h]
  · rw [Nat.min_eq_right h, List.take_length, List.take_of_length_le h]
theorem cutV_from (xs : List V) (n : Nat) : cutV xs (some (n : Int)) Option.none = xs.drop n := by
  unfold cutV
  rw [HT.sIx_none, HT.sIx_nat, List.take_of_length_le (by rw [List.length_drop]; exact Nat.le_refl _)]
  rcases Nat.le_total n xs.length with h | h
  · rw [Nat.min_eq_left h]
  · rw [Nat.min_eq_right h, List.drop_length, List.drop_of_length_le h]
theorem cutV_last (xs : List V) : cutV xs Option.none (some (-1)) = xs.dropLast := by
  unfold cutV
  rw [HT.sIx_none, show HT.sIx xs.length xs.length (some (-1)) = xs.length - 1 from by
    show (if (-1 : Int) < 0 then ((-1 : Int) + (xs.length : Int)).toNat else min (-1 : Int).toNat xs.length) = _
    rw [if_pos (by decide)]
    omega, List.drop_zero, Nat.sub_zero, List.dropLast_eq_take]
theorem g_gtup {n : Nat} {gs : TGs} {QS : L2.St → Hp → Prop} {a : Addr} {xs : List V} (hs : SqT K H a xs) (l : xs.length = n) (q : gs xs σ H QS) : gTup K n gs (.ref a) σ H QS := ⟨a, xs, rfl, hs, l, q⟩
theorem g_gnil {QS : L2.St → Hp → Prop} (q : QS σ H) : gNil [] σ H QS := ⟨rfl, q⟩
theorem g_gcons {gs : TGs} {v : V} {r : List V} {QS : L2.St → Hp → Prop} (q : g v σ H fun σ' H' => gs r σ' H' QS) : gCons g gs (v :: r) σ H QS := ⟨v, r, rfl, q⟩
theorem g_lc {tt : TT} {te : TE} {vs : List Nat} {Q : VK} (h : wi σ H fun J H1 => ∀ D, H1 D = Option.none → ∃ W : Nat → Nat → Hp → Prop, (∃ m, W 0 m (upd H1 D (.lst []))) ∧ ∀ i m H, W i m H →
  (J.stop i H ∧ Q (.ref D) H) ∨ (J.go i H ∧ ∃ Nx : Hp → Prop, (∀ H', Nx H' → ∃ m', m' < m ∧ W (i + 1) m' H') ∧ ∀ x H', J.yld i H x H' → g x (wipe σ vs) H' fun σ2 H2 => wipe σ2 vs = wipe σ vs ∧ tt σ2 H2 fun b H3 =>
    if b = true then te σ2 H3 fun y H4 => ∃ acc, H4 D = some (.lst acc) ∧ acc.length < sizeLine ∧ Nx (upd H4 D (.lst (acc ++ [y]))) else Nx H3)) : tLc wi g tt te vs σ H Q := h
end
/-! ### data without lists stay where a list is changed -/
mutual
def nL : PyData → Bool
  | .list _ => false
  | .tuple ds => nLs ds
  | _ => true
def nLs : List PyData → Bool
  | [] => true
  | d :: ds => nL d && nLs ds
end
section
variable {K : PySem.W.Frag} {H H' : Hp} {D : Addr}
/-- all but the object at D, which is no tuple -/
structure ButL (D : Addr) (H H' : Hp) : Prop where
  keep : ∀ b o, b ≠ D → H b = some o → H' b = some o
  list : ∃ o, H D = some o ∧ (∀ xs, o ≠ .tup xs) ∧ ∀ u xs, o ≠ .frz u (.tup xs)
theorem ButL.sqT (h : ButL D H H') {a : Addr} {xs : List V} (q : SqT K H a xs) : SqT K H' a xs := by
  obtain ⟨o, e, n1, n2⟩ := h.list
  rcases q with (q | ⟨u, q⟩) | q
  · exact .inl (.inl (h.keep _ _ (fun z => by rw [z, e] at q; exact n1 _ (Option.some.inj q)) q))
  · exact .inl (.inr ⟨u, h.keep _ _ (fun z => by rw [z, e] at q; exact n2 _ _ (Option.some.inj q)) q⟩)
  · exact .inr q
theorem ButL.put {zs : List V} {o : HO} (e : H D = some (.lst zs)) : ButL D H (upd H D o) :=
  ⟨fun b u hb g => by rw [upd_ne hb]; exact g, ⟨_, e, (fun _ z => by cases z), (fun _ _ z => by cases z)⟩⟩
mutual
theorem dp_nL (h : ButL D H H') : ∀ (d : PyData) (v : V), nL d = true → Dp K H v d → Dp K H' v d
  | .none, _, _, r => by cases r; exact .non
  | .bool b, _, _, r => by cases r; exact .bl b
  | .int i, _, _, r => by cases r; exact .int i
  | .str x, _, _, r => by cases r; exact .str x
  | .list ds, _, n, _ => by simp [nL] at n
  | .tuple ds, _, n, r => by
    cases r with
    | tup g ha => exact .tup (h.sqT g) (dp_nLs h ds _ (by simpa [nL] using n) ha)
  | .dict _, _, _, r => by cases r
theorem dp_nLs (h : ButL D H H') : ∀ (ds : List PyData) (vs : List V), nLs ds = true → DpAll K H vs ds → DpAll K H' vs ds
  | [], _, _, r => by cases r; exact .nil
  | d :: ds, _, n, r => by
    cases r with
    | cons r1 r2 =>
      simp only [nLs, Bool.and_eq_true] at n
      exact .cons (dp_nL h d _ n.1 r1) (dp_nLs h ds _ n.2 r2)
end
theorem nLs_of {ds : List PyData} (h : ∀ d ∈ ds, nL d = true) : nLs ds = true := by
  induction ds with
  | nil => simp [nLs]
  | cons d ds ih => simp only [nLs, h d (.head _), ih fun e he => h e (.tail _ he), Bool.and_self]
theorem nLs_mem {ds : List PyData} (h : nLs ds = true) : ∀ d ∈ ds, nL d = true := by
  induction ds with
  | nil => exact fun d hd => nomatch hd
  | cons d ds ih =>
    simp only [nLs, Bool.and_eq_true] at h
    intro e he
    rcases List.mem_cons.mp he with rfl | he
    · exact h.1
    · exact ih h.2 e he
theorem dpAll_end : ∀ {vs : List V} {ds : List PyData} {v : V} {d : PyData}, DpAll K H vs ds → Dp K H v d → DpAll K H (vs ++ [v]) (ds ++ [d])
  | _, _, _, _, .nil, r => .cons r .nil
  | _, _, _, _, .cons q t, r => .cons q (dpAll_end t r)
end
section
variable {v : V} {H : Hp} {QS : L2.St → Hp → Prop} {s : L2.St}
theorem g_n0 {a0 : Option V} (h : QS (some v :: s) H) : gName 0 v (a0 :: s) H QS := h
theorem g_n1 {a0 a1 : Option V} (h : QS (a0 :: some v :: s) H) : gName 1 v (a0 :: a1 :: s) H QS := h
theorem g_n2 {a0 a1 a2 : Option V} (h : QS (a0 :: a1 :: some v :: s) H) : gName 2 v (a0 :: a1 :: a2 :: s) H QS := h
theorem g_n3 {a0 a1 a2 a3 : Option V} (h : QS (a0 :: a1 :: a2 :: some v :: s) H) : gName 3 v (a0 :: a1 :: a2 :: a3 :: s) H QS := h
theorem g_n4 {a0 a1 a2 a3 a4 : Option V} (h : QS (a0 :: a1 :: a2 :: a3 :: some v :: s) H) : gName 4 v (a0 :: a1 :: a2 :: a3 :: a4 :: s) H QS := h
theorem g_n5 {a0 a1 a2 a3 a4 a5 : Option V} (h : QS (a0 :: a1 :: a2 :: a3 :: a4 :: some v :: s) H) : gName 5 v (a0 :: a1 :: a2 :: a3 :: a4 :: a5 :: s) H QS := h
theorem g_n6 {a0 a1 a2 a3 a4 a5 a6 : Option V} (h : QS (a0 :: a1 :: a2 :: a3 :: a4 :: a5 :: some v :: s) H) : gName 6 v (a0 :: a1 :: a2 :: a3 :: a4 :: a5 :: a6 :: s) H QS := h
theorem g_n7 {a0 a1 a2 a3 a4 a5 a6 a7 : Option V} (h : QS (a0 :: a1 :: a2 :: a3 :: a4 :: a5 :: a6 :: some v :: s) H) : gName 7 v (a0 :: a1 :: a2 :: a3 :: a4 :: a5 :: a6 :: a7 :: s) H QS := h
theorem g_n8 {a0 a1 a2 a3 a4 a5 a6 a7 a8 : Option V} (h : QS (a0 :: a1 :: a2 :: a3 :: a4 :: a5 :: a6 :: a7 :: some v :: s) H) : gName 8 v (a0 :: a1 :: a2 :: a3 :: a4 :: a5 :: a6 :: a7 :: a8 :: s) H QS := h
theorem g_n9 {a0 a1 a2 a3 a4 a5 a6 a7 a8 a9 : Option V} (h : QS (a0 :: a1 :: a2 :: a3 :: a4 :: a5 :: a6 :: a7 :: a8 :: some v :: s) H) : gName 9 v (a0 :: a1 :: a2 :: a3 :: a4 :: a5 :: a6 :: a7 :: a8 :: a9 :: s) H QS := h
theorem g_n10 {a0 a1 a2 a3 a4 a5 a6 a7 a8 a9 a10 : Option V} (h : QS (a0 :: a1 :: a2 :: a3 :: a4 :: a5 :: a6 :: a7 :: a8 :: a9 :: some v :: s) H) : gName 10 v (a0 :: a1 :: a2 :: a3 :: a4 :: a5 :: a6 :: a7 :: a8 :: a9 :: a10 :: s) H QS := h
theorem g_n11 {a0 a1 a2 a3 a4 a5 a6 a7 a8 a9 a10 a11 : Option V} (h : QS (a0 :: a1 :: a2 :: a3 :: a4 :: a5 :: a6 :: a7 :: a8 :: a9 :: a10 :: some v :: s) H) : gName 11 v (a0 :: a1 :: a2 :: a3 :: a4 :: a5 :: a6 :: a7 :: a8 :: a9 :: a10 :: a11 :: s) H QS := h
theorem g_n12 {a0 a1 a2 a3 a4 a5 a6 a7 a8 a9 a10 a11 a12 : Option V} (h : QS (a0 :: a1 :: a2 :: a3 :: a4 :: a5 :: a6 :: a7 :: a8 :: a9 :: a10 :: a11 :: some v :: s) H) : gName 12 v (a0 :: a1 :: a2 :: a3 :: a4 :: a5 :: a6 :: a7 :: a8 :: a9 :: a10 :: a11 :: a12 :: s) H QS := h
theorem g_n13 {a0 a1 a2 a3 a4 a5 a6 a7 a8 a9 a10 a11 a12 a13 : Option V} (h : QS (a0 :: a1 :: a2 :: a3 :: a4 :: a5 :: a6 :: a7 :: a8 :: a9 :: a10 :: a11 :: a12 :: some v :: s) H) : gName 13 v (a0 :: a1 :: a2 :: a3 :: a4 :: a5 :: a6 :: a7 :: a8 :: a9 :: a10 :: a11 :: a12 :: a13 :: s) H QS := h
theorem g_n14 {a0 a1 a2 a3 a4 a5 a6 a7 a8 a9 a10 a11 a12 a13 a14 : Option V} (h : QS (a0 :: a1 :: a2 :: a3 :: a4 :: a5 :: a6 :: a7 :: a8 :: a9 :: a10 :: a11 :: a12 :: a13 :: some v :: s) H) : gName 14 v (a0 :: a1 :: a2 :: a3 :: a4 :: a5 :: a6 :: a7 :: a8 :: a9 :: a10 :: a11 :: a12 :: a13 :: a14 :: s) H QS := h
theorem g_n15 {a0 a1 a2 a3 a4 a5 a6 a7 a8 a9 a10 a11 a12 a13 a14 a15 : Option V} (h : QS (a0 :: a1 :: a2 :: a3 :: a4 :: a5 :: a6 :: a7 :: a8 :: a9 :: a10 :: a11 :: a12 :: a13 :: a14 :: some v :: s) H) : gName 15 v (a0 :: a1 :: a2 :: a3 :: a4 :: a5 :: a6 :: a7 :: a8 :: a9 :: a10 :: a11 :: a12 :: a13 :: a14 :: a15 :: s) H QS := h
theorem g_n16 {a0 a1 a2 a3 a4 a5 a6 a7 a8 a9 a10 a11 a12 a13 a14 a15 a16 : Option V} (h : QS (a0 :: a1 :: a2 :: a3 :: a4 :: a5 :: a6 :: a7 :: a8 :: a9 :: a10 :: a11 :: a12 :: a13 :: a14 :: a15 :: some v :: s) H) : gName 16 v (a0 :: a1 :: a2 :: a3 :: a4 :: a5 :: a6 :: a7 :: a8 :: a9 :: a10 :: a11 :: a12 :: a13 :: a14 :: a15 :: a16 :: s) H QS := h
theorem g_n17 {a0 a1 a2 a3 a4 a5 a6 a7 a8 a9 a10 a11 a12 a13 a14 a15 a16 a17 : Option V} (h : QS (a0 :: a1 :: a2 :: a3 :: a4 :: a5 :: a6 :: a7 :: a8 :: a9 :: a10 :: a11 :: a12 :: a13 :: a14 :: a15 :: a16 :: some v :: s) H) : gName 17 v (a0 :: a1 :: a2 :: a3 :: a4 :: a5 :: a6 :: a7 :: a8 :: a9 :: a10 :: a11 :: a12 :: a13 :: a14 :: a15 :: a16 :: a17 :: s) H QS := h
theorem g_n18 {a0 a1 a2 a3 a4 a5 a6 a7 a8 a9 a10 a11 a12 a13 a14 a15 a16 a17 a18 : Option V} (h : QS (a0 :: a1 :: a2 :: a3 :: a4 :: a5 :: a6 :: a7 :: a8 :: a9 :: a10 :: a11 :: a12 :: a13 :: a14 :: a15 :: a16 :: a17 :: some v :: s) H) : gName 18 v (a0 :: a1 :: a2 :: a3 :: a4 :: a5 :: a6 :: a7 :: a8 :: a9 :: a10 :: a11 :: a12 :: a13 :: a14 :: a15 :: a16 :: a17 :: a18 :: s) H QS := h
theorem g_n19 {a0 a1 a2 a3 a4 a5 a6 a7 a8 a9 a10 a11 a12 a13 a14 a15 a16 a17 a18 a19 : Option V} (h : QS (a0 :: a1 :: a2 :: a3 :: a4 :: a5 :: a6 :: a7 :: a8 :: a9 :: a10 :: a11 :: a12 :: a13 :: a14 :: a15 :: a16 :: a17 :: a18 :: some v :: s) H) : gName 19 v (a0 :: a1 :: a2 :: a3 :: a4 :: a5 :: a6 :: a7 :: a8 :: a9 :: a10 :: a11 :: a12 :: a13 :: a14 :: a15 :: a16 :: a17 :: a18 :: a19 :: s) H QS := h
theorem g_n20 {a0 a1 a2 a3 a4 a5 a6 a7 a8 a9 a10 a11 a12 a13 a14 a15 a16 a17 a18 a19 a20 : Option V} (h : QS (a0 :: a1 :: a2 :: a3 :: a4 :: a5 :: a6 :: a7 :: a8 :: a9 :: a10 :: a11 :: a12 :: a13 :: a14 :: a15 :: a16 :: a17 :: a18 :: a19 :: some v :: s) H) : gName 20 v (a0 :: a1 :: a2 :: a3 :: a4 :: a5 :: a6 :: a7 :: a8 :: a9 :: a10 :: a11 :: a12 :: a13 :: a14 :: a15 :: a16 :: a17 :: a18 :: a19 :: a20 :: s) H QS := h
theorem g_n21 {a0 a1 a2 a3 a4 a5 a6 a7 a8 a9 a10 a11 a12 a13 a14 a15 a16 a17 a18 a19 a20 a21 : Option V} (h : QS (a0 :: a1 :: a2 :: a3 :: a4 :: a5 :: a6 :: a7 :: a8 :: a9 :: a10 :: a11 :: a12 :: a13 :: a14 :: a15 :: a16 :: a17 :: a18 :: a19 :: a20 :: some v :: s) H) : gName 21 v (a0 :: a1 :: a2 :: a3 :: a4 :: a5 :: a6 :: a7 :: a8 :: a9 :: a10 :: a11 :: a12 :: a13 :: a14 :: a15 :: a16 :: a17 :: a18 :: a19 :: a20 :: a21 :: s) H QS := h
theorem g_n22 {a0 a1 a2 a3 a4 a5 a6 a7 a8 a9 a10 a11 a12 a13 a14 a15 a16 a17 a18 a19 a20 a21 a22 : Option V} (h : QS (a0 :: a1 :: a2 :: a3 :: a4 :: a5 :: a6 :: a7 :: a8 :: a9 :: a10 :: a11 :: a12 :: a13 :: a14 :: a15 :: a16 :: a17 :: a18 :: a19 :: a20 :: a21 :: some v :: s) H) : gName 22 v (a0 :: a1 :: a2 :: a3 :: a4 :: a5 :: a6 :: a7 :: a8 :: a9 :: a10 :: a11 :: a12 :: a13 :: a14 :: a15 :: a16 :: a17 :: a18 :: a19 :: a20 :: a21 :: a22 :: s) H QS := h
theorem g_n23 {a0 a1 a2 a3 a4 a5 a6 a7 a8 a9 a10 a11 a12 a13 a14 a15 a16 a17 a18 a19 a20 a21 a22 a23 : Option V} (h : QS (a0 :: a1 :: a2 :: a3 :: a4 :: a5 :: a6 :: a7 :: a8 :: a9 :: a10 :: a11 :: a12 :: a13 :: a14 :: a15 :: a16 :: a17 :: a18 :: a19 :: a20 :: a21 :: a22 :: some v :: s) H) : gName 23 v (a0 :: a1 :: a2 :: a3 :: a4 :: a5 :: a6 :: a7 :: a8 :: a9 :: a10 :: a11 :: a12 :: a13 :: a14 :: a15 :: a16 :: a17 :: a18 :: a19 :: a20 :: a21 :: a22 :: a23 :: s) H QS := h
theorem g_n24 {a0 a1 a2 a3 a4 a5 a6 a7 a8 a9 a10 a11 a12 a13 a14 a15 a16 a17 a18 a19 a20 a21 a22 a23 a24 : Option V} (h : QS (a0 :: a1 :: a2 :: a3 :: a4 :: a5 :: a6 :: a7 :: a8 :: a9 :: a10 :: a11 :: a12 :: a13 :: a14 :: a15 :: a16 :: a17 :: a18 :: a19 :: a20 :: a21 :: a22 :: a23 :: some v :: s) H) : gName 24 v (a0 :: a1 :: a2 :: a3 :: a4 :: a5 :: a6 :: a7 :: a8 :: a9 :: a10 :: a11 :: a12 :: a13 :: a14 :: a15 :: a16 :: a17 :: a18 :: a19 :: a20 :: a21 :: a22 :: a23 :: a24 :: s) H QS := h
theorem g_n25 {a0 a1 a2 a3 a4 a5 a6 a7 a8 a9 a10 a11 a12 a13 a14 a15 a16 a17 a18 a19 a20 a21 a22 a23 a24 a25 : Option V} (h : QS (a0 :: a1 :: a2 :: a3 :: a4 :: a5 :: a6 :: a7 :: a8 :: a9 :: a10 :: a11 :: a12 :: a13 :: a14 :: a15 :: a16 :: a17 :: a18 :: a19 :: a20 :: a21 :: a22 :: a23 :: a24 :: some v :: s) H) : gName 25 v (a0 :: a1 :: a2 :: a3 :: a4 :: a5 :: a6 :: a7 :: a8 :: a9 :: a10 :: a11 :: a12 :: a13 :: a14 :: a15 :: a16 :: a17 :: a18 :: a19 :: a20 :: a21 :: a22 :: a23 :: a24 :: a25 :: s) H QS := h
end
end My
namespace My
open PySem PySem.Spec PyProof.Rows L2
/-! ### classes of the program: methods, attributes -/
def HasM (P : Program) (w : World) (K : PySem.W.Frag) (mg : Str → Option Value) (base : Heap) (k : Nat) (C m : Str) (ps : List Str) (sp : Sp) : Prop :=
  ∃ (f : Addr) (fd : FuncData), FnOk P w K mg base CX0 k f fd ps sp ∧ Meth K (clsA K C) m f ∧ Binds K fd ps []
def HasI (P : Program) (w : World) (K : PySem.W.Frag) (mg : Str → Option Value) (base : Heap) (k : Nat) (C : Str) (ps : List Str) (sp : Sp) : Prop :=
  ∃ (f : Addr) (fd : FuncData), FnOk P w K mg base CX0 k f fd ps sp ∧ Mk K (clsA K C) f ∧ mg C = some (.ref (clsA K C)) ∧ Binds K fd ps []
theorem lk_nil {k : Str} : List.lookup k ([] : List (Str × V)) = Option.none := rfl
theorem lk_hit {k : Str} {v : V} {r : List (Str × V)} : List.lookup k ((k, v) :: r) = some v := by
  show (match k == k with | true => some v | false => List.lookup k r) = some v
  rw [beq_self_eq_true]
theorem lk_miss {k j : Str} {v : V} {r : List (Str × V)} {o : Option V} (h : (k == j) = false) (e : List.lookup k r = o) : List.lookup k ((j, v) :: r) = o := by
  show (match k == j with | true => some v | false => List.lookup k r) = o
  rw [h]
  exact e
theorem pf_nil {k : Str} {v : V} : putF k v [] = [(k, v)] := rfl
theorem pf_hit {k : Str} {v x : V} {r : List (Str × V)} : putF k v ((k, x) :: r) = (k, v) :: r := by
  show (if k = k then (k, v) :: r else _) = _
  rw [if_pos rfl]
theorem pf_miss {k j : Str} {v x : V} {r s : List (Str × V)} (h : (j == k) = false) (e : putF k v r = s) : putF k v ((j, x) :: r) = (j, x) :: s := by
  show (if j = k then _ else (j, x) :: putF k v r) = _
  rw [if_neg (by simpa using h), e]
section
variable {σ : L2.St} {H : Hp} {Q : VK} {K : PySem.W.Frag} {ta tv : TE} {f : Str} {D : Ends} {tr : TA} {m : Str} {sp : Sp} {dvs : List V} {E : XK} {C p dx : Addr} {fs : List (Str × V)} {v : V} {rd : V → V → Hp → VK → Prop}
theorem g_fld (h : ta σ H fun x H1 => ∃ a C dx fs v, x = .ref a ∧ H1 a = some (.ins C dx fs) ∧ Cls K C ∧ NoAttr K C f ∧ fs.lookup f = some v ∧ Q v H1) : tFld K ta f σ H Q := h
theorem g_sfld (h : tv σ H fun y H1 => ta σ H1 fun x H2 => ∃ a C dx fs, x = .ref a ∧ H2 a = some (.ins C dx fs) ∧ Cls K C ∧ NoAttr K C f ∧ fs.length < 1000 ∧ D.nx σ (upd H2 a (.ins C dx (putF f y fs)))) : sFld K ta tv f D σ H := h
theorem g_afld (h : ta σ H fun x H1 => ∃ a C dx fs v, x = .ref a ∧ H1 a = some (.ins C dx fs) ∧ Cls K C ∧ NoAttr K C f ∧ fs.lookup f = some v ∧
  tv σ H1 fun y H2 => rd v y H2 fun z H3 => ∃ dx' fs', H3 a = some (.ins C dx' fs') ∧ fs'.length < 1000 ∧ D.nx σ (upd H3 a (.ins C dx' (putF f z fs')))) : sFldAug K ta tv rd f D σ H := h
theorem g_meth (h : ta σ H fun x H1 => ∃ a dx fs, x = .ref a ∧ H1 a = some (.ins C dx fs) ∧ fs.lookup m = Option.none ∧ tr σ H1 fun vs H2 => sp (x :: (vs ++ dvs)) H2 Q E) : tMeth C m sp dvs E ta tr σ H Q := h
theorem g_make (h : tr σ H fun vs H1 => ∀ x dx, H1 x = Option.none → H1 dx = Option.none → dx ≠ x → sp (.ref x :: (vs ++ dvs)) (upd (upd H1 dx (.own x)) x (.ins C dx [])) (fun v H2 => v = .non ∧ Q (.ref x) H2) E) : tMake C sp dvs E tr σ H Q := h
end
/-! ### t[::-1] of a tuple -/
theorem back_places (n : Nat) : Builtin.Slice.sliceAdjust Option.none Option.none (-1) (n : Int) = ((n : Int) - 1, -1) := rfl
theorem back_many (n : Nat) : Builtin.Slice.slicePlaces ((n : Int) - 1) (-1) (-1) = n := by
  unfold Builtin.Slice.slicePlaces
  rw [if_neg (by decide)]
  by_cases h : (n : Int) - 1 > -1
  · rw [if_pos h, show (-(-1) : Int) = 1 by decide, Int.ediv_one]
    omega
  · rw [if_neg h]
    omega
theorem back_items (xs : Array Value) : ((List.range xs.size).filterMap fun (k : Nat) => xs[((xs.size : Int) - 1 + (k : Int) * (-1)).toNat]?).toArray = xs.toList.reverse.toArray := by
  have e := PySem.W.krv_pick xs
  unfold slicePick at e
  rw [PySem.W.krv_bounds] at e
  have e2 : ((sliceRange ((xs.size : Int) - 1) (-1) (-1)).filterMap (xs[·]?)).toArray = xs.toList.reverse.toArray := e
  rw [PySem.W.krv_sliceRange, List.filterMap_map] at e2
  rw [← e2]
  have e3 : (fun (k : Nat) => xs[((xs.size : Int) - 1 + (k : Int) * (-1)).toNat]?) = ((xs[·]?) ∘ fun k => xs.size - 1 - k) := by
    funext k
    show xs[((xs.size : Int) - 1 + (k : Int) * (-1)).toNat]? = xs[xs.size - 1 - k]?
    congr 1
    omega
  rw [e3]
section
variable {prog : Program} {w : World} {A : Around} {E : Value → Shared → Prop} {s : Shared}
theorem applied_back {sl : Addr} {n : Nat} {t : Tok} {Q : Int × Int × Nat → Shared → Prop} (hs : s.heap.IsSliceOf sl .none .none (.int (-1) t)) (h : Q ((n : Int) - 1, -1, n) s) :
    wpAny (model prog w) A (Builtin.Slice.sliceApplied (.ref sl) (pure (n : Int))) Q E s := by
  obtain ⟨os, hos, hcs, hds⟩ := id hs
  unfold Builtin.Slice.sliceApplied Builtin.Slice.sliceFields
  refine wpAny_bind (wpAny_bind (wpAny_field hos hds (x := .none) rfl (wpAny_bind (wpAny_field hos hds (x := .none) rfl (wpAny_bind (wpAny_field hos hds (x := .int (-1) t) rfl (wpAny_pure ?_)))))))
  refine wpAny_bind (slicePart_int ?_)
  show wpAny _ _ (if ((-1 : Int) == 0) = true then _ else _) _ _ s
  rw [if_neg (by decide)]
  refine wpAny_bind (slicePart_none (wpAny_bind (slicePart_none (wpAny_bind (wpAny_pure ?_)))))
  show wpAny _ _ (match Builtin.Slice.sliceAdjust Option.none Option.none (-1) (n : Int) with | (lo, hi) => pure (lo, (-1 : Int), Builtin.Slice.slicePlaces lo hi (-1))) _ _ s
  rw [back_places]
  show wpAny _ _ (pure ((n : Int) - 1, (-1 : Int), Builtin.Slice.slicePlaces ((n : Int) - 1) (-1) (-1))) _ _ s
  rw [back_many]
  exact wpAny_pure h
theorem item_back {t sl : Addr} {items : Array Value} {tk : Tok} {Q : Value → Shared → Prop} (ht : IsTup s.heap t items) (hs : s.heap.IsSliceOf sl .none .none (.int (-1) tk)) (hsz : items.size ≤ sizeLine)
    (h : Q (.ref s.heap.objs.size) { s with heap := s.heap.push { cls := .type "tuple", data := .seq items.toList.reverse.toArray } }) : wpAny (model prog w) A (getItem (.ref t) (.ref sl)) Q E s := by
  have hz : sizeOk (.seq items.toList.reverse.toArray) := by
    show items.toList.reverse.toArray.size ≤ sizeLine
    rw [List.size_toArray, List.length_reverse, Array.length_toList]
    exact hsz
  obtain ⟨os, hos, hcs, hds⟩ := id hs
  have hTs : s.TypeIs (.ref sl) "slice" := ⟨os, hos, hcs⟩
  unfold getItem
  try with_reducible refine wpAny_holding ?_
  first | refine wpAny_bind (wpAny_pure ?_) | skip
  refine wpAny_bind (wpAny_sequenceKey ht.typeIs (by decide) ?_)
  refine wpAny_bind (wpAny_callSpecial?_slot (name := Str.ofString "__getitem__") ht.typeIs PyProof.Rows.slot_tuple_getitem (wpAny_call_entry PyProof.Rows.slot_tuple_getitem ht.typeIs entry_tuple_getitem ?_ (args_tuple_getitem _ _)))
  show wpAny _ _ (Builtin.Tuple.tupleItemsOf (.ref t) >>= _) _ _ s
  refine wpAny_bind (tupleItemsOf_ ht (wpAny_bind (wpAny_typeOf hTs ?_)))
  rw [if_pos (by decide)]
  refine wpAny_bind (applied_back hs ?_)
  show wpAny _ _ (if (((items.size : Int) - 1 == 0 && (-1 : Int) == 1 && items.size == items.size)) = true then _ else _) _ _ s
  rw [if_neg (by rw [show ((-1 : Int) == 1) = false from rfl, Bool.and_false, Bool.false_and]; exact Bool.false_ne_true), back_items]
  first
    | exact wpAny_bind (m := Builtin.Tuple.tupleExact _) (wpAny_newObj_type (wpAny_pure ⟨_, rfl, wpAny_pure h⟩) hz)
    | exact wpAny_bind (m := Builtin.Tuple.tupleExact _) (wpAny_newObj_type (wpAny_bind (wpAny_pure (wpAny_pure ⟨_, rfl, wpAny_pure h⟩))) hz)
    | exact wpAny_bind (wpAny_bind (m := Builtin.Tuple.tupleExact _) (wpAny_newObj_type (wpAny_pure (wpAny_pure ⟨_, rfl, wpAny_pure h⟩)) hz))
    | exact wpAny_bind (wpAny_bind (m := Builtin.Tuple.tupleExact _) (wpAny_newObj_type (wpAny_pure ⟨_, rfl, wpAny_pure h⟩) hz))
end
def tRevT (K : PySem.W.Frag) (te : TE) : TE := fun σ H Q => te σ H fun x H1 => ∃ a xs, x = .ref a ∧ SqT K H1 a xs ∧ ∀ p, H1 p = Option.none → Q (.ref p) (upd H1 p (.tup xs.reverse))
theorem pe_revT {X : Cx} {e : Expr} {te : TE} {k : Nat} {p1 p2 p3 pos : Pos} (he : PE X e te) : PE X (.Subscript e (.Slice Option.none Option.none (some (.UnaryOp .USub (.Constant (.int 1) k p1) p2)) p3) pos) (tRevT X.K te) := by
  refine ⟨fun pins s σ H Q I h => ?_⟩
  refine Subscript_ (thn (he.run pins s σ H _ I h) fun v s1 ⟨x, H1, I1, r1, q1⟩ => ?_)
  obtain ⟨a, xs, ex, hx, q⟩ := q1
  subst ex
  cases r1
  have hst : PO X (some (.UnaryOp .USub (.Constant (.int 1) k p1) p2)) (tPart (tUn (rU fun i => .int (-i)) (tC (.int 1)))) := po_some (pe_un un_neg pe_int)
  refine wpAny_Slice (thn (po_none.run pins s1 σ H1 (fun o H2 => o = Option.none ∧ H2 = H1) I1 ⟨rfl, rfl⟩) fun vl s2 ⟨l, H2, I2, pl, el, e2⟩ => ?_)
  subst el e2
  refine thn (po_none.run pins s2 σ H2 (fun o H3 => o = Option.none ∧ H3 = H2) I2 ⟨rfl, rfl⟩) fun vu s3 ⟨u, H3, I3, pu, eu, e3⟩ => ?_
  subst eu e3
  refine thn (hst.run pins s3 σ H3 (fun o H4 => o = some (-1) ∧ H4 = H3) I3 ⟨1, rfl, -1, rfl, rfl, rfl⟩) fun vs s4 ⟨o, H4, I4, ps, eo, e4⟩ => ?_
  subst eo e4
  have I5 : Inv X pins σ H4 { s4 with heap := s4.heap.push { cls := .type "slice", data := .fields #[vl, vu, vs] } } := I4.kept (t' := s4.toks) fun b ob q => Heap.get?_push_of_some _ q
  obtain ⟨its, r, ht, hz⟩ := I5.tuple hx
  have hlen := r.length
  cases pl
  cases pu
  cases ps with
  | int i tk =>
  show wpAny (model X.prog X.w) X.A (subscriptTail e (.Slice Option.none Option.none (some (.UnaryOp .USub (.Constant (.int 1) k p1) p2)) p3) (.ref a) (.ref s4.heap.objs.size)) (EP X pins σ Q) X.xe { s4 with heap := s4.heap.push { cls := .type "slice", data := .fields #[.none, .none, .int (-1) tk] } }
  refine tail_any (ops := [.ref a, .ref s4.heap.objs.size]) ht.typeIs PyProof.Rows.slot_tuple_getitem.lookup ?_ (by with_unfolding_all rfl)
  refine item_back ht (Heap.IsSliceOf.new _ .none .none (.int (-1) tk)) (by rw [List.size_toArray]; omega) ?_
  refine ⟨.ref _, _, I5.laid (t' := s4.toks) (o := .tup xs.reverse) (fun b ob q => Heap.get?_push_of_some _ q) (Nat.le_refl _) ?_, rfl, q _ (I5.hok.fresh (Nat.le_refl _))⟩
  exact ⟨by rw [List.length_reverse]; exact hz, its.reverse, r.reverse, IsTup.new _ _⟩
theorem g_revT {σ : L2.St} {H : Hp} {Q : VK} {K : PySem.W.Frag} {te : TE} (h : te σ H fun x H1 => ∃ a xs, x = .ref a ∧ SqT K H1 a xs ∧ ∀ p, H1 p = Option.none → Q (.ref p) (upd H1 p (.tup xs.reverse))) : tRevT K te σ H Q := h
theorem g_revL {σ : L2.St} {H : Hp} {Q : VK} {K : PySem.W.Frag} {te : TE} (h : te σ H fun x H1 => ∃ a xs, x = .ref a ∧ SqL K H1 a xs ∧ ∀ p, H1 p = Option.none → Q (.ref p) (upd H1 p (.lst xs.reverse))) : tRevL K te σ H Q := h
section
variable {σ : L2.St} {H : Hp} {Q : VK} {td ty tx tv : TE} {D : Ends} {ta : TA} {K : PySem.W.Frag} {R : It → Hp → Prop}
theorem g_din (h : ty σ H fun y H1 => td σ H1 fun x H2 => ∃ a o, x = .ref a ∧ DGet H2 a y o ∧ Q (.bl o.isSome) H2) : tDIn ty td σ H Q := h
theorem g_dnin (h : ty σ H fun y H1 => td σ H1 fun x H2 => ∃ a o, x = .ref a ∧ DGet H2 a y o ∧ Q (.bl (!o.isSome)) H2) : tDNotIn ty td σ H Q := h
theorem g_dget (h : td σ H fun x H1 => ty σ H1 fun y H2 => ∃ a v, x = .ref a ∧ DGet H2 a y (some v) ∧ Q v H2) : tDGet td ty σ H Q := h
theorem g_dget2 (h : td σ H fun x H1 => ∃ a, x = .ref a ∧ IsD H1 a ∧ ty σ H1 fun y H2 => tx σ H2 fun z H3 => ∃ o, DGet H3 a y o ∧ Q (o.getD z) H3) : tDGet2 td ty tx σ H Q := h
theorem g_dpop2 (h : td σ H fun x H1 => ∃ a, x = .ref a ∧ IsD H1 a ∧ ty σ H1 fun y H2 => tx σ H2 fun z H3 => ∃ kvs k, H3 a = some (.dK kvs) ∧ y = kV k ∧ (∀ v, valV kvs k = some v → Q v (upd H3 a (.dK (dropK kvs k)))) ∧ (valV kvs k = Option.none → Q z H3)) : tDPop2 td ty tx σ H Q := h
theorem g_dput (h : tv σ H fun v H1 => td σ H1 fun x H2 => ty σ H2 fun y H3 => ∃ a H4, x = .ref a ∧ DPut H3 a y v H4 ∧ D.nx σ H4) : sDPut td ty tv D σ H := h
theorem g_rev (h : ta σ H fun vs H1 => ∃ (a : Addr) (xs : List V), vs = [.ref a] ∧ SqL K H1 a xs ∧ R (Itv K a xs.length) H1) : iRev K ta σ H R := h
theorem g_dnew (h : ∀ p, H p = Option.none → Q (.ref p) (upd H p (.dK []))) : tDNewK σ H Q := h
end
section
variable {σ : L2.St} {H : Hp} {Q : VK} {sp : Sp} {E : L2.St → XK} {t : TA}
theorem g_callS (h : t σ H fun vs H1 => sp vs H1 Q (E σ)) : tCallS sp E t σ H Q := h
end
theorem dpAll_last {K : PySem.W.Frag} {H : Hp} : ∀ {l : List PyData} {xs : List V} {d : PyData}, DpAll K H xs (l ++ [d]) → ∃ ys v, xs = ys ++ [v] ∧ DpAll K H ys l ∧ Dp K H v d
  | [], _, d, h => by
    have h' : DpAll K H _ [d] := h
    cases h' with
    | cons a b => cases b; exact ⟨[], _, rfl, .nil, a⟩
  | e :: l, _, d, h => by
    have h' : DpAll K H _ (e :: (l ++ [d])) := h
    cases h' with
    | cons a b =>
      obtain ⟨ys, v, rfl, h1, h2⟩ := dpAll_last b
      exact ⟨_ :: ys, v, rfl, .cons a h1, h2⟩
theorem last_at {ys : List V} {v : V} : (ys ++ [v])[(ys ++ [v]).length - 1]? = some v := by simp
theorem dpAll_rev {K : PySem.W.Frag} {H : Hp} : ∀ {xs : List V} {ds : List PyData}, DpAll K H xs ds → DpAll K H xs.reverse ds.reverse
  | _, _, .nil => .nil
  | _, _, .cons a b => by
    rw [List.reverse_cons, List.reverse_cons]
    exact dpAll_end (dpAll_rev b) a
theorem nL_app {a b : List PyData} : nLs (a ++ b) = (nLs a && nLs b) := by
  induction a with
  | nil => simp [nLs]
  | cons d a ih => simp only [List.cons_append, nLs, ih, Bool.and_assoc]
theorem nL_rev {a : List PyData} (h : nLs a = true) : nLs a.reverse = true := nLs_of fun d hd => nLs_mem h d (List.mem_reverse.mp hd)
theorem valV_dropK (kvs : List (Key × V)) (k j : Key) : valV (dropK kvs k) j = if j = k then Option.none else valV kvs j := by
  induction kvs with
  | nil => simp [dropK, valV_nil]
  | cons p r ih =>
    unfold dropK at ih ⊢
    rw [List.filter_cons]
    by_cases e : p.1 = k
    · rw [if_neg (by simp [e]), ih]
      by_cases z : j = k
      · rw [if_pos z, if_pos z]
      · rw [if_neg z, if_neg z, valV_neg (by rw [e]; exact fun w => z w.symm)]
    · rw [if_pos (by simp [e])]
      by_cases f : p.1 = j
      · rw [valV_pos f, valV_pos f, if_neg (by rw [← f]; exact e)]
      · rw [valV_neg f, valV_neg f, ih]
end My
namespace My
open PySem PySem.Spec PyProof.Rows L2
open PySem.AutoSeq1 (wpAny_loadPart')
/-! ### a dict and a str are not equal -/
theorem str_eq_declines_dict (b : Str) (u : Tok) (l : Addr) (dd : Option Addr) (en : Array DictEntry) (ep : Nat) (sl : Array (Option Value)) :
    Meets (Builtin.«str.__eq__» ⟨[.str b u, .ref l], []⟩) (fun _ R s => s.heap.get? l = some { cls := .type "dict", dict := dd, data := .dict en ep, slots := sl } ∧ R (.ok (.ret .notImplemented)) s) :=
  .of_wp fun prog w A R s h => by obtain ⟨hp, g, d, tk, os⟩ := s; obtain ⟨hl, h⟩ := h; wp_walk using wpAny_loadPart' hl, wpAny_load hl; exact ⟨_, rfl, h⟩
section
variable {prog : Program} {w : World} {A : Around} {E : Value → Shared → Prop} {s : Shared}
theorem eq_dict_str {a : Addr} {dd : Option Addr} {en : Array DictEntry} {ep : Nat} {sl : Array (Option Value)} {b : Str} {u : Tok} (ho : s.heap.get? a = some { cls := .type "dict", dict := dd, data := .dict en ep, slots := sl }) (hu : A.units < cLine) {Q : Value → Shared → Prop} (h : Q (.bool false) s) : wpAny (model prog w) A (richCompare .Eq (.ref a) (.str b u)) Q E s := by
  have ti : s.TypeIs (.ref a) "dict" := ⟨_, ho, rfl⟩
  refine SeqAt.rc_eq_decline_or (k := false) ti (typeIs_str s b u) (by decide) F.sub_str_dict F.slot_dict_eq F.slot_str_eq_refl (fun Q' hq => ?_) (fun Q' hq => ?_) (fun _ hq => wpAny_of_eq (rfl : isSame (.ref a) (.str b u) = pure false) hq) (.inr hu) h
  · refine wpAny_call_entry PySem.F.slot_dict_eq ti PySem.F.entry_dict_eq ?_ (PySem.F.args_dict_eq_2 _ _)
    show wpAny _ _ (Builtin.Dict.dictSlotArgs "__eq__" ⟨[.ref a, .str b u], []⟩ >>= _) _ _ s
    refine wpAny_bind ?_
    unfold Builtin.Dict.dictSlotArgs
    refine wpAny_bind (wpAny_notOrdered_dict ti ?_)
    show wpAny _ _ (pure (Value.ref a, Value.str b u)) _ _ s
    refine wpAny_pure ?_
    refine wpAny_bind (wpAny_isInstance (T := "str") (typeIs_str s b u) PySem.F.sub_str_dict ?_)
    simp only [Bool.not_false, if_true]
    exact wpAny_bind (wpAny_rule (wpAny_pure ⟨_, rfl, hq⟩))
  · exact call_meets F.slot_str_eq_refl (typeIs_str s b u) F.entry_str_eq (F.args_str_eq_2 _ _) (str_eq_declines_dict b u a dd en ep sl) ⟨ho, hq⟩
end
section
variable {X : Cx}
/-- x == y of scalars, or of a dict and a str -/
def rEqX : R2 := fun x y H Q => (scal x y = true ∧ Q (.bl (decide (x = y))) H) ∨ (∃ a kvs t, x = .ref a ∧ y = .str t ∧ H a = some (.dK kvs) ∧ Q (.bl false) H)
theorem op_eqX (hu : X.A.units < cLine) : OpR X (compareOp .Eq) rEqX := by
  intro pins s σ H x y v u Q I rx ry h
  rcases h with h | ⟨a, kvs, t, rfl, rfl, ea, q⟩
  · exact op_eq pins s σ H x y v u Q I rx ry h
  · obtain rfl : v = Value.ref a := rx
    obtain ⟨tk, rfl⟩ := ry
    obtain ⟨_, _, va, _, ⟨cls, dd, data, sl⟩, es, ep, ho, hx, hd, _⟩ := (show ObjOk X.prog X.w H s.heap a (.dK kvs) from I.hok a _ ea)
    simp only at hd
    subst hd
    obtain rfl : cls = .type "dict" := hx.1
    exact eq_dict_str ho hu (fin_bl I q rfl)
end
end My
namespace My
open PySem PySem.Spec PyProof.Rows L2
open PySem.AutoSeq1 (wpAny_loadPart')
open PySem.SeqAt (EqP)
open PySem.MeetsSeq PySem.MeetsSeq2 PySem.MeetsSeq3
/-! ### equal values, dicts among them -/
section
variable {P : Program} {w : World}
theorem tupEqT (a b : Addr) (us vs : Array Value) (n k : Nat) (da db : Option Addr) (sa sb : Array (Option Value)) (hz : us.size = vs.size) (ne : Bool) :
    MeetsIn P w ((if ne then Builtin.«tuple.__ne__» else Builtin.«tuple.__eq__») ⟨[.ref a, .ref b], []⟩) (fun A R s =>
      s.heap.get? a = some { cls := .type "tuple", dict := da, data := .seq us n, slots := sa } ∧ s.heap.get? b = some { cls := .type "tuple", dict := db, data := .seq vs k, slots := sb } ∧
      (∀ j (h1 : j < us.size) (h2 : j < vs.size), EqP P w A.in1 s us[j] vs[j] true) ∧ R (.ok (.ret (.bool (!ne)))) s) := by
  intro A R s h
  obtain ⟨hp, g, d, tk, os⟩ := s
  obtain ⟨ea, eb, he, q⟩ := h
  have i2 := AutoSeq1.sub_tuple_tuple
  have hl : (us.toList.zip vs.toList).length = us.size := by simp [hz]
  cases ne with
  | false =>
    show wpAny _ _ (Builtin.«tuple.__eq__» ⟨[.ref a, .ref b], []⟩) _ _ _
    wp_walk using wpAny_loadPart' ea, wpAny_loadPart' eb, wpAny_forIn_list _ (fun r c t => c.1 = none ∧ t = ⟨hp, g, d, tk, os⟩ ∧ ∃ i, r = (us.toList.zip vs.toList).drop i) _
    case turn =>
      rintro ⟨y, x⟩ r c t ⟨hc, rfl, i, hi⟩
      have lt : i < (us.toList.zip vs.toList).length := Nat.lt_of_not_le fun z => by rw [List.drop_of_length_le z] at hi; cases hi
      have l1 : i < us.size := by omega
      have l2 : i < vs.size := by omega
      rw [List.drop_eq_getElem_cons lt] at hi
      injection hi with e1 e2
      have ey : y = us[i] := by simpa using congrArg Prod.fst e1
      have ex : x = vs[i] := by simpa using congrArg Prod.snd e1
      subst ey ex
      refine wpAny_bind (he i l1 l2 _ _ ?_)
      wp_walk
      exact ⟨rfl, rfl, i + 1, e2⟩
    case fin =>
      rintro ⟨c1, c2⟩ t ⟨hc, rfl, i, hi⟩
      simp only at hc
      subst hc
      wp_walk
      simpa [Builtin.Tuple.tupleCompareSizes, hz] using q
    case h => exact ⟨rfl, rfl, 0, rfl⟩
  | true =>
    show wpAny _ _ (Builtin.«tuple.__ne__» ⟨[.ref a, .ref b], []⟩) _ _ _
    wp_walk using wpAny_loadPart' ea, wpAny_loadPart' eb, wpAny_forIn_list _ (fun r c t => c.1 = none ∧ t = ⟨hp, g, d, tk, os⟩ ∧ ∃ i, r = (us.toList.zip vs.toList).drop i) _
    case turn =>
      rintro ⟨y, x⟩ r c t ⟨hc, rfl, i, hi⟩
      have lt : i < (us.toList.zip vs.toList).length := Nat.lt_of_not_le fun z => by rw [List.drop_of_length_le z] at hi; cases hi
      have l1 : i < us.size := by omega
      have l2 : i < vs.size := by omega
      rw [List.drop_eq_getElem_cons lt] at hi
      injection hi with e1 e2
      have ey : y = us[i] := by simpa using congrArg Prod.fst e1
      have ex : x = vs[i] := by simpa using congrArg Prod.snd e1
      subst ey ex
      refine wpAny_bind (he i l1 l2 _ _ ?_)
      wp_walk
      exact ⟨rfl, rfl, i + 1, e2⟩
    case fin =>
      rintro ⟨c1, c2⟩ t ⟨hc, rfl, i, hi⟩
      simp only at hc
      subst hc
      wp_walk
      simpa [Builtin.Tuple.tupleCompareSizes, hz, bne] using q
    case h => exact ⟨rfl, rfl, 0, rfl⟩
theorem lstNeLoop (a b : Addr) (us vs : Array Value) (n k : Nat) (da db : Option Addr) (sa sb : Array (Option Value)) (hz : us.size = vs.size) (m : Nat) :
    ∀ i : Nat, us.size - i = m → MeetsIn P w (Builtin.«list.__eq__.loop» ⟨[.ref a, .ref b, rawInt i, rawInt 3], []⟩) (fun A R s =>
      s.heap.get? a = some { cls := .type "list", dict := da, data := .seq us n, slots := sa } ∧ s.heap.get? b = some { cls := .type "list", dict := db, data := .seq vs k, slots := sb } ∧
      (∀ j (h1 : j < us.size) (h2 : j < vs.size), EqP P w A.in1 s us[j] vs[j] true) ∧ R (.ok (.ret (.bool false))) s) := by
  induction m with
  | zero =>
    intro i hk A R s h
    obtain ⟨hp, g, d, tk, os⟩ := s
    obtain ⟨ea, eb, he, q⟩ := h
    wp_walk using wpAny_loadPart' ea, wpAny_loadPart' eb
    have o1 : us[((i : Nat) : Int).toNat]? = none := by simp; omega
    have o2 : vs[((i : Nat) : Int).toNat]? = none := by simp; omega
    rw [o1, o2]
    wp_walk using wpAny_loadPart' ea, wpAny_loadPart' eb
    show R (.ok (.ret (.bool (us.size != vs.size)))) _
    rw [hz]
    simpa using q
  | succ m ih =>
    intro i hk A R s h
    obtain ⟨hp, g, d, tk, os⟩ := s
    obtain ⟨ea, eb, he, q⟩ := h
    wp_walk using wpAny_loadPart' ea, wpAny_loadPart' eb
    have l1 : i < us.size := by omega
    have l2 : i < vs.size := by omega
    have o1 : us[((i : Nat) : Int).toNat]? = some us[i] := by simp [l1]
    have o2 : vs[((i : Nat) : Int).toNat]? = some vs[i] := by simp [l2]
    have up : ((i : Int) + 1) = ((i + 1 : Nat) : Int) := by push_cast; rfl
    rw [o1, o2]
    refine wpAny_bind (he i l1 l2 _ _ ?_)
    wp_walk
    rw [up]
    refine ⟨plainId_quiet plain_eq_loop _, codeAny_builtin entry_eq_loop ?_⟩
    rw [Around.under_plainId plain_eq_loop _]
    exact ih (i + 1) (by omega) A R _ ⟨ea, eb, he, q⟩
theorem lstNe (a b : Addr) (us vs : Array Value) (n k : Nat) (da db : Option Addr) (sa sb : Array (Option Value)) (hz : us.size = vs.size) :
    MeetsIn P w (Builtin.«list.__ne__» ⟨[.ref a, .ref b], []⟩) (fun A R s =>
      s.heap.get? a = some { cls := .type "list", dict := da, data := .seq us n, slots := sa } ∧ s.heap.get? b = some { cls := .type "list", dict := db, data := .seq vs k, slots := sb } ∧
      (∀ j (h1 : j < us.size) (h2 : j < vs.size), EqP P w A.in1 s us[j] vs[j] true) ∧ R (.ok (.ret (.bool false))) s) := by
  intro A R s h
  obtain ⟨hp, g, d, tk, os⟩ := s
  obtain ⟨ea, eb, he, q⟩ := h
  have i3 := AutoSeq1.sub_list_list
  have nz : ¬ (us.size != vs.size) = true := by simp [hz]
  wp_walk using wpAny_loadPart' ea, wpAny_loadPart' eb
  refine ⟨plainId_quiet plain_eq_loop _, codeAny_builtin entry_eq_loop ?_⟩
  rw [Around.under_plainId plain_eq_loop _]
  exact lstNeLoop a b us vs n k da db sa sb hz _ 0 rfl A R _ ⟨ea, eb, he, q⟩
theorem rcTup {A : Around} {s : Shared} {a b : Addr} {us vs : Array Value} (ha : IsTup s.heap a us) (hb : IsTup s.heap b vs) (hz : us.size = vs.size) (hu : A.units < cLine)
    (he : ∀ j (h1 : j < us.size) (h2 : j < vs.size), EqP P w A.in1 s us[j] vs[j] true) (E Q : Value → Shared → Prop) (q : Q (.bool true) s) : wpAny (model P w) A (richCompare .Eq (.ref a) (.ref b)) Q E s := by
  obtain ⟨⟨c1, da, d1, sa⟩, e1, k1, n, f1⟩ := ha
  obtain ⟨⟨c2, db, d2, sb⟩, e2, k2, k, f2⟩ := hb
  simp only at k1 f1 k2 f2
  subst k1 f1 k2 f2
  have ta : s.TypeIs (.ref a) "tuple" := ⟨_, e1, rfl⟩
  have tb : s.TypeIs (.ref b) "tuple" := ⟨_, e2, rfl⟩
  exact wpAny_richCompare_same_room (op := .Eq) ta tb F.slot_tuple_eq (call_meetsIn F.slot_tuple_eq ta F.entry_tuple_eq (F.args_tuple_eq_2 _ _) (tupEqT a b us vs n k da db sa sb hz false)
    ⟨e1, e2, he, show Value.bool true ≠ Value.notImplemented ∧ Q (.bool true) s from ⟨(fun x => nomatch x), q⟩⟩) hu
theorem rcTupNe {A : Around} {s : Shared} {a b : Addr} {us vs : Array Value} (ha : IsTup s.heap a us) (hb : IsTup s.heap b vs) (hz : us.size = vs.size) (hu : A.units < cLine)
    (he : ∀ j (h1 : j < us.size) (h2 : j < vs.size), EqP P w A.in1 s us[j] vs[j] true) (E Q : Value → Shared → Prop) (q : Q (.bool false) s) : wpAny (model P w) A (richCompare .NotEq (.ref a) (.ref b)) Q E s := by
  obtain ⟨⟨c1, da, d1, sa⟩, e1, k1, n, f1⟩ := ha
  obtain ⟨⟨c2, db, d2, sb⟩, e2, k2, k, f2⟩ := hb
  simp only at k1 f1 k2 f2
  subst k1 f1 k2 f2
  have ta : s.TypeIs (.ref a) "tuple" := ⟨_, e1, rfl⟩
  have tb : s.TypeIs (.ref b) "tuple" := ⟨_, e2, rfl⟩
  exact wpAny_richCompare_same_room (op := .NotEq) ta tb F.slot_tuple_ne (call_meetsIn F.slot_tuple_ne ta F.entry_tuple_ne (F.args_tuple_ne_2 _ _) (tupEqT a b us vs n k da db sa sb hz true)
    ⟨e1, e2, he, show Value.bool false ≠ Value.notImplemented ∧ Q (.bool false) s from ⟨(fun x => nomatch x), q⟩⟩) hu
theorem rcLstNe {A : Around} {s : Shared} {a b : Addr} {us vs : Array Value} (ha : s.heap.IsList a us) (hb : s.heap.IsList b vs) (hz : us.size = vs.size) (hu : A.units < cLine)
    (he : ∀ j (h1 : j < us.size) (h2 : j < vs.size), EqP P w A.in1 s us[j] vs[j] true) (E Q : Value → Shared → Prop) (q : Q (.bool false) s) : wpAny (model P w) A (richCompare .NotEq (.ref a) (.ref b)) Q E s := by
  obtain ⟨⟨c1, da, d1, sa⟩, e1, k1, n, f1⟩ := ha
  obtain ⟨⟨c2, db, d2, sb⟩, e2, k2, k, f2⟩ := hb
  simp only at k1 f1 k2 f2
  subst k1 f1 k2 f2
  have ta : s.TypeIs (.ref a) "list" := ⟨_, e1, rfl⟩
  have tb : s.TypeIs (.ref b) "list" := ⟨_, e2, rfl⟩
  exact wpAny_richCompare_same_room (op := .NotEq) ta tb F.slot_list_ne (call_meetsIn F.slot_list_ne ta F.entry_list_ne (F.args_list_ne_2 _ _) (lstNe a b us vs n k da db sa sb hz)
    ⟨e1, e2, he, show Value.bool false ≠ Value.notImplemented ∧ Q (.bool false) s from ⟨(fun x => nomatch x), q⟩⟩) hu
theorem rcDictNe {K : Type} [DecidableEq K] {knd : KeyKind P w K} {A : Around} {s : Shared} {a b : Addr} {ka kb : List (K × Value)} (ha : (a == sysModules) = false) (hb : (b == sysModules) = false)
    (da : s.heap.DictOf knd a ka) (db : s.heap.DictOf knd b kb) (hl : ka.length = kb.length) (hu : A.units < cLine) (hits : PySem.W.KeqHitsP P w A.in1 s kb ka true) (E Q : Value → Shared → Prop) (q : Q (.bool false) s) :
    wpAny (model P w) A (richCompare .NotEq (.ref a) (.ref b)) Q E s := by
  have e1 : (ka.length == kb.length && true) = true := by rw [hl]; simp
  refine wpAny_richCompare_same_room (op := .NotEq) da.typeIs db.typeIs PySem.F.slot_dict_ne (wpAny_call_entry PySem.F.slot_dict_ne da.typeIs PySem.F.entry_dict_ne ?_ (PySem.F.args_dict_ne_2 _ _)) hu
  show wpAny _ _ (Builtin.Dict.dictSlotArgs "__ne__" ⟨[.ref a, .ref b], []⟩ >>= _) _ _ s
  refine wpAny_bind ?_
  unfold Builtin.Dict.dictSlotArgs
  refine wpAny_bind (wpAny_notOrdered_dict da.typeIs ?_)
  show wpAny _ _ (pure (Value.ref a, Value.ref b)) _ _ s
  refine wpAny_pure ?_
  refine wpAny_bind (wpAny_isInstance (T := "dict") db.typeIs PySem.F.sub_dict_dict ?_)
  simp only [Bool.not_true, Bool.false_eq_true, if_false]
  refine wpAny_bind (wpAny_pure (wpAny_bind (wpAny_pure ?_)))
  refine wpAny_bind (PySem.W.samePairsP ha hb da db (fun _ => hits) ?_)
  refine wpAny_pure ⟨_, rfl, ?_, ?_⟩
  · exact fun x => nomatch x
  · rw [e1]
    exact q
end
/-- two lists of equal items, two tuples of such, two dicts of the same keys -/
def EqS (K : PySem.W.Frag) (H : Hp) (E : V → V → Prop) (x y : V) : Prop := EqR K H E x y ∨ ∃ a b xs ys, x = .ref a ∧ y = .ref b ∧ SqT K H a xs ∧ SqT K H b ys ∧ Paired E xs ys
/-- equal, of nesting below n: data, one object, or such ones -/
def EqW (K : PySem.W.Frag) (H : Hp) : Nat → V → V → Prop
  | 0 => fun _ _ => False
  | n + 1 => fun x y => (∃ d e, Dp K H x d ∧ Dp K H y e ∧ SeqAt.shaped d = true ∧ SeqAt.shaped e = true ∧ PyData.eqv d e = true) ∨ (∃ a, x = .ref a ∧ y = .ref a) ∨ EqS K H (EqW K H n) x y
section
variable {X : Cx} {pins : List (Addr × Obj)} {σ : L2.St} {H : Hp} {s : Shared}
theorem eqS_run (I : Inv X pins σ H s) {A : Around} {F : V → V → Prop} (hu : A.units < cLine) (ih : ∀ x y v u, F x y → RelV x v → RelV y u → EqP X.prog X.w A.in1 s v u true) {x y : V} {v u : Value} (h : EqS X.K H F x y) (rx : RelV x v) (ry : RelV y u)
    (E Q : Value → Shared → Prop) (q : Q (.bool true) s) : wpAny (model X.prog X.w) A (richCompare .Eq v u) Q E s := by
  rcases h with h | ⟨a, b, xs, ys, rfl, rfl, ha, hb, hp⟩
  · exact eqR_run I hu ih h rx ry E Q q
  · cases (show v = Value.ref a from rx)
    cases (show u = Value.ref b from ry)
    obtain ⟨us, r1, p1, _⟩ := I.tuple ha
    obtain ⟨ws, r2, p2, _⟩ := I.tuple hb
    have hz : us.toArray.size = ws.toArray.size := by
      rw [List.size_toArray, List.size_toArray, ← r1.length, ← r2.length]
      exact Paired.length hp
    refine rcTup p1 p2 hz hu (fun j h1 h2 => ?_) E Q q
    have k := items_run ih hp r1 r2 j (by simpa using h1) (by simpa using h2)
    simpa using k
theorem neS_run (I : Inv X pins σ H s) {A : Around} {F : V → V → Prop} (hu : A.units < cLine) (ih : ∀ x y v u, F x y → RelV x v → RelV y u → EqP X.prog X.w A.in1 s v u true) {x y : V} {v u : Value} (h : EqS X.K H F x y) (rx : RelV x v) (ry : RelV y u)
    (E Q : Value → Shared → Prop) (q : Q (.bool false) s) : wpAny (model X.prog X.w) A (richCompare .NotEq v u) Q E s := by
  rcases h with (⟨a, b, xs, ys, rfl, rfl, ha, hb, hp⟩ | ⟨a, b, ks, ls, rfl, rfl, ha, hb, hl, hp⟩) | ⟨a, b, xs, ys, rfl, rfl, ha, hb, hp⟩
  · cases (show v = Value.ref a from rx)
    cases (show u = Value.ref b from ry)
    obtain ⟨us, r1, p1, _⟩ := I.list ha
    obtain ⟨ws, r2, p2, _⟩ := I.list hb
    have hz : us.toArray.size = ws.toArray.size := by
      rw [List.size_toArray, List.size_toArray, ← r1.length, ← r2.length]
      exact Paired.length hp
    refine rcLstNe p1.isList p2.isList hz hu (fun j h1 h2 => ?_) E Q q
    have k := items_run ih hp r1 r2 j (by simpa using h1) (by simpa using h2)
    simpa using k
  · cases (show v = Value.ref a from rx)
    cases (show u = Value.ref b from ry)
    obtain ⟨_, ya, va, ra, da⟩ := (show ObjOk X.prog X.w H s.heap a (.dK ks) from I.hok a _ ha)
    obtain ⟨_, yb, vb, rb, db⟩ := (show ObjOk X.prog X.w H s.heap b (.dK ls) from I.hok b _ hb)
    exact rcDictNe (knd := mixKind X.prog X.w) ya yb da db (by rw [← ra.length, ← rb.length]; exact hl) hu (hits_run ih rb ra hp) E Q q
  · cases (show v = Value.ref a from rx)
    cases (show u = Value.ref b from ry)
    obtain ⟨us, r1, p1, _⟩ := I.tuple ha
    obtain ⟨ws, r2, p2, _⟩ := I.tuple hb
    have hz : us.toArray.size = ws.toArray.size := by
      rw [List.size_toArray, List.size_toArray, ← r1.length, ← r2.length]
      exact Paired.length hp
    refine rcTupNe p1 p2 hz hu (fun j h1 h2 => ?_) E Q q
    have k := items_run ih hp r1 r2 j (by simpa using h1) (by simpa using h2)
    simpa using k
theorem eqW_run (I : Inv X pins σ H s) : ∀ (n : Nat) (A : Around), A.units + n + 64 < cLine → ∀ (x y : V) (v u : Value), EqW X.K H n x y → RelV x v → RelV y u → EqP X.prog X.w A s v u true
  | 0, _, _, _, _, _, _, h, _, _ => (show False from h).elim
  | n + 1, A, hu, x, y, v, u, h, rx, ry => by
    rcases h with ⟨d, e, hd, he, sd, se, q⟩ | ⟨a, rfl, rfl⟩ | h
    · obtain ⟨as, r1⟩ := Dp.reads I d x v hd rx
      obtain ⟨bs, r2⟩ := Dp.reads I e y u he ry
      have k := SeqAt.eqAt_reads d e A s v u as bs r1 r2 (SeqAt.canLay_of_shaped sd) (SeqAt.canLay_of_shaped se) (SeqAt.room_of_shaped sd (by omega))
      rw [q] at k
      exact SeqAt.EqAt.eqP k
    · cases (show v = Value.ref a from rx)
      cases (show u = Value.ref a from ry)
      exact (SeqAt.EqAt.same _).eqP
    · have step := eqS_run I (A := A) (by omega) (eqW_run I n A.in1 (by show A.units + 1 + n + 64 < cLine; omega)) h rx ry
      obtain ⟨a, b, rfl, rfl⟩ : ∃ a b, x = .ref a ∧ y = .ref b := by
        rcases h with (⟨a, b, _, _, e1, e2, _⟩ | ⟨a, b, _, _, e1, e2, _⟩) | ⟨a, b, _, _, e1, e2, _⟩ <;> exact ⟨a, b, e1, e2⟩
      cases (show v = Value.ref a from rx)
      cases (show u = Value.ref b from ry)
      by_cases e : a = b
      · subst e
        exact (SeqAt.EqAt.same _).eqP
      · exact SeqAt.eqP_refs e step
end
section
variable {X : Cx}
def rEqW (K : PySem.W.Frag) : R2 := fun x y H Q => ∃ n, n ≤ 60 ∧ EqS K H (EqW K H n) x y ∧ Q (.bl true) H
def rNeW (K : PySem.W.Frag) : R2 := fun x y H Q => ∃ n, n ≤ 60 ∧ EqS K H (EqW K H n) x y ∧ Q (.bl false) H
theorem op_eqW (hu : X.A.units + 150 < cLine) : OpR X (compareOp .Eq) (rEqW X.K) := by
  intro pins s σ H x y v u Q I rx ry h
  obtain ⟨n, hn, h, q⟩ := h
  exact eqS_run I (A := X.A) (by omega) (eqW_run I n X.A.in1 (by show X.A.units + 1 + n + 64 < cLine; omega)) h rx ry _ _ ⟨.bl true, H, I, rfl, q⟩
theorem op_neW (hu : X.A.units + 150 < cLine) : OpR X (compareOp .NotEq) (rNeW X.K) := by
  intro pins s σ H x y v u Q I rx ry h
  obtain ⟨n, hn, h, q⟩ := h
  exact neS_run I (A := X.A) (by omega) (eqW_run I n X.A.in1 (by show X.A.units + 1 + n + 64 < cLine; omega)) h rx ry _ _ ⟨.bl false, H, I, rfl, q⟩
end
theorem units150 {k : Nat} {A : Around} (r : Room k A) : A.units + 150 < cLine := by
  have := r.un
  omega
end My
namespace My
open PySem PySem.Spec PyProof.Rows L2
/-! ### max of ints with a default; two rules for one place; what is never run -/
theorem holdAll_ints {h : Heap} : ∀ {ns : List Int} {us : List Value}, Vals (ns.map V.int) us → PySem.W.HoldAll h us ns
  | [], _, r => by
    cases r
    exact ⟨_, ReadsAll.nil⟩
  | n :: ns, _, r => by
    cases r with
    | cons r1 r2 =>
      obtain ⟨as, q⟩ := holdAll_ints (h := h) r2
      obtain ⟨t, rfl⟩ := r1
      exact ⟨_, ReadsAll.cons (Reads.int n t) q⟩
theorem maxOf_int : ∀ (xs : List Int) (x : Int), PySem.W.maxOf x xs ∈ x :: xs ∧ ∀ y ∈ x :: xs, y ≤ PySem.W.maxOf x xs
  | [], x => ⟨.head _, fun y hy => by rw [List.mem_singleton.mp hy]; exact Int.le_refl _⟩
  | z :: xs, x => by
    have e : PySem.W.maxOf x (z :: xs) = PySem.W.maxOf (if PySem.W.DatumOrd.lt x z = true then z else x) xs := rfl
    have lt : PySem.W.DatumOrd.lt x z = decide (x < z) := rfl
    rw [e, lt]
    by_cases c : x < z
    · rw [decide_eq_true c, if_pos rfl]
      obtain ⟨h1, h2⟩ := maxOf_int xs z
      refine ⟨List.mem_cons_of_mem _ h1, fun y hy => ?_⟩
      rcases List.mem_cons.mp hy with rfl | hy
      · have := h2 z (.head _)
        omega
      · exact h2 y hy
    · rw [decide_eq_false c, if_neg Bool.false_ne_true]
      obtain ⟨h1, h2⟩ := maxOf_int xs x
      refine ⟨?_, fun y hy => ?_⟩
      · rcases List.mem_cons.mp h1 with h1 | h1
        · rw [h1]; exact .head _
        · exact .tail _ (.tail _ h1)
      · rcases List.mem_cons.mp hy with rfl | hy
        · exact h2 y (.head _)
        · rcases List.mem_cons.mp hy with rfl | hy
          · have := h2 x (.head _)
            omega
          · exact h2 y (.tail _ hy)
def rMaxD0 (K : PySem.W.Frag) : List V → List V → Hp → VK → Prop := fun xs zs H Q => ∃ (a : Addr) (ns : List Int) (d : V), xs = [.ref a] ∧ zs = [d] ∧ SqL K H a (ns.map V.int) ∧ (ns = [] → Q d H) ∧ ∀ m, m ∈ ns → (∀ y ∈ ns, y ≤ m) → Q (.int m) H
theorem cr_maxD0 {X : Cx} (hc : X.calm = true) (hu : X.A.units + 150 < cLine) : CallRK X (.builtin "max") ["default"] (rMaxD0 X.K) := by
  intro pins s σ H xs zs us ws Q I r rk h
  obtain ⟨a, ns, d, rfl, rfl, hs, q0, q1⟩ := h
  obtain ⟨its, rv, hl, _⟩ := I.list hs
  rw [Vals.ref1 r]
  obtain ⟨u, rfl, ru⟩ := rk.one
  refine PySem.W.max_list_datum_default (α := Int) (I.ok.hd hc) hl.isList (holdAll_ints rv) (by show X.A.units + 1 + 0 < cLine; omega) (fun e h' tk hk => ⟨d, H, I.kept hk, ru, q0 e⟩) fun y ys i v h' tk e hv hh hk => ?_
  obtain ⟨as, hr⟩ := hh
  subst e
  obtain ⟨m1, m2⟩ := maxOf_int ys y
  have hr' : Reads h' v (.int (PySem.W.maxOf y ys)) as := hr
  cases hr' with
  | int _ t => exact ⟨.int _, H, I.kept hk, ⟨_, rfl⟩, q1 _ m1 m2⟩
theorem pi_or {X : Cx} {tg e : Expr} {t u : TI} (h1 : PI X tg e t) (h2 : PI X tg e u) : PI X tg e (fun σ H R => t σ H R ∨ u σ H R) := ⟨fun pins s σ H R I h => h.elim (fun h => h1.run pins s σ H R I h) fun h => h2.run pins s σ H R I h⟩
theorem pe_or2 {X : Cx} {e : Expr} {t u : TE} (h1 : PE X e t) (h2 : PE X e u) : PE X e (fun σ H Q => t σ H Q ∨ u σ H Q) := ⟨fun pins s σ H Q I h => h.elim (fun h => h1.run pins s σ H Q I h) fun h => h2.run pins s σ H Q I h⟩
theorem op_or {X : Cx} {f : Value → Value → Sem Value} {r q : R2} (h1 : OpR X f r) (h2 : OpR X f q) : OpR X f (fun x y H Q => r x y H Q ∨ q x y H Q) := fun pins s σ H x y v u Q I rx ry h => h.elim (fun h => h1 pins s σ H x y v u Q I rx ry h) fun h => h2 pins s σ H x y v u Q I rx ry h
theorem ps_never {X : Cx} {st : Stmt} : PS X st (fun _ _ _ => False) := ⟨fun pins s σ H D I h => h.elim⟩
theorem pe_never {X : Cx} {e : Expr} : PE X e (fun _ _ _ => False) := ⟨fun pins s σ H Q I h => h.elim⟩
theorem pss_never {X : Cx} {b : List Stmt} : PSs X b (fun _ _ _ => False) := ⟨fun pins s σ H D I h => h.elim⟩
theorem g_star {σ : L2.St} {H : Hp} {K : PySem.W.Frag} {te : TE} {t : TA} {Q : List V → Hp → Prop} (h : te σ H fun y H1 => ∃ a xs, y = .ref a ∧ (SqT K H1 a xs ∨ SqL K H1 a xs) ∧ t σ H1 fun vs H2 => Q (xs ++ vs) H2) : StX.tStar K te t σ H Q := h
end My
namespace My
open PySem PySem.Spec PyProof.Rows L2 SkE
/-! ### methods that raise, and a method that is called with a star -/
def HasMX (P : Program) (w : World) (K : PySem.W.Frag) (mg : Str → Option Value) (base : Heap) (k : Nat) (C m : Str) (ps : List Str) (sp : Sp) : Prop :=
  ∃ f fd, FnOk P w K mg base (L2.CX P w) k f fd ps sp ∧ Meth K (clsA K C) m f ∧ Binds K fd ps []
theorem passE {X : Cx} {E : XK} (tk : Takes X (fun cls d _ H => E cls d H)) : Passes (L2.CX X.prog X.w) X E := passes_call tk fun _ _ _ _ h => h
/-- a method that is also called with a star -/
def HasMB (P : Program) (w : World) (K : PySem.W.Frag) (mg : Str → Option Value) (base : Heap) (k : Nat) (C m : Str) (ps : List Str) (sp : Sp) : Prop :=
  ∃ f fd, FnOk P w K mg base CX0 k f fd ps sp ∧ BMeth K (clsA K C) m f ∧ Binds K fd ps []
theorem raw0 {P : Program} {w : World} {K : PySem.W.Frag} {mg : Str → Option Value} {base : Heap} {CX : CXT} {k : Nat} {f : Addr} {sp : Sp} {fd : FuncData} {ps : List Str} (F : FnOk P w K mg base CX k f fd ps sp) (hb : Binds K fd ps []) : FnR P w K mg base CX k f sp :=
  (F.raw hb .nil).imp fun vs H Q E h => by rw [List.append_nil]; exact h
theorem g_methSB {σ : L2.St} {H : Hp} {Q : VK} {K : PySem.W.Frag} {C : Addr} {m : Str} {g : Addr} {sp : Sp} {E : XK} {ta t1 t2 : TE} (h : ta σ H fun x H1 => ∃ a dx fs, x = .ref a ∧ H1 a = some (.ins C dx fs) ∧ fs.lookup m = none ∧
  ∀ q, H1 q = none → t1 σ (upd H1 q (.met g a)) fun y1 H2 => t2 σ H2 fun y2 H3 => ∃ b vs, y2 = .ref b ∧ (SqT K H3 b vs ∨ SqL K H3 b vs) ∧ H3 q = some (.met g a) ∧ sp (.ref a :: y1 :: vs) H3 Q E) : tMethSB K C m g sp E ta t1 t2 σ H Q := h
end My
namespace My
open PySem PySem.Spec PyProof.Rows L2
/-! ### d.setdefault(k, x) where the keys are tuples -/
section
variable {X : Cx}
/-- what the call leaves behind: the value that stands there, or x, put there -/
def tDSetT (td ty tx : TE) : TE := fun σ H Q => td σ H fun x H1 => ∃ a, x = .ref a ∧ IsD H1 a ∧ ty σ H1 fun y H2 => tx σ H2 fun z H3 =>
  ∃ (kvs : List (List L2.Key × V)) (k : List L2.Key) (b : Addr), H3 a = some (.dT kvs) ∧ y = .ref b ∧ H3 b = some (.tup (k.map kV)) ∧ kvs.length < sizeLine ∧
    (∀ v, valV kvs k = some v → Q v H3) ∧ (valV kvs k = none → Q z (upd H3 a (.dT (putK kvs k z))))
theorem run_setT (hu : X.A.units + 1 < cLine) {pins : List (Addr × Obj)} {σ : L2.St} {H : Hp} {s : Shared} {a b : Addr} {r : Value} {d : V} {kvs : List (List L2.Key × V)} {k : List L2.Key} {Q : VK} {E : Value → Shared → Prop}
    (I : Inv X pins σ H s) (ea : H a = some (.dT kvs)) (eb : H b = some (.tup (k.map kV))) (rd : RelV d r) (hl : kvs.length < sizeLine)
    (q1 : ∀ v, valV kvs k = some v → Q v H) (q2 : valV kvs k = none → Q d (upd H a (.dT (putK kvs k d)))) :
    wpAny (model X.prog X.w) X.A (call (.builtin "dict.setdefault") [.ref a, .ref b, r]) (EP X pins σ Q) E s := by
  obtain ⟨z, hd, xs, rel, dd⟩ := dt_of I.hok ea
  have hz : xs.length ≤ sizeLine := by
    rw [← Paired.length rel]
    exact z
  have rv := rel.val k
  refine call_setdefault_heap (hsz := hz) (tupleKind_room_in1 hu) (key_of I.hok eb) hd dd (fun p hp => ?_) fun hn h' dd' hs => ?_
  · rw [hp] at rv
    cases ev : valV kvs k with
    | none =>
      rw [ev] at rv
      exact False.elim rv
    | some v0 =>
      rw [ev] at rv
      exact ⟨v0, H, I.tok _, rv, q1 v0 ev⟩
  · rw [hn] at rv
    cases ev : valV kvs k with
    | some v0 =>
      rw [ev] at rv
      exact False.elim rv
    | none =>
      have l2 : (putK kvs k d).length ≤ sizeLine := by
        have := length_putK kvs k d
        omega
      obtain ⟨q, es, ep, hq, h2, h3, h4, _, h5⟩ := dd'
      refine ⟨d, upd H a (.dT (putK kvs k d)), d_write I (by rw [ea]; exact True.intro) hs ⟨q, hq⟩ ⟨l2, hd, _, (rel.put k eb rd).keeps fun c ys ec => ?_, q, es, ep, hq, h2, h3, h4, h5⟩, rd, q2 ev⟩
      rw [upd_ne (ne_of ec ea (fun z => nomatch z))]
      exact ec
variable {o e f : Expr} {td ty tx : TE} {apos cpos : Pos}
theorem pe_dsetT (hu : X.A.units + 1 < cLine) (ho : PE X o td) (he : PE X e ty) (hf : PE X f tx) (m : M2 X o "setdefault" apos e f cpos) :
    PE X (.Call (.Attribute o "setdefault" apos) [e, f] [] cpos) (tDSetT td ty tx) := by
  constructor
  intro pins s σ H Q I h
  refine wpAny_Call_method m.base m.few m.line PySem.F.plainAttrs_dict PySem.F.slot_dict_setdefault PySem.F.type_dict_setdefault (thn (ho.run pins s σ H _ I h) fun u s1 ⟨x, H1, I1, rx, a, ex, d, q1⟩ => ?_)
  cases ex
  cases (show u = Value.ref a from rx)
  obtain ⟨t1, t2, _⟩ := isD_at I1 d
  refine ⟨t1, t2, ?_⟩
  rw [m.trees]
  refine Calls.callWith_builtin rfl (Calls.evalArgs_plain (Calls.spliced_cons (thn (he.run pins s1 σ H1 _ I1 q1) fun iv s2 ⟨y, H2, I2, ry, q2⟩ => ?_)))
  refine Calls.spliced_cons (thn (hf.run pins s2 σ H2 _ I2 q2) fun fv s3 ⟨z, H3, I3, rz, kvs, k, b, ea, ey, eb, hl, q3, q4⟩ => Calls.spliced_nil ?_)
  cases ey
  cases (show iv = Value.ref b from ry)
  exact run_setT hu I3 ea eb rz hl q3 q4
theorem g_dsetT {σ : L2.St} {H : Hp} {Q : VK} (h : td σ H fun x H1 => ∃ a, x = .ref a ∧ IsD H1 a ∧ ty σ H1 fun y H2 => tx σ H2 fun z H3 =>
    ∃ (kvs : List (List L2.Key × V)) (k : List L2.Key) (b : Addr), H3 a = some (.dT kvs) ∧ y = .ref b ∧ H3 b = some (.tup (k.map kV)) ∧ kvs.length < sizeLine ∧
    (∀ v, valV kvs k = some v → Q v H3) ∧ (valV kvs k = none → Q z (upd H3 a (.dT (putK kvs k z))))) : tDSetT td ty tx σ H Q := h
end
end My

namespace My
open PySem PySem.Spec PyProof.Rows L2 SkE StX
/-! ### the text -/
def topS (i : Nat) : Stmt := PySem.Challenge.pw_hornbook_k45_plain_defaults.main.body.getD i (.Pass ⟨0, 0, 0, 0⟩)
abbrev s_is_variable : Stmt := topS 7
abbrev N_is_variable : List Str := ["node"]
theorem sc_is_variable : FnScope N_is_variable ["node"] (defScope s_is_variable) := ⟨rfl, rfl, rfl, by decide +kernel, rfl, by decide +kernel, by decide +kernel⟩
abbrev s_is_symbol : Stmt := topS 8
abbrev N_is_symbol : List Str := ["node"]
theorem sc_is_symbol : FnScope N_is_symbol ["node"] (defScope s_is_symbol) := ⟨rfl, rfl, rfl, by decide +kernel, rfl, by decide +kernel, by decide +kernel⟩
abbrev s_arity_of : Stmt := topS 9
abbrev N_arity_of : List Str := ["node"]
theorem sc_arity_of : FnScope N_arity_of ["node"] (defScope s_arity_of) := ⟨rfl, rfl, rfl, by decide +kernel, rfl, by decide +kernel, by decide +kernel⟩
abbrev s_end_of : Stmt := topS 10
abbrev N_end_of : List Str := ["nodes", "start", "missing", "at"]
theorem sc_end_of : FnScope N_end_of ["nodes", "start"] (defScope s_end_of) := ⟨rfl, rfl, rfl, by decide +kernel, rfl, by decide +kernel, by decide +kernel⟩
abbrev s_renumber : Stmt := topS 11
abbrev N_renumber : List Str := ["term", "first", "names", "nodes", "node"]
theorem sc_renumber : FnScope N_renumber ["term", "first"] (defScope s_renumber) := ⟨rfl, rfl, rfl, by decide +kernel, rfl, by decide +kernel, by decide +kernel⟩
abbrev s_is_control : Stmt := topS 18
abbrev N_is_control : List Str := ["name", "arity"]
theorem sc_is_control : FnScope N_is_control ["name", "arity"] (defScope s_is_control) := ⟨rfl, rfl, rfl, by decide +kernel, rfl, by decide +kernel, by decide +kernel⟩
abbrev s_is_built_in : Stmt := topS 19
abbrev N_is_built_in : List Str := ["name", "arity"]
theorem sc_is_built_in : FnScope N_is_built_in ["name", "arity"] (defScope s_is_built_in) := ⟨rfl, rfl, rfl, by decide +kernel, rfl, by decide +kernel, by decide +kernel⟩
abbrev s_split_clause : Stmt := topS 20
abbrev N_split_clause : List Str := ["clause", "end"]
theorem sc_split_clause : FnScope N_split_clause ["clause"] (defScope s_split_clause) := ⟨rfl, rfl, rfl, by decide +kernel, rfl, by decide +kernel, by decide +kernel⟩
abbrev s_head_and_body : Stmt := topS 21
abbrev N_head_and_body : List Str := ["clause", "head", "body", "_", "name", "arity"]
theorem sc_head_and_body : FnScope N_head_and_body ["clause"] (defScope s_head_and_body) := ⟨rfl, rfl, rfl, by decide +kernel, rfl, by decide +kernel, by decide +kernel⟩
abbrev s_Database___init__ : Stmt := inClass (topS 23) 0
abbrev N_Database___init__ : List Str := ["self"]
theorem sc_Database___init__ : FnScope N_Database___init__ ["self"] (defScope s_Database___init__) := ⟨rfl, rfl, rfl, by decide +kernel, rfl, by decide +kernel, by decide +kernel⟩
abbrev s_Database_add : Stmt := inClass (topS 23) 1
abbrev N_Database_add : List Str := ["self", "clause", "first", "head", "_", "name", "arity", "number", "row"]
theorem sc_Database_add : FnScope N_Database_add ["self", "clause", "first"] (defScope s_Database_add) := ⟨rfl, rfl, rfl, by decide +kernel, rfl, by decide +kernel, by decide +kernel⟩
abbrev s_Database_erase : Stmt := inClass (topS 23) 2
abbrev N_Database_erase : List Str := ["self", "number"]
theorem sc_Database_erase : FnScope N_Database_erase ["self", "number"] (defScope s_Database_erase) := ⟨rfl, rfl, rfl, by decide +kernel, rfl, by decide +kernel, by decide +kernel⟩
abbrev s_Database_clauses : Stmt := inClass (topS 23) 3
abbrev N_Database_clauses : List Str := ["self", "name", "arity", "at", "first", "behind", "number"]
theorem sc_Database_clauses : FnScope N_Database_clauses ["self", "name", "arity", "at"] (defScope s_Database_clauses) := ⟨rfl, rfl, rfl, by decide +kernel, rfl, by decide +kernel, by decide +kernel⟩
abbrev s_Database_open_call : Stmt := inClass (topS 23) 5
abbrev N_Database_open_call : List Str := ["self", "name", "arity", "erasing", "call", "row", "number"]
theorem sc_Database_open_call : FnScope N_Database_open_call ["self", "name", "arity", "erasing"] (defScope s_Database_open_call) := ⟨rfl, rfl, rfl, by decide +kernel, rfl, by decide +kernel, by decide +kernel⟩
abbrev s_Database_next_clause : Stmt := inClass (topS 23) 6
abbrev N_Database_next_clause : List Str := ["self", "call", "left", "erasing", "number"]
theorem sc_Database_next_clause : FnScope N_Database_next_clause ["self", "call"] (defScope s_Database_next_clause) := ⟨rfl, rfl, rfl, by decide +kernel, rfl, by decide +kernel, by decide +kernel⟩
abbrev s_Database__exists : Stmt := inClass (topS 23) 11
abbrev N_Database__exists : List Str := ["self", "number"]
theorem sc_Database__exists : FnScope N_Database__exists ["self", "number"] (defScope s_Database__exists) := ⟨rfl, rfl, rfl, by decide +kernel, rfl, by decide +kernel, by decide +kernel⟩
abbrev s_Database__left : Stmt := inClass (topS 23) 12
abbrev N_Database__left : List Str := ["self", "call"]
theorem sc_Database__left : FnScope N_Database__left ["self", "call"] (defScope s_Database__left) := ⟨rfl, rfl, rfl, by decide +kernel, rfl, by decide +kernel, by decide +kernel⟩
abbrev s__law_stream : Stmt := topS 25
abbrev N__law_stream : List Str := ["script", "mixed", "cell"]
theorem sc__law_stream : FnScope N__law_stream ["script"] (defScope s__law_stream) := ⟨rfl, rfl, rfl, by decide +kernel, rfl, by decide +kernel, by decide +kernel⟩
abbrev s__law_draw : Stmt := topS 26
abbrev N__law_draw : List Str := ["stream", "many", "value"]
theorem sc__law_draw : FnScope N__law_draw ["stream", "many"] (defScope s__law_draw) := ⟨rfl, rfl, rfl, by decide +kernel, rfl, by decide +kernel, by decide +kernel⟩
abbrev s__law_is_variable : Stmt := topS 27
abbrev N__law_is_variable : List Str := ["node"]
theorem sc__law_is_variable : FnScope N__law_is_variable ["node"] (defScope s__law_is_variable) := ⟨rfl, rfl, rfl, by decide +kernel, rfl, by decide +kernel, by decide +kernel⟩
abbrev s__law_put : Stmt := topS 28
abbrev N__law_put : List Str := ["table", "term", "nodes", "node"]
theorem sc__law_put : FnScope N__law_put ["table", "term"] (defScope s__law_put) := ⟨rfl, rfl, rfl, by decide +kernel, rfl, by decide +kernel, by decide +kernel⟩
abbrev s__law_numbered : Stmt := topS 29
abbrev N__law_numbered : List Str := ["terms", "first", "table", "found", "term", "node"]
theorem sc__law_numbered : FnScope N__law_numbered ["terms", "first"] (defScope s__law_numbered) := ⟨rfl, rfl, rfl, by decide +kernel, rfl, by decide +kernel, by decide +kernel⟩
abbrev s__law_stored : Stmt := topS 30
abbrev N__law_stored : List Str := ["stream", "names", "long", "name", "nodes", "k", "head", "both"]
theorem sc__law_stored : FnScope N__law_stored ["stream"] (defScope s__law_stored) := ⟨rfl, rfl, rfl, by decide +kernel, rfl, by decide +kernel, by decide +kernel⟩
abbrev s__law_head : Stmt := topS 31
abbrev N__law_head : List Str := ["clause", "node"]
theorem sc__law_head : FnScope N__law_head ["clause"] (defScope s__law_head) := ⟨rfl, rfl, rfl, by decide +kernel, rfl, by decide +kernel, by decide +kernel⟩
abbrev s__law_model : Stmt := topS 32
abbrev N__law_model : List Str := []
theorem sc__law_model : FnScope N__law_model [] (defScope s__law_model) := ⟨rfl, rfl, rfl, by decide +kernel, rfl, by decide +kernel, by decide +kernel⟩
abbrev s__law_exists : Stmt := topS 33
abbrev N__law_exists : List Str := ["row", "at"]
theorem sc__law_exists : FnScope N__law_exists ["row", "at"] (defScope s__law_exists) := ⟨rfl, rfl, rfl, by decide +kernel, rfl, by decide +kernel, by decide +kernel⟩
abbrev s__law_add : Stmt := topS 34
abbrev N__law_add : List Str := ["model", "clause", "first", "number"]
theorem sc__law_add : FnScope N__law_add ["model", "clause", "first"] (defScope s__law_add) := ⟨rfl, rfl, rfl, by decide +kernel, rfl, by decide +kernel, by decide +kernel⟩
abbrev s__law_erase : Stmt := topS 35
abbrev N__law_erase : List Str := ["model", "number", "row"]
theorem sc__law_erase : FnScope N__law_erase ["model", "number"] (defScope s__law_erase) := ⟨rfl, rfl, rfl, by decide +kernel, rfl, by decide +kernel, by decide +kernel⟩
abbrev s__law_clauses : Stmt := topS 36
abbrev N__law_clauses : List Str := ["model", "name", "arity", "at", "found", "number", "row"]
theorem sc__law_clauses : FnScope N__law_clauses ["model", "name", "arity", "at"] (defScope s__law_clauses) := ⟨rfl, rfl, rfl, by decide +kernel, rfl, by decide +kernel, by decide +kernel⟩
abbrev s__law_open : Stmt := topS 37
abbrev N__law_open : List Str := ["model", "name", "arity", "erasing", "numbers", "pair"]
theorem sc__law_open : FnScope N__law_open ["model", "name", "arity", "erasing"] (defScope s__law_open) := ⟨rfl, rfl, rfl, by decide +kernel, rfl, by decide +kernel, by decide +kernel⟩
abbrev s__law_next : Stmt := topS 38
abbrev N__law_next : List Str := ["model", "call", "row", "number"]
theorem sc__law_next : FnScope N__law_next ["model", "call"] (defScope s__law_next) := ⟨rfl, rfl, rfl, by decide +kernel, rfl, by decide +kernel, by decide +kernel⟩
abbrev s_law : Stmt := topS 39
abbrev N_law : List Str := ["script", "stream", "database", "model", "k", "clause", "number", "name", "calls", "call"]
theorem sc_law : FnScope N_law ["script"] (defScope s_law) := ⟨rfl, rfl, rfl, by decide +kernel, rfl, by decide +kernel, by decide +kernel⟩
/-- a def with defaults -/
def HasD (P : Program) (w : World) (K : PySem.W.Frag) (mg : Str → Option Value) (base : Heap) (k : Nat) (x : Str) (ps : List Str) (dvs : List V) (sp : Sp) : Prop :=
  ∃ (f : Addr) (fd : FuncData), FnOk P w K mg base CX0 k f fd ps sp ∧ mg x = some (.ref f) ∧ PySem.W.keepIn K (.ref f) = true ∧ (∃ ds, Vals dvs ds ∧ Binds K fd ps ds) ∧ ∃ ds, Vals ([] : List V) ds ∧ Binds K fd ps ds
/-- a method with a keyword-only parameter that has a default -/
def HasMKX (P : Program) (w : World) (K : PySem.W.Frag) (mg : Str → Option Value) (base : Heap) (k : Nat) (C m : Str) (ps : List Str) (kws : List (Str × V)) (sp : Sp) : Prop :=
  ∃ (f : Addr) (fd : FuncData), FnOk P w K mg base (L2.CX P w) k f fd ps sp ∧ Meth K (clsA K C) m f ∧ ∃ ds, Vals (kws.map (·.2)) ds ∧ Binds K fd ps ds
def HasMK (P : Program) (w : World) (K : PySem.W.Frag) (mg : Str → Option Value) (base : Heap) (k : Nat) (C m : Str) (ps : List Str) (kws : List (Str × V)) (sp : Sp) : Prop :=
  ∃ (f : Addr) (fd : FuncData), FnOk P w K mg base CX0 k f fd ps sp ∧ Meth K (clsA K C) m f ∧ ∃ ds, Vals (kws.map (·.2)) ds ∧ Binds K fd ps ds
/-- a def with a keyword-only parameter that has a default -/
def HasK (P : Program) (w : World) (K : PySem.W.Frag) (mg : Str → Option Value) (base : Heap) (k : Nat) (x : Str) (ps : List Str) (kws : List (Str × V)) (sp : Sp) : Prop :=
  ∃ (f : Addr) (fd : FuncData), FnOk P w K mg base CX0 k f fd ps sp ∧ mg x = some (.ref f) ∧ PySem.W.keepIn K (.ref f) = true ∧ (∃ ds, Vals (kws.map (·.2)) ds ∧ Binds K fd ps ds) ∧ KBn K fd ps (ps.length - kws.length) (kws.map (·.1)) (fun us ws => us ++ ws) (fun vs zs => vs ++ zs)
def fs_Database (v_generation v__clauses v__births v__deaths v__rows v__gaps v__calls v__next_number v__next_call : V) : List (Str × V) := [("generation", v_generation), ("_clauses", v__clauses), ("_births", v__births), ("_deaths", v__deaths), ("_rows", v__rows), ("_gaps", v__gaps), ("_calls", v__calls), ("_next_number", v__next_number), ("_next_call", v__next_call)]
theorem fs_Database_generation {v_generation v__clauses v__births v__deaths v__rows v__gaps v__calls v__next_number v__next_call : V} : (fs_Database v_generation v__clauses v__births v__deaths v__rows v__gaps v__calls v__next_number v__next_call).lookup ("generation" : Str) = some v_generation := lk_hit
theorem ps_Database_generation {v_generation v__clauses v__births v__deaths v__rows v__gaps v__calls v__next_number v__next_call y : V} : putF "generation" y (fs_Database v_generation v__clauses v__births v__deaths v__rows v__gaps v__calls v__next_number v__next_call) = fs_Database y v__clauses v__births v__deaths v__rows v__gaps v__calls v__next_number v__next_call := pf_hit
theorem fs_Database__clauses {v_generation v__clauses v__births v__deaths v__rows v__gaps v__calls v__next_number v__next_call : V} : (fs_Database v_generation v__clauses v__births v__deaths v__rows v__gaps v__calls v__next_number v__next_call).lookup ("_clauses" : Str) = some v__clauses := (lk_miss (by decide +kernel) lk_hit)
theorem ps_Database__clauses {v_generation v__clauses v__births v__deaths v__rows v__gaps v__calls v__next_number v__next_call y : V} : putF "_clauses" y (fs_Database v_generation v__clauses v__births v__deaths v__rows v__gaps v__calls v__next_number v__next_call) = fs_Database v_generation y v__births v__deaths v__rows v__gaps v__calls v__next_number v__next_call := (pf_miss (by decide +kernel) pf_hit)
theorem fs_Database__births {v_generation v__clauses v__births v__deaths v__rows v__gaps v__calls v__next_number v__next_call : V} : (fs_Database v_generation v__clauses v__births v__deaths v__rows v__gaps v__calls v__next_number v__next_call).lookup ("_births" : Str) = some v__births := (lk_miss (by decide +kernel) (lk_miss (by decide +kernel) lk_hit))
theorem ps_Database__births {v_generation v__clauses v__births v__deaths v__rows v__gaps v__calls v__next_number v__next_call y : V} : putF "_births" y (fs_Database v_generation v__clauses v__births v__deaths v__rows v__gaps v__calls v__next_number v__next_call) = fs_Database v_generation v__clauses y v__deaths v__rows v__gaps v__calls v__next_number v__next_call := (pf_miss (by decide +kernel) (pf_miss (by decide +kernel) pf_hit))
theorem fs_Database__deaths {v_generation v__clauses v__births v__deaths v__rows v__gaps v__calls v__next_number v__next_call : V} : (fs_Database v_generation v__clauses v__births v__deaths v__rows v__gaps v__calls v__next_number v__next_call).lookup ("_deaths" : Str) = some v__deaths := (lk_miss (by decide +kernel) (lk_miss (by decide +kernel) (lk_miss (by decide +kernel) lk_hit)))
theorem ps_Database__deaths {v_generation v__clauses v__births v__deaths v__rows v__gaps v__calls v__next_number v__next_call y : V} : putF "_deaths" y (fs_Database v_generation v__clauses v__births v__deaths v__rows v__gaps v__calls v__next_number v__next_call) = fs_Database v_generation v__clauses v__births y v__rows v__gaps v__calls v__next_number v__next_call := (pf_miss (by decide +kernel) (pf_miss (by decide +kernel) (pf_miss (by decide +kernel) pf_hit)))
theorem fs_Database__rows {v_generation v__clauses v__births v__deaths v__rows v__gaps v__calls v__next_number v__next_call : V} : (fs_Database v_generation v__clauses v__births v__deaths v__rows v__gaps v__calls v__next_number v__next_call).lookup ("_rows" : Str) = some v__rows := (lk_miss (by decide +kernel) (lk_miss (by decide +kernel) (lk_miss (by decide +kernel) (lk_miss (by decide +kernel) lk_hit))))
theorem ps_Database__rows {v_generation v__clauses v__births v__deaths v__rows v__gaps v__calls v__next_number v__next_call y : V} : putF "_rows" y (fs_Database v_generation v__clauses v__births v__deaths v__rows v__gaps v__calls v__next_number v__next_call) = fs_Database v_generation v__clauses v__births v__deaths y v__gaps v__calls v__next_number v__next_call := (pf_miss (by decide +kernel) (pf_miss (by decide +kernel) (pf_miss (by decide +kernel) (pf_miss (by decide +kernel) pf_hit))))
theorem fs_Database__gaps {v_generation v__clauses v__births v__deaths v__rows v__gaps v__calls v__next_number v__next_call : V} : (fs_Database v_generation v__clauses v__births v__deaths v__rows v__gaps v__calls v__next_number v__next_call).lookup ("_gaps" : Str) = some v__gaps := (lk_miss (by decide +kernel) (lk_miss (by decide +kernel) (lk_miss (by decide +kernel) (lk_miss (by decide +kernel) (lk_miss (by decide +kernel) lk_hit)))))
theorem ps_Database__gaps {v_generation v__clauses v__births v__deaths v__rows v__gaps v__calls v__next_number v__next_call y : V} : putF "_gaps" y (fs_Database v_generation v__clauses v__births v__deaths v__rows v__gaps v__calls v__next_number v__next_call) = fs_Database v_generation v__clauses v__births v__deaths v__rows y v__calls v__next_number v__next_call := (pf_miss (by decide +kernel) (pf_miss (by decide +kernel) (pf_miss (by decide +kernel) (pf_miss (by decide +kernel) (pf_miss (by decide +kernel) pf_hit)))))
theorem fs_Database__calls {v_generation v__clauses v__births v__deaths v__rows v__gaps v__calls v__next_number v__next_call : V} : (fs_Database v_generation v__clauses v__births v__deaths v__rows v__gaps v__calls v__next_number v__next_call).lookup ("_calls" : Str) = some v__calls := (lk_miss (by decide +kernel) (lk_miss (by decide +kernel) (lk_miss (by decide +kernel) (lk_miss (by decide +kernel) (lk_miss (by decide +kernel) (lk_miss (by decide +kernel) lk_hit))))))
theorem ps_Database__calls {v_generation v__clauses v__births v__deaths v__rows v__gaps v__calls v__next_number v__next_call y : V} : putF "_calls" y (fs_Database v_generation v__clauses v__births v__deaths v__rows v__gaps v__calls v__next_number v__next_call) = fs_Database v_generation v__clauses v__births v__deaths v__rows v__gaps y v__next_number v__next_call := (pf_miss (by decide +kernel) (pf_miss (by decide +kernel) (pf_miss (by decide +kernel) (pf_miss (by decide +kernel) (pf_miss (by decide +kernel) (pf_miss (by decide +kernel) pf_hit))))))
theorem fs_Database__next_number {v_generation v__clauses v__births v__deaths v__rows v__gaps v__calls v__next_number v__next_call : V} : (fs_Database v_generation v__clauses v__births v__deaths v__rows v__gaps v__calls v__next_number v__next_call).lookup ("_next_number" : Str) = some v__next_number := (lk_miss (by decide +kernel) (lk_miss (by decide +kernel) (lk_miss (by decide +kernel) (lk_miss (by decide +kernel) (lk_miss (by decide +kernel) (lk_miss (by decide +kernel) (lk_miss (by decide +kernel) lk_hit)))))))
theorem ps_Database__next_number {v_generation v__clauses v__births v__deaths v__rows v__gaps v__calls v__next_number v__next_call y : V} : putF "_next_number" y (fs_Database v_generation v__clauses v__births v__deaths v__rows v__gaps v__calls v__next_number v__next_call) = fs_Database v_generation v__clauses v__births v__deaths v__rows v__gaps v__calls y v__next_call := (pf_miss (by decide +kernel) (pf_miss (by decide +kernel) (pf_miss (by decide +kernel) (pf_miss (by decide +kernel) (pf_miss (by decide +kernel) (pf_miss (by decide +kernel) (pf_miss (by decide +kernel) pf_hit)))))))
theorem fs_Database__next_call {v_generation v__clauses v__births v__deaths v__rows v__gaps v__calls v__next_number v__next_call : V} : (fs_Database v_generation v__clauses v__births v__deaths v__rows v__gaps v__calls v__next_number v__next_call).lookup ("_next_call" : Str) = some v__next_call := (lk_miss (by decide +kernel) (lk_miss (by decide +kernel) (lk_miss (by decide +kernel) (lk_miss (by decide +kernel) (lk_miss (by decide +kernel) (lk_miss (by decide +kernel) (lk_miss (by decide +kernel) (lk_miss (by decide +kernel) lk_hit))))))))
theorem ps_Database__next_call {v_generation v__clauses v__births v__deaths v__rows v__gaps v__calls v__next_number v__next_call y : V} : putF "_next_call" y (fs_Database v_generation v__clauses v__births v__deaths v__rows v__gaps v__calls v__next_number v__next_call) = fs_Database v_generation v__clauses v__births v__deaths v__rows v__gaps v__calls v__next_number y := (pf_miss (by decide +kernel) (pf_miss (by decide +kernel) (pf_miss (by decide +kernel) (pf_miss (by decide +kernel) (pf_miss (by decide +kernel) (pf_miss (by decide +kernel) (pf_miss (by decide +kernel) (pf_miss (by decide +kernel) pf_hit))))))))
theorem fs_Database_no_add {v_generation v__clauses v__births v__deaths v__rows v__gaps v__calls v__next_number v__next_call : V} : (fs_Database v_generation v__clauses v__births v__deaths v__rows v__gaps v__calls v__next_number v__next_call).lookup ("add" : Str) = Option.none := (lk_miss (by decide +kernel) (lk_miss (by decide +kernel) (lk_miss (by decide +kernel) (lk_miss (by decide +kernel) (lk_miss (by decide +kernel) (lk_miss (by decide +kernel) (lk_miss (by decide +kernel) (lk_miss (by decide +kernel) (lk_miss (by decide +kernel) lk_nil)))))))))
theorem fs_Database_no_erase {v_generation v__clauses v__births v__deaths v__rows v__gaps v__calls v__next_number v__next_call : V} : (fs_Database v_generation v__clauses v__births v__deaths v__rows v__gaps v__calls v__next_number v__next_call).lookup ("erase" : Str) = Option.none := (lk_miss (by decide +kernel) (lk_miss (by decide +kernel) (lk_miss (by decide +kernel) (lk_miss (by decide +kernel) (lk_miss (by decide +kernel) (lk_miss (by decide +kernel) (lk_miss (by decide +kernel) (lk_miss (by decide +kernel) (lk_miss (by decide +kernel) lk_nil)))))))))
theorem fs_Database_no_clauses {v_generation v__clauses v__births v__deaths v__rows v__gaps v__calls v__next_number v__next_call : V} : (fs_Database v_generation v__clauses v__births v__deaths v__rows v__gaps v__calls v__next_number v__next_call).lookup ("clauses" : Str) = Option.none := (lk_miss (by decide +kernel) (lk_miss (by decide +kernel) (lk_miss (by decide +kernel) (lk_miss (by decide +kernel) (lk_miss (by decide +kernel) (lk_miss (by decide +kernel) (lk_miss (by decide +kernel) (lk_miss (by decide +kernel) (lk_miss (by decide +kernel) lk_nil)))))))))
theorem fs_Database_no_predicates {v_generation v__clauses v__births v__deaths v__rows v__gaps v__calls v__next_number v__next_call : V} : (fs_Database v_generation v__clauses v__births v__deaths v__rows v__gaps v__calls v__next_number v__next_call).lookup ("predicates" : Str) = Option.none := (lk_miss (by decide +kernel) (lk_miss (by decide +kernel) (lk_miss (by decide +kernel) (lk_miss (by decide +kernel) (lk_miss (by decide +kernel) (lk_miss (by decide +kernel) (lk_miss (by decide +kernel) (lk_miss (by decide +kernel) (lk_miss (by decide +kernel) lk_nil)))))))))
theorem fs_Database_no_open_call {v_generation v__clauses v__births v__deaths v__rows v__gaps v__calls v__next_number v__next_call : V} : (fs_Database v_generation v__clauses v__births v__deaths v__rows v__gaps v__calls v__next_number v__next_call).lookup ("open_call" : Str) = Option.none := (lk_miss (by decide +kernel) (lk_miss (by decide +kernel) (lk_miss (by decide +kernel) (lk_miss (by decide +kernel) (lk_miss (by decide +kernel) (lk_miss (by decide +kernel) (lk_miss (by decide +kernel) (lk_miss (by decide +kernel) (lk_miss (by decide +kernel) lk_nil)))))))))
theorem fs_Database_no_next_clause {v_generation v__clauses v__births v__deaths v__rows v__gaps v__calls v__next_number v__next_call : V} : (fs_Database v_generation v__clauses v__births v__deaths v__rows v__gaps v__calls v__next_number v__next_call).lookup ("next_clause" : Str) = Option.none := (lk_miss (by decide +kernel) (lk_miss (by decide +kernel) (lk_miss (by decide +kernel) (lk_miss (by decide +kernel) (lk_miss (by decide +kernel) (lk_miss (by decide +kernel) (lk_miss (by decide +kernel) (lk_miss (by decide +kernel) (lk_miss (by decide +kernel) lk_nil)))))))))
theorem fs_Database_no_close_call {v_generation v__clauses v__births v__deaths v__rows v__gaps v__calls v__next_number v__next_call : V} : (fs_Database v_generation v__clauses v__births v__deaths v__rows v__gaps v__calls v__next_number v__next_call).lookup ("close_call" : Str) = Option.none := (lk_miss (by decide +kernel) (lk_miss (by decide +kernel) (lk_miss (by decide +kernel) (lk_miss (by decide +kernel) (lk_miss (by decide +kernel) (lk_miss (by decide +kernel) (lk_miss (by decide +kernel) (lk_miss (by decide +kernel) (lk_miss (by decide +kernel) lk_nil)))))))))
theorem fs_Database_no_sweep {v_generation v__clauses v__births v__deaths v__rows v__gaps v__calls v__next_number v__next_call : V} : (fs_Database v_generation v__clauses v__births v__deaths v__rows v__gaps v__calls v__next_number v__next_call).lookup ("sweep" : Str) = Option.none := (lk_miss (by decide +kernel) (lk_miss (by decide +kernel) (lk_miss (by decide +kernel) (lk_miss (by decide +kernel) (lk_miss (by decide +kernel) (lk_miss (by decide +kernel) (lk_miss (by decide +kernel) (lk_miss (by decide +kernel) (lk_miss (by decide +kernel) lk_nil)))))))))
theorem fs_Database_no_stored {v_generation v__clauses v__births v__deaths v__rows v__gaps v__calls v__next_number v__next_call : V} : (fs_Database v_generation v__clauses v__births v__deaths v__rows v__gaps v__calls v__next_number v__next_call).lookup ("stored" : Str) = Option.none := (lk_miss (by decide +kernel) (lk_miss (by decide +kernel) (lk_miss (by decide +kernel) (lk_miss (by decide +kernel) (lk_miss (by decide +kernel) (lk_miss (by decide +kernel) (lk_miss (by decide +kernel) (lk_miss (by decide +kernel) (lk_miss (by decide +kernel) lk_nil)))))))))
theorem fs_Database_no_twin {v_generation v__clauses v__births v__deaths v__rows v__gaps v__calls v__next_number v__next_call : V} : (fs_Database v_generation v__clauses v__births v__deaths v__rows v__gaps v__calls v__next_number v__next_call).lookup ("twin" : Str) = Option.none := (lk_miss (by decide +kernel) (lk_miss (by decide +kernel) (lk_miss (by decide +kernel) (lk_miss (by decide +kernel) (lk_miss (by decide +kernel) (lk_miss (by decide +kernel) (lk_miss (by decide +kernel) (lk_miss (by decide +kernel) (lk_miss (by decide +kernel) lk_nil)))))))))
theorem fs_Database_no__exists {v_generation v__clauses v__births v__deaths v__rows v__gaps v__calls v__next_number v__next_call : V} : (fs_Database v_generation v__clauses v__births v__deaths v__rows v__gaps v__calls v__next_number v__next_call).lookup ("_exists" : Str) = Option.none := (lk_miss (by decide +kernel) (lk_miss (by decide +kernel) (lk_miss (by decide +kernel) (lk_miss (by decide +kernel) (lk_miss (by decide +kernel) (lk_miss (by decide +kernel) (lk_miss (by decide +kernel) (lk_miss (by decide +kernel) (lk_miss (by decide +kernel) lk_nil)))))))))
theorem fs_Database_no__left {v_generation v__clauses v__births v__deaths v__rows v__gaps v__calls v__next_number v__next_call : V} : (fs_Database v_generation v__clauses v__births v__deaths v__rows v__gaps v__calls v__next_number v__next_call).lookup ("_left" : Str) = Option.none := (lk_miss (by decide +kernel) (lk_miss (by decide +kernel) (lk_miss (by decide +kernel) (lk_miss (by decide +kernel) (lk_miss (by decide +kernel) (lk_miss (by decide +kernel) (lk_miss (by decide +kernel) (lk_miss (by decide +kernel) (lk_miss (by decide +kernel) lk_nil)))))))))
theorem pi_Database_generation {v_generation v__clauses v__births v__deaths v__rows v__gaps v__calls v__next_number v__next_call : V} : putF "generation" v_generation ([] : List (Str × V)) = ([("generation", v_generation)] : List (Str × V)) := pf_nil
theorem pi_Database__clauses {v_generation v__clauses v__births v__deaths v__rows v__gaps v__calls v__next_number v__next_call : V} : putF "_clauses" v__clauses ([("generation", v_generation)] : List (Str × V)) = ([("generation", v_generation), ("_clauses", v__clauses)] : List (Str × V)) := (pf_miss (by decide +kernel) pf_nil)
theorem pi_Database__births {v_generation v__clauses v__births v__deaths v__rows v__gaps v__calls v__next_number v__next_call : V} : putF "_births" v__births ([("generation", v_generation), ("_clauses", v__clauses)] : List (Str × V)) = ([("generation", v_generation), ("_clauses", v__clauses), ("_births", v__births)] : List (Str × V)) := (pf_miss (by decide +kernel) (pf_miss (by decide +kernel) pf_nil))
theorem pi_Database__deaths {v_generation v__clauses v__births v__deaths v__rows v__gaps v__calls v__next_number v__next_call : V} : putF "_deaths" v__deaths ([("generation", v_generation), ("_clauses", v__clauses), ("_births", v__births)] : List (Str × V)) = ([("generation", v_generation), ("_clauses", v__clauses), ("_births", v__births), ("_deaths", v__deaths)] : List (Str × V)) := (pf_miss (by decide +kernel) (pf_miss (by decide +kernel) (pf_miss (by decide +kernel) pf_nil)))
theorem pi_Database__rows {v_generation v__clauses v__births v__deaths v__rows v__gaps v__calls v__next_number v__next_call : V} : putF "_rows" v__rows ([("generation", v_generation), ("_clauses", v__clauses), ("_births", v__births), ("_deaths", v__deaths)] : List (Str × V)) = ([("generation", v_generation), ("_clauses", v__clauses), ("_births", v__births), ("_deaths", v__deaths), ("_rows", v__rows)] : List (Str × V)) := (pf_miss (by decide +kernel) (pf_miss (by decide +kernel) (pf_miss (by decide +kernel) (pf_miss (by decide +kernel) pf_nil))))
theorem pi_Database__gaps {v_generation v__clauses v__births v__deaths v__rows v__gaps v__calls v__next_number v__next_call : V} : putF "_gaps" v__gaps ([("generation", v_generation), ("_clauses", v__clauses), ("_births", v__births), ("_deaths", v__deaths), ("_rows", v__rows)] : List (Str × V)) = ([("generation", v_generation), ("_clauses", v__clauses), ("_births", v__births), ("_deaths", v__deaths), ("_rows", v__rows), ("_gaps", v__gaps)] : List (Str × V)) := (pf_miss (by decide +kernel) (pf_miss (by decide +kernel) (pf_miss (by decide +kernel) (pf_miss (by decide +kernel) (pf_miss (by decide +kernel) pf_nil)))))
theorem pi_Database__calls {v_generation v__clauses v__births v__deaths v__rows v__gaps v__calls v__next_number v__next_call : V} : putF "_calls" v__calls ([("generation", v_generation), ("_clauses", v__clauses), ("_births", v__births), ("_deaths", v__deaths), ("_rows", v__rows), ("_gaps", v__gaps)] : List (Str × V)) = ([("generation", v_generation), ("_clauses", v__clauses), ("_births", v__births), ("_deaths", v__deaths), ("_rows", v__rows), ("_gaps", v__gaps), ("_calls", v__calls)] : List (Str × V)) := (pf_miss (by decide +kernel) (pf_miss (by decide +kernel) (pf_miss (by decide +kernel) (pf_miss (by decide +kernel) (pf_miss (by decide +kernel) (pf_miss (by decide +kernel) pf_nil))))))
theorem pi_Database__next_number {v_generation v__clauses v__births v__deaths v__rows v__gaps v__calls v__next_number v__next_call : V} : putF "_next_number" v__next_number ([("generation", v_generation), ("_clauses", v__clauses), ("_births", v__births), ("_deaths", v__deaths), ("_rows", v__rows), ("_gaps", v__gaps), ("_calls", v__calls)] : List (Str × V)) = ([("generation", v_generation), ("_clauses", v__clauses), ("_births", v__births), ("_deaths", v__deaths), ("_rows", v__rows), ("_gaps", v__gaps), ("_calls", v__calls), ("_next_number", v__next_number)] : List (Str × V)) := (pf_miss (by decide +kernel) (pf_miss (by decide +kernel) (pf_miss (by decide +kernel) (pf_miss (by decide +kernel) (pf_miss (by decide +kernel) (pf_miss (by decide +kernel) (pf_miss (by decide +kernel) pf_nil)))))))
theorem pi_Database__next_call {v_generation v__clauses v__births v__deaths v__rows v__gaps v__calls v__next_number v__next_call : V} : putF "_next_call" v__next_call ([("generation", v_generation), ("_clauses", v__clauses), ("_births", v__births), ("_deaths", v__deaths), ("_rows", v__rows), ("_gaps", v__gaps), ("_calls", v__calls), ("_next_number", v__next_number)] : List (Str × V)) = ([("generation", v_generation), ("_clauses", v__clauses), ("_births", v__births), ("_deaths", v__deaths), ("_rows", v__rows), ("_gaps", v__gaps), ("_calls", v__calls), ("_next_number", v__next_number), ("_next_call", v__next_call)] : List (Str × V)) := (pf_miss (by decide +kernel) (pf_miss (by decide +kernel) (pf_miss (by decide +kernel) (pf_miss (by decide +kernel) (pf_miss (by decide +kernel) (pf_miss (by decide +kernel) (pf_miss (by decide +kernel) (pf_miss (by decide +kernel) pf_nil))))))))
/-- names that the top leaves to the built-ins, and its constants -/
structure Bi (K : PySem.W.Frag) (mg : Str → Option Value) : Prop where
  cl_Database : Cls K (clsA K "Database")
  nA_Database_generation : NoAttr K (clsA K "Database") "generation"
  nA_Database__clauses : NoAttr K (clsA K "Database") "_clauses"
  nA_Database__births : NoAttr K (clsA K "Database") "_births"
  nA_Database__deaths : NoAttr K (clsA K "Database") "_deaths"
  nA_Database__rows : NoAttr K (clsA K "Database") "_rows"
  nA_Database__gaps : NoAttr K (clsA K "Database") "_gaps"
  nA_Database__calls : NoAttr K (clsA K "Database") "_calls"
  nA_Database__next_number : NoAttr K (clsA K "Database") "_next_number"
  nA_Database__next_call : NoAttr K (clsA K "Database") "_next_call"
  x_BadClause : Xc K mg "BadClause" (clsA K "BadClause")
  x_Forgotten : Xc K mg "Forgotten" (clsA K "Forgotten")
  x_Closed : Xc K mg "Closed" (clsA K "Closed")
  b_abs : mg "abs" = Option.none
  b_int : mg "int" = Option.none
  b_isinstance : mg "isinstance" = Option.none
  b_len : mg "len" = Option.none
  b_list : mg "list" = Option.none
  b_range : mg "range" = Option.none
  b_tuple : mg "tuple" = Option.none
  c_MOST_CLAUSE_NODES : GV mg "MOST_CLAUSE_NODES" (.int 200)
  c_TRUE : GC K mg "TRUE" (.tuple [.tuple [.str "f", .str "true", .int (0)]])
  c_CLAUSE_SYMBOL : GC K mg "CLAUSE_SYMBOL" (.tuple [.str "f", .str ":-", .int (2)])
  c_CONTROL : GC K mg "CONTROL" (.tuple [.tuple [.str "true", .int (0)], .tuple [.str "fail", .int (0)], .tuple [.str "!", .int (0)], .tuple [.str ",", .int (2)], .tuple [.str ";", .int (2)], .tuple [.str "->", .int (2)], .tuple [.str "\\+", .int (1)], .tuple [.str "call", .int (1)], .tuple [.str "call", .int (2)], .tuple [.str "call", .int (3)], .tuple [.str "call", .int (4)], .tuple [.str "call", .int (5)], .tuple [.str "call", .int (6)], .tuple [.str "call", .int (7)], .tuple [.str "call", .int (8)], .tuple [.str "catch", .int (3)], .tuple [.str "findall", .int (3)], .tuple [.str "throw", .int (1)]])
  c_BUILT_IN : GC K mg "BUILT_IN" (.tuple [.tuple [.str "=", .int (2)], .tuple [.str "\\=", .int (2)], .tuple [.str "==", .int (2)], .tuple [.str "\\==", .int (2)], .tuple [.str "@<", .int (2)], .tuple [.str "compare", .int (3)], .tuple [.str "var", .int (1)], .tuple [.str "nonvar", .int (1)], .tuple [.str "atom", .int (1)], .tuple [.str "integer", .int (1)], .tuple [.str "callable", .int (1)], .tuple [.str "functor", .int (3)], .tuple [.str "arg", .int (3)], .tuple [.str "=..", .int (2)], .tuple [.str "copy_term", .int (2)], .tuple [.str "sort", .int (2)], .tuple [.str "is", .int (2)], .tuple [.str "=:=", .int (2)], .tuple [.str "<", .int (2)], .tuple [.str "=<", .int (2)], .tuple [.str "write", .int (1)], .tuple [.str "nl", .int (0)], .tuple [.str "asserta", .int (1)], .tuple [.str "assertz", .int (1)], .tuple [.str "retract", .int (1)], .tuple [.str "tabled", .int (1)], .tuple [.str "solve", .int (2)]])

/-! ### names, nodes, terms -/
def okSign (c : Nat) : Bool := decide (32 ≤ c) && decide (c ≤ 126) && !decide (c = 37)
def okName (x : Str) : Bool := decide (1 ≤ x.length) && decide (x.length ≤ 40) && x.cps.toList.all okSign
def names20 : List Str := ["a", "b", "f", "g", "hello", "[]", "+", "-", ",", "it's", "X", "a b", "{}", ".", "=", "'", "aB_1", "!", "0", "lvjkuwnd"]
def signs : Str := (Str.ofString " !\"#$&'()*+,-./0123456789:;<=>?@ABCDEFGHIJKLMNOPQRSTUVWXYZ[\\]^_`") ++ (Str.ofString "abcdefghijklmnopqrstuvwxyz{|}~")
theorem names20_ok : names20.all okName = true := by decide +kernel
theorem signs_ok : signs.cps.toList.all okSign = true := by decide +kernel
theorem signs_len : signs.length = 94 := by decide +kernel
theorem join_ones (e : Str) (he : e.cps = #[]) : ∀ cs : List Nat, (Str.join e (cs.map fun c => ⟨#[c]⟩)).cps.toList = cs
  | [] => rfl
  | [c] => rfl
  | c :: d :: r => by
    have ih := join_ones e he (d :: r)
    show ((⟨#[c]⟩ : Str) ++ e ++ Str.join e ((d :: r).map fun c => (⟨#[c]⟩ : Str))).cps.toList = c :: d :: r
    show (#[c] ++ e.cps ++ (Str.join e ((d :: r).map fun c => (⟨#[c]⟩ : Str))).cps).toList = c :: d :: r
    rw [he, Array.toList_append, ih]
    rfl
inductive Nd (wd : Int) : PyData → Prop
  | v (n : Int) : 0 ≤ n → n < wd → Nd wd (.tuple [.str "v", .int n])
  | i (n : Int) : -(10 ^ 40) < n → n < 10 ^ 40 → Nd wd (.int n)
  | f (x : Str) (n : Int) : okName x = true → 0 ≤ n → n ≤ 8 → Nd wd (.tuple [.str "f", .str x, .int n])
def arN : PyData → Nat
  | .tuple [_, _, c] => (match c with | .int n => n.toNat | _ => 0) | _ => 0
/-- from m missing terms on, the nodes are just these terms -/
def Cls : Nat → List PyData → Prop
  | m, [] => m = 0
  | m, d :: r => 0 < m ∧ Cls (m - 1 + arN d) r
structure Term (wd : Int) (ds : List PyData) : Prop where
  cl : Cls 1 ds
  nd : ∀ d ∈ ds, Nd wd d
/-! ### the promises -/
def sp__law_stream (K : PySem.W.Frag) : Sp := fun vs H Q _ => ∃ (a : Addr) (ns : List Int), vs = [.ref a] ∧ SqL K H a (ns.map V.int) ∧ ns.length ≤ 63 ∧ ∀ s l H', H s = Option.none → H l = Option.none → Same H H' → Stm H' s l → Q (.ref s) H'
def sp__law_draw (K : PySem.W.Frag) : Sp := fun vs H Q _ => ∃ (s l : Addr) (n : Int), vs = [.ref s, .int n] ∧ Stm H s l ∧ 0 < n ∧ n.natAbs < 2 ^ 9000 ∧ ∀ r H', 0 ≤ r → r < n → But s H H' → Stm H' s l → Q (.int r) H'
/-! ### nodes -/
def isSymN : PyData → Bool
  | .tuple [_, _, _] => true | _ => false
def NdA (d : PyData) : Prop := ∃ wd, Nd wd d
/-- how many nodes m terms take -/
def tk : Nat → List PyData → Nat
  | _, [] => 0
  | m, d :: r => if m = 0 then 0 else 1 + tk (m - 1 + arN d) r
theorem tk_zero (l : List PyData) : tk 0 l = 0 := by
  cases l with
  | nil => rfl
  | cons d r => exact if_pos rfl
theorem tk_cons {m : Nat} (h : 0 < m) (d : PyData) (r : List PyData) : tk m (d :: r) = 1 + tk (m - 1 + arN d) r := if_neg (by omega)
theorem arN_nsym {d : PyData} (h : isSymN d = false) : arN d = 0 := by
  cases d with
  | tuple ds =>
    rcases ds with _ | ⟨a, _ | ⟨b, _ | ⟨c, _ | ⟨e, r⟩⟩⟩⟩
    · rfl
    · rfl
    · rfl
    · cases h
    · rfl
  | _ => rfl
theorem tk_le : ∀ (l : List PyData) (m : Nat), tk m l ≤ l.length
  | [], _ => Nat.le_refl 0
  | d :: r, m => by
    by_cases h : m = 0
    · subst h; rw [tk_zero]; exact Nat.zero_le _
    · rw [tk_cons (by omega)]
      have := tk_le r (m - 1 + arN d)
      rw [List.length_cons]
      omega
theorem tk_add : ∀ (l : List PyData) (j m : Nat), tk (j + m) l = tk j l + tk m (l.drop (tk j l))
  | [], j, m => by simp [tk]
  | d :: r, j, m => by
    by_cases h : j = 0
    · subst h
      rw [tk_zero, Nat.zero_add, Nat.zero_add, List.drop_zero]
    · rw [tk_cons (by omega), tk_cons (m := j) (by omega), show j + m - 1 + arN d = (j - 1 + arN d) + m by omega, tk_add r (j - 1 + arN d) m]
      rw [show 1 + tk (j - 1 + arN d) r = tk (j - 1 + arN d) r + 1 by omega, List.drop_succ_cons]
      omega
/-- the rest of what is closed is closed -/
theorem cls_drop : ∀ (l : List PyData) (k j : Nat), Cls k l → j ≤ k → Cls (k - j) (l.drop (tk j l))
  | [], k, j, h, hj => by
    have hk : k = 0 := h
    rw [List.drop_nil]
    show k - j = 0
    omega
  | d :: r, k, j, h, hj => by
    by_cases z : j = 0
    · subst z
      rw [tk_zero]
      exact h
    · rw [tk_cons (by omega), show 1 + tk (j - 1 + arN d) r = tk (j - 1 + arN d) r + 1 by omega, List.drop_succ_cons]
      have := cls_drop r (k - 1 + arN d) (j - 1 + arN d) h.2 (by omega)
      rwa [show k - 1 + arN d - (j - 1 + arN d) = k - j by omega] at this
theorem cls_take : ∀ (l : List PyData) (k j : Nat), Cls k l → j ≤ k → Cls j (l.take (tk j l))
  | [], k, j, h, hj => by
    have hk : k = 0 := h
    rw [List.take_nil]
    show j = 0
    omega
  | d :: r, k, j, h, hj => by
    by_cases z : j = 0
    · subst z
      rw [tk_zero]
      rfl
    · rw [tk_cons (by omega), show 1 + tk (j - 1 + arN d) r = tk (j - 1 + arN d) r + 1 by omega, List.take_succ_cons]
      exact ⟨by omega, cls_take r (k - 1 + arN d) (j - 1 + arN d) h.2 (by omega)⟩
theorem tk_take : ∀ (l : List PyData) (i j : Nat), i ≤ j → tk i (l.take (tk j l)) = tk i l
  | [], i, j, _ => by rw [List.take_nil]
  | d :: r, i, j, h => by
    by_cases z : i = 0
    · subst z
      rw [tk_zero, tk_zero]
    · rw [tk_cons (m := j) (by omega), show 1 + tk (j - 1 + arN d) r = tk (j - 1 + arN d) r + 1 by omega, List.take_succ_cons, tk_cons (by omega), tk_cons (by omega), tk_take r _ _ (by omega)]
theorem take_full : ∀ (l : List PyData) (k : Nat), Cls k l → l.take (tk k l) = l
  | [], _, _ => List.take_nil
  | d :: r, k, h => by
    rw [tk_cons h.1, show 1 + tk (k - 1 + arN d) r = tk (k - 1 + arN d) r + 1 by omega, List.take_succ_cons, take_full r _ h.2]
theorem cls_map : ∀ (ds es : List PyData) (m : Nat), es.map arN = ds.map arN → Cls m ds → Cls m es
  | [], [], m, _, h => h
  | [], e :: es, m, h, _ => by cases h
  | d :: ds, [], m, h, _ => by cases h
  | d :: ds, e :: es, m, h, hc => by
    rw [List.map_cons, List.map_cons] at h
    obtain ⟨h1, h2⟩ := List.cons.inj h
    exact ⟨hc.1, by rw [h1]; exact cls_map ds es _ h2 hc.2⟩
/-! ### nodes can be compared -/
theorem okName_cps {x : Str} (h : okName x = true) : PyData.strOk x = true := by
  unfold okName at h
  rw [Bool.and_eq_true] at h
  unfold PyData.strOk
  rw [← Array.all_toList]
  refine List.all_eq_true.mpr fun c hc => ?_
  have := List.all_eq_true.mp h.2 c hc
  unfold okSign at this
  simp only [Bool.and_eq_true, decide_eq_true_eq] at this
  exact decide_eq_true (by omega)
theorem nd_lay {d : PyData} (h : NdA d) : d.canLay0 = true ∧ d.depth ≤ 1 ∧ d.eqv d = true := by
  obtain ⟨wd, h⟩ := h
  cases h with
  | v n _ _ => exact ⟨by simp only [PyData.canLay0, PyData.canLayAll0]; decide +kernel, by simp [PyData.depth, PyData.depthAll], by simp only [PyData.eqv, PyData.eqvAll, beq_self_eq_true, Bool.and_self]⟩
  | i n _ _ => exact ⟨by simp only [PyData.canLay0], by simp [PyData.depth], by simp only [PyData.eqv, beq_self_eq_true]⟩
  | f x n hx _ _ => exact ⟨by simp only [PyData.canLay0, PyData.canLayAll0]; rw [okName_cps hx]; decide +kernel, by simp [PyData.depth, PyData.depthAll], by simp only [PyData.eqv, PyData.eqvAll, beq_self_eq_true, Bool.and_self]⟩
theorem nds_lay : ∀ {ds : List PyData}, (∀ d ∈ ds, NdA d) → PyData.canLayAll0 ds = true ∧ PyData.depthAll ds ≤ 1 ∧ PyData.eqvAll ds ds = true
  | [], _ => ⟨by simp only [PyData.canLayAll0], by simp [PyData.depthAll], by simp only [PyData.eqvAll]⟩
  | d :: r, h => by
    obtain ⟨a1, a2, a3⟩ := nd_lay (h d List.mem_cons_self)
    obtain ⟨b1, b2, b3⟩ := nds_lay (ds := r) fun e he => h e (List.mem_cons_of_mem _ he)
    refine ⟨by simp only [PyData.canLayAll0, a1, b1, Bool.and_self], ?_, by simp only [PyData.eqvAll, a3, b3, Bool.and_self]⟩
    simp only [PyData.depthAll]
    omega
theorem nd_shaped {d : PyData} (h : NdA d) : SeqAt.shaped d = true := by
  obtain ⟨a1, a2, _⟩ := nd_lay h
  show (d.canLay0 && decide (d.depth ≤ 64)) = true
  rw [a1, decide_eq_true (by omega)]
  rfl
theorem tup_shaped {ds : List PyData} (h : ∀ d ∈ ds, NdA d) : SeqAt.shaped (.tuple ds) = true := by
  obtain ⟨a1, a2, _⟩ := nds_lay h
  have hd : (PyData.tuple ds).depth ≤ 64 := by
    simp only [PyData.depth]
    omega
  have hc : (PyData.tuple ds).canLay0 = true := by
    simp only [PyData.canLay0]
    exact a1
  show ((PyData.tuple ds).canLay0 && decide ((PyData.tuple ds).depth ≤ 64)) = true
  rw [hc, decide_eq_true hd]
  rfl
theorem tup_eqv {ds : List PyData} (h : ∀ d ∈ ds, NdA d) : PyData.eqv (.tuple ds) (.tuple ds) = true := by
  simp only [PyData.eqv]
  exact (nds_lay h).2.2
/-- name = {k: v for ..} on one line, the name a local -/
theorem ps_setDc {X : Cx} {i : Nat} {y : Str} {py : Pos} {kx vx tg iter : Expr} {ifs : List Expr} {scope : Scope} {own : List (Str × Nat)} {pos spos : Pos} {wi : TI} {g : TG} {tt : TT} {tk tv : TE} (c1 : X.calm = true) (c2 : X.N.Nodup) (c3 : X.N[i]? = some y) (c4 : X.env.scope.names.lookup y = some .local)
    (c5 : swapsWith (.DictComp kx vx [⟨tg, iter, ifs, 0⟩] scope pos) (some (.Name y py)) spos.line X.env = pure true) (c6 : PI X tg iter wi) (c7 : BlkOk X.N X.env.scope scope own)
    (c8 : ∀ (z : Shared) (H : Hp) (C : Addr) (cl : List (Str × Addr)) (fp : List Addr), PG (X.blk z H scope (compEnvC scope cl C X.env) fp) tg g) (c9 : ∀ (z : Shared) (H : Hp) (C : Addr) (cl : List (Str × Addr)) (fp : List Addr), PTs (X.blk z H scope (compEnvC scope cl C X.env) fp) ifs tt)
    (d1 : ∀ (z : Shared) (H : Hp) (C : Addr) (cl : List (Str × Addr)) (fp : List Addr), PE (X.blk z H scope (compEnvC scope cl C X.env) fp) kx tk)
    (d2 : ∀ (z : Shared) (H : Hp) (C : Addr) (cl : List (Str × Addr)) (fp : List Addr), PE (X.blk z H scope (compEnvC scope cl C X.env) fp) vx tv) (d3 : ∀ x, foldedSetIterable iter X.env x = pure x := by intro _; rfl) :
    PS X (.Assign [.Name y py] (.DictComp kx vx [⟨tg, iter, ifs, 0⟩] scope pos) spos) (tAsg (tDc wi g tt tk tv (own.map (·.2))) (gName i)) := by
  refine ⟨fun pins st0 σ H D inv hyp => ?_⟩
  have hyp' : tDc wi g tt tk tv (own.map (·.2)) σ H (fun v Hq => gName i v σ Hq D.nx) := hyp
  rw [exec_Assign_Name_used _ _ _ _ c5]
  refine wpAny_bind <| wpAny_standAt <| wpAny_bind ?_
  show wpAny _ X.A (do let _ ← comprehension (.DictComp kx vx [⟨tg, iter, ifs, 0⟩] scope pos) scope X.env (firstIterPos [⟨tg, iter, ifs, 0⟩] pos) newDict false (eval iter X.env) (some (assign (.Name y py) X.env))) _ _ st0
  have core := dc_core (Qf := fun _ fin => SP X pins D .next fin) (pos := pos) (pos' := firstIterPos [⟨tg, iter, ifs, 0⟩] pos) (use := some (assign (.Name y py) X.env)) c1 c2 inv c6 c7 c8 c9 d1 d2 d3 hyp' fun L C fin mm Hf inv' qf nsC fp => by
    show wpAny _ _ (assign (.Name y py) X.env (.ref L)) _ _ _
    obtain ⟨e0, e1, e2, e3, e4, e5⟩ := fp
    refine wpAny_assign_Name (store_ok2 (v := V.ref L) inv' c2 c3 (.inl c4) rfl (fun fin2 inv2 ⟨w, same, hw⟩ => ?_) (.inr c4))
    have cw : C ≠ w := by
      intro z
      cases hw with
      | inl hw => exact e1 (z.trans hw)
      | inr hw => exact e4 y w hw z.symm
    exact ⟨mm, nsC.sameBut same cw, fun h3 sb3 => ⟨_, Hf, inv2.turned (t' := fin2.toks) (fun b o hb e => (sb3.2 b hb).trans e) e0 e1 e3 e4 e5, qf⟩⟩
  exact wpAny_bind (thn core fun _ fin hq => wpAny_pure (wpAny_pure hq))
theorem seq_via {t u : TS} {D : Ends} {σ : L2.St} {H : Hp} (P : L2.St → Hp → Prop) (hu : ∀ σ H, P σ H → u D σ H) (ht : (∀ σ H, P σ H → u D σ H) → t { D with nx := u D } σ H) : tSeq t u D σ H := ht hu
def isVarN : PyData → Bool
  | .tuple [_, _] => true | _ => false
def numN : PyData → Int
  | .tuple [_, .int n] => n | _ => 0
theorem var_arN {d : PyData} (h : isVarN d = true) : arN d = 0 := by
  cases d with
  | tuple ds =>
    rcases ds with _ | ⟨a, _ | ⟨b, _ | ⟨c, r⟩⟩⟩
    · rfl
    · rfl
    · rfl
    · cases h
  | _ => rfl
theorem nd_eq {d e : PyData} (h : NdA d) (h2 : NdA e) (q : PyData.eqv d e = true) : d = e := by
  obtain ⟨wd, h⟩ := h
  obtain ⟨we, h2⟩ := h2
  cases h with
  | v n _ _ =>
    cases h2 with
    | v m _ _ =>
      simp only [PyData.eqv, PyData.eqvAll, Bool.and_eq_true, beq_iff_eq] at q
      rw [q.2.1]
    | i m _ _ => simp [PyData.eqv] at q
    | f x m _ _ _ => simp [PyData.eqv, PyData.eqvAll] at q
  | i n _ _ =>
    cases h2 with
    | v m _ _ => simp [PyData.eqv] at q
    | i m _ _ =>
      simp only [PyData.eqv, beq_iff_eq] at q
      rw [q]
    | f x m _ _ _ => simp [PyData.eqv] at q
  | f x n _ _ _ =>
    cases h2 with
    | v m _ _ => simp [PyData.eqv, PyData.eqvAll] at q
    | i m _ _ => simp [PyData.eqv] at q
    | f y m _ _ _ =>
      simp only [PyData.eqv, PyData.eqvAll, Bool.and_eq_true, beq_iff_eq] at q
      rw [q.2.1, q.2.2.1]
theorem nds_eq : ∀ {ds es : List PyData}, (∀ d ∈ ds, NdA d) → (∀ e ∈ es, NdA e) → PyData.eqvAll ds es = true → ds = es
  | [], [], _, _, _ => rfl
  | [], _ :: _, _, _, h => by simp [PyData.eqvAll] at h
  | _ :: _, [], _, _, h => by simp [PyData.eqvAll] at h
  | d :: ds, e :: es, h1, h2, h => by
    simp only [PyData.eqvAll, Bool.and_eq_true] at h
    rw [nd_eq (h1 d List.mem_cons_self) (h2 e List.mem_cons_self) h.1, nds_eq (fun x hx => h1 x (List.mem_cons_of_mem _ hx)) (fun x hx => h2 x (List.mem_cons_of_mem _ hx)) h.2]
theorem tup_eq {ds es : List PyData} (h1 : ∀ d ∈ ds, NdA d) (h2 : ∀ e ∈ es, NdA e) (h : PyData.eqv (.tuple ds) (.tuple es) = true) : ds = es := by
  simp only [PyData.eqv] at h
  exact nds_eq h1 h2 h
theorem cls_app : ∀ (l r : List PyData) (j k : Nat), Cls j l → Cls k r → Cls (j + k) (l ++ r)
  | [], r, j, k, h, h2 => by
    have e : j = 0 := h
    rw [e, Nat.zero_add]
    exact h2
  | d :: l, r, j, k, h, h2 => by
    refine ⟨by have := h.1; omega, ?_⟩
    have := cls_app l r (j - 1 + arN d) k h.2 h2
    have e := h.1
    rwa [show j - 1 + arN d + k = j + k - 1 + arN d by omega] at this
/-- at each place of what is closed so many terms are missing -/
theorem cls_split : ∀ (ds : List PyData) (m i : Nat), Cls m ds → i ≤ ds.length → ∃ k, Cls k (ds.drop i) ∧ ∀ t, Cls k t → Cls m (ds.take i ++ t)
  | ds, m, 0, h, _ => ⟨m, h, fun t ht => ht⟩
  | [], m, i + 1, h, hi => absurd hi (by simp)
  | d :: ds, m, i + 1, h, hi => by
    obtain ⟨k, h1, h2⟩ := cls_split ds (m - 1 + arN d) i h.2 (by simpa using hi)
    exact ⟨k, h1, fun t ht => ⟨h.1, h2 t ht⟩⟩
abbrev Tab := List (Int × List PyData)
def valT (t : Tab) (n : Int) : Option (List PyData) := (t.find? fun p => decide (p.1 = n)).map (·.2)
/-- a dict with this table -/
def TabK (K : PySem.W.Frag) (H : Hp) : List (Key × V) → Tab → Prop
  | [], [] => True
  | p :: kvs, q :: t => p.1 = Sum.inl q.1 ∧ Dp K H p.2 (.tuple q.2) ∧ TabK K H kvs t
  | _, _ => False
def TabN (t : Tab) : Prop := ∀ p ∈ t, (∀ d ∈ p.2, NdA d)
theorem TabK.len {K : PySem.W.Frag} {H : Hp} : ∀ {kvs : List (Key × V)} {t : Tab}, TabK K H kvs t → kvs.length = t.length
  | [], [], _ => rfl
  | [], _ :: _, h => h.elim
  | _ :: _, [], h => h.elim
  | p :: kvs, q :: t, h => congrArg (· + 1) (TabK.len h.2.2)
theorem TabK.mono {K : PySem.W.Frag} {H H' : Hp} (f : ∀ v ds, (∀ d ∈ ds, NdA d) → Dp K H v (.tuple ds) → Dp K H' v (.tuple ds)) : ∀ {kvs : List (Key × V)} {t : Tab}, TabN t → TabK K H kvs t → TabK K H' kvs t
  | [], [], _, _ => True.intro
  | [], _ :: _, _, h => h.elim
  | _ :: _, [], _, h => h.elim
  | p :: kvs, q :: t, n, h => ⟨h.1, f _ _ (n q List.mem_cons_self) h.2.1, TabK.mono f (fun x hx => n x (List.mem_cons_of_mem _ hx)) h.2.2⟩
theorem TabK.val {K : PySem.W.Frag} {H : Hp} (n : Int) : ∀ {kvs : List (Key × V)} {t : Tab}, TabK K H kvs t → (valV kvs (Sum.inl n) = none ∧ valT t n = none) ∨ ∃ v ds, valV kvs (Sum.inl n) = some v ∧ valT t n = some ds ∧ Dp K H v (.tuple ds)
  | [], [], _ => .inl ⟨rfl, rfl⟩
  | [], _ :: _, h => h.elim
  | _ :: _, [], h => h.elim
  | p :: kvs, q :: t, h => by
    by_cases e : q.1 = n
    · refine .inr ⟨p.2, q.2, valV_pos (by rw [h.1, e]), ?_, h.2.1⟩
      unfold valT
      rw [List.find?_cons, decide_eq_true e]
      rfl
    · have e1 : ¬ p.1 = Sum.inl n := fun z => e (Sum.inl.inj (h.1.symm.trans z))
      have e2 : valT (q :: t) n = valT t n := by
        unfold valT
        rw [List.find?_cons, decide_eq_false e]
      rw [valV_neg e1, e2]
      exact TabK.val n h.2.2
theorem TabK.snoc {K : PySem.W.Frag} {H : Hp} {n : Int} {v : V} {ds : List PyData} (hd : Dp K H v (.tuple ds)) : ∀ {kvs : List (Key × V)} {t : Tab}, TabK K H kvs t → TabK K H (kvs ++ [(Sum.inl n, v)]) (t ++ [(n, ds)])
  | [], [], _ => ⟨rfl, hd, True.intro⟩
  | [], _ :: _, h => h.elim
  | _ :: _, [], h => h.elim
  | p :: kvs, q :: t, h => ⟨h.1, h.2.1, TabK.snoc hd h.2.2⟩
theorem valT_snoc (t : Tab) (n m : Int) (ds : List PyData) (h : valT t n = none) : valT (t ++ [(n, ds)]) m = if m = n then some ds else valT t m := by
  unfold valT at *
  rw [List.find?_append]
  cases e : t.find? fun p => decide (p.1 = m) with
  | some p =>
    have hm : ¬ m = n := fun z => by rw [z] at e; rw [e] at h; cases h
    rw [if_neg hm]
    rfl
  | none =>
    by_cases hm : m = n
    · rw [if_pos hm, Option.none_or]
      rw [List.find?_cons, decide_eq_true hm.symm]
      rfl
    · rw [if_neg hm, Option.none_or]
      rw [List.find?_cons, decide_eq_false (fun z => hm z.symm)]
      rfl
theorem valT_none {t : Tab} {n : Int} (h : valT t n = none) : ∀ q ∈ t, q.1 ≠ n := by
  intro q hq e
  unfold valT at h
  rw [Option.map_eq_none_iff, List.find?_eq_none] at h
  exact h q hq (decide_eq_true e)
mutual
def noL : PyData → Bool
  | .none => true
  | .bool _ => true
  | .int _ => true
  | .str _ => true
  | .tuple ds => noLA ds
  | .list _ => false
  | .dict _ => false
def noLA : List PyData → Bool
  | [] => true
  | d :: ds => noL d && noLA ds
end
def notTup (H : Hp) (p : Addr) : Prop := (∃ ys, H p = some (.lst ys)) ∨ (∃ kvs, H p = some (.dK kvs)) ∨ ∃ o kvs, H p = some (.frz o (.dK kvs))
theorem sqT_put {K : PySem.W.Frag} {H : Hp} {p b : Addr} {o : HO} {xs : List V} (hp : notTup H p) (h : SqT K H b xs) : SqT K (upd H p o) b xs := by
  rcases h with (h | ⟨q, h⟩) | h
  · exact .inl (.inl (by rw [upd_ne (fun z => by rw [z] at h; rcases hp with ⟨_, hp⟩ | ⟨_, hp⟩ | ⟨_, _, hp⟩ <;> (rw [hp] at h; cases h))]; exact h))
  · exact .inl (.inr ⟨q, by rw [upd_ne (fun z => by rw [z] at h; rcases hp with ⟨_, hp⟩ | ⟨_, hp⟩ | ⟨_, _, hp⟩ <;> (rw [hp] at h; cases h))]; exact h⟩)
  · exact .inr h
section
variable {K : PySem.W.Frag} {H : Hp} {p : Addr} {o : HO}
mutual
theorem dp_put (hp : notTup H p) : ∀ (d : PyData) (v : V), noL d = true → Dp K H v d → Dp K (upd H p o) v d
  | .none, _, _, h => by cases h; exact .non
  | .bool b, _, _, h => by cases h; exact .bl b
  | .int i, _, _, h => by cases h; exact .int i
  | .str x, _, _, h => by cases h; exact .str x
  | .list ds, _, n, h => by simp [noL] at n
  | .tuple ds, _, n, h => by
    cases h with
    | tup g ha => exact .tup (sqT_put hp g) (dp_putAll hp ds _ (by simpa [noL] using n) ha)
  | .dict _, _, n, h => by cases h
theorem dp_putAll (hp : notTup H p) : ∀ (ds : List PyData) (vs : List V), noLA ds = true → DpAll K H vs ds → DpAll K (upd H p o) vs ds
  | [], _, _, h => by cases h; exact .nil
  | d :: ds, _, n, h => by
    rw [noLA, Bool.and_eq_true] at n
    cases h with
    | cons h1 h2 => exact .cons (dp_put hp d _ n.1 h1) (dp_putAll hp ds _ n.2 h2)
end
end
theorem nd_noL {d : PyData} (h : NdA d) : noL d = true := by
  obtain ⟨wd, h⟩ := h
  cases h <;> simp [noL, noLA]
theorem nds_noL : ∀ {ds : List PyData}, (∀ d ∈ ds, NdA d) → noLA ds = true
  | [], _ => by simp [noLA]
  | d :: r, h => by rw [noLA, nd_noL (h d List.mem_cons_self), nds_noL fun e he => h e (List.mem_cons_of_mem _ he)]; rfl
theorem tup_noL {ds : List PyData} (h : ∀ d ∈ ds, NdA d) : noL (.tuple ds) = true := by rw [noL]; exact nds_noL h
theorem tab_put {K : PySem.W.Frag} {H : Hp} {p : Addr} {o : HO} {kvs : List (Key × V)} {t : Tab} (hp : notTup H p) (n : TabN t) (h : TabK K H kvs t) : TabK K (upd H p o) kvs t := TabK.mono (fun v ds hn hd => dp_put hp _ _ (tup_noL hn) hd) n h
theorem tab_same {K : PySem.W.Frag} {H H' : Hp} {kvs : List (Key × V)} {t : Tab} (s : Same H H') (n : TabN t) (h : TabK K H kvs t) : TabK K H' kvs t := TabK.mono (fun v ds _ hd => dp_same s _ _ hd) n h
section
variable {K : PySem.W.Frag} {H H' : Hp}
mutual
theorem dp_map (f : ∀ b xs, SqT K H b xs → SqT K H' b xs) : ∀ (d : PyData) (v : V), noL d = true → Dp K H v d → Dp K H' v d
  | .none, _, _, h => by cases h; exact .non
  | .bool b, _, _, h => by cases h; exact .bl b
  | .int i, _, _, h => by cases h; exact .int i
  | .str x, _, _, h => by cases h; exact .str x
  | .list ds, _, n, h => by simp [noL] at n
  | .tuple ds, _, n, h => by
    cases h with
    | tup g ha => exact .tup (f _ _ g) (dp_mapAll f ds _ (by simpa [noL] using n) ha)
  | .dict _, _, n, h => by cases h
theorem dp_mapAll (f : ∀ b xs, SqT K H b xs → SqT K H' b xs) : ∀ (ds : List PyData) (vs : List V), noLA ds = true → DpAll K H vs ds → DpAll K H' vs ds
  | [], _, _, h => by cases h; exact .nil
  | d :: ds, _, n, h => by
    rw [noLA, Bool.and_eq_true] at n
    cases h with
    | cons h1 h2 => exact .cons (dp_map f d _ n.1 h1) (dp_mapAll f ds _ n.2 h2)
end
theorem sqT_but {p b : Addr} {xs : List V} (hp : notTup H p) (hb : But p H H') (h : SqT K H b xs) : SqT K H' b xs := by
  rcases h with (h | ⟨q, h⟩) | h
  · exact .inl (.inl (hb _ _ (fun z => by rw [z] at h; rcases hp with ⟨_, hp⟩ | ⟨_, hp⟩ | ⟨_, _, hp⟩ <;> (rw [hp] at h; cases h)) h))
  · exact .inl (.inr ⟨q, hb _ _ (fun z => by rw [z] at h; rcases hp with ⟨_, hp⟩ | ⟨_, hp⟩ | ⟨_, _, hp⟩ <;> (rw [hp] at h; cases h)) h⟩)
  · exact .inr h
/-- draws change the stream alone -/
theorem dp_but {s l : Addr} {v : V} {ds : List PyData} (S : Stm H s l) (b : But s H H') (n : ∀ d ∈ ds, NdA d) (h : Dp K H v (.tuple ds)) : Dp K H' v (.tuple ds) := by
  obtain ⟨x, y, m, ns, e, _⟩ := S.ex
  exact dp_map (fun c xs g => sqT_but (.inl ⟨_, e⟩) b g) _ _ (tup_noL n) h
end
theorem TabK.rep {K : PySem.W.Frag} {H : Hp} {n : Int} {v : V} {ds : List PyData} (hd : Dp K H v (.tuple ds)) : ∀ {kvs : List (Key × V)} {t : Tab}, TabK K H kvs t → TabK K H (kvs.map fun kv => if kv.1 = Sum.inl n then (kv.1, v) else kv) (t.map fun q => if q.1 = n then (q.1, ds) else q)
  | [], [], _ => True.intro
  | [], _ :: _, h => h.elim
  | _ :: _, [], h => h.elim
  | p :: kvs, q :: t, h => by
    have i : p.1 = Sum.inl n ↔ q.1 = n := by rw [h.1]; exact ⟨fun z => Sum.inl.inj z, fun z => congrArg _ z⟩
    refine ⟨?_, ?_, TabK.rep hd h.2.2⟩
    · by_cases e : q.1 = n
      · simp only [if_pos e, if_pos (i.mpr e)]; exact h.1
      · simp only [if_neg e, if_neg (fun z => e (i.mp z))]; exact h.1
    · by_cases e : q.1 = n
      · simp only [if_pos e, if_pos (i.mpr e)]; exact hd
      · simp only [if_neg e, if_neg (fun z => e (i.mp z))]; exact h.2.1
theorem TabK.put {K : PySem.W.Frag} {H : Hp} {n : Int} {v : V} {ds : List PyData} (hd : Dp K H v (.tuple ds)) {kvs : List (Key × V)} {t : Tab} (h : TabK K H kvs t) : ∃ t', TabK K H (putK kvs (Sum.inl n) v) t' ∧ (∀ q ∈ t', q ∈ t ∨ q.2 = ds) ∧ t'.length ≤ t.length + 1 := by
  unfold putK
  split
  · refine ⟨_, TabK.rep hd h, fun q hq => ?_, by rw [List.length_map]; exact Nat.le_succ _⟩
    obtain ⟨q', h1, h2⟩ := List.mem_map.mp hq
    split at h2
    · right; rw [← h2]
    · left; rw [← h2]; exact h1
  · refine ⟨_, TabK.snoc hd h, fun q hq => ?_, by rw [List.length_append]; exact Nat.le_refl _⟩
    rcases List.mem_append.mp hq with z | z
    · exact .inl z
    · right; rw [List.mem_singleton.mp z]
theorem TabK.at_ {K : PySem.W.Frag} {H : Hp} : ∀ {kvs : List (Key × V)} {t : Tab} {i : Nat} {k : Key} {v : V}, TabK K H kvs t → kvs[i]? = some (k, v) → ∃ q, q ∈ t ∧ k = Sum.inl q.1
  | [], [], i, k, v, _, h => by simp at h
  | [], _ :: _, _, _, _, h, _ => h.elim
  | _ :: _, [], _, _, _, h, _ => h.elim
  | p :: kvs, q :: t, 0, k, v, h, e => by
    rw [List.getElem?_cons_zero] at e
    cases e
    exact ⟨q, List.mem_cons_self, h.1⟩
  | p :: kvs, q :: t, i + 1, k, v, h, e => by
    rw [List.getElem?_cons_succ] at e
    obtain ⟨q', h1, h2⟩ := TabK.at_ h.2.2 e
    exact ⟨q', List.mem_cons_of_mem _ h1, h2⟩
theorem valT_of {t : Tab} {q : Int × List PyData} (h : q ∈ t) : ∃ ds, valT t q.1 = some ds := by
  cases e : valT t q.1 with
  | some ds => exact ⟨ds, rfl⟩
  | none => exact absurd rfl (valT_none e q h)
theorem putK_old {kvs : List (Key × V)} {k : Key} {v w : V} (h : valV kvs k = some w) : putK kvs k v = kvs.map fun kv => if kv.1 = k then (kv.1, v) else kv := by
  unfold putK
  rw [if_pos (by rw [valV_any, h]; rfl)]
theorem valT_mem {t : Tab} {n : Int} {ds : List PyData} (h : valT t n = some ds) : ∃ q ∈ t, q.2 = ds := by
  unfold valT at h
  cases e : t.find? fun p => decide (p.1 = n) with
  | none => rw [e] at h; cases h
  | some p =>
    rw [e] at h
    exact ⟨p, List.mem_of_find?_eq_some e, Option.some.inj h⟩
/-- a dict comprehension over what is walked -/
theorem dc_it {J : It} {n : Nat} {G : Hp → Prop} {Y : Nat → Hp → V → Hp → Prop} (wk : Walk J n G Y) {g : TG} {tt : TT} {tk tv : TE} {vs : List Nat} {σ : L2.St} {H1 : Hp} {D : Addr} {Qd : Hp → Prop} (Pv : Nat → Hp → Prop) (p0 : Pv 0 (upd H1 D (.dK []))) (pG : ∀ i H, i ≤ n → Pv i H → G H)
    (turn : ∀ i x H H', i < n → Pv i H → Y i H x H' → g x (wipe σ vs) H' fun σ2 H2 => wipe σ2 vs = wipe σ vs ∧ tt σ2 H2 fun b H3 =>
      if b = true then tk σ2 H3 fun y H4 => tv σ2 H4 fun z H5 => ∃ kvs k, y = kV k ∧ H5 D = some (.dK kvs) ∧ kvs.length < sizeLine ∧ Pv (i + 1) (upd H5 D (.dK (putK kvs k z))) else Pv (i + 1) H3) (pd : ∀ H, Pv n H → Qd H) :
    ∃ W : Nat → Nat → Hp → Prop, (∃ m, W 0 m (upd H1 D (.dK []))) ∧ ∀ i m H, W i m H →
      (J.stop i H ∧ Qd H) ∨ (J.go i H ∧ ∃ Nx : Hp → Prop, (∀ H', Nx H' → ∃ m', m' < m ∧ W (i + 1) m' H') ∧ ∀ x H', J.yld i H x H' → g x (wipe σ vs) H' fun σ2 H2 => wipe σ2 vs = wipe σ vs ∧ tt σ2 H2 fun b H3 =>
        if b = true then tk σ2 H3 fun y H4 => tv σ2 H4 fun z H5 => ∃ kvs k, y = kV k ∧ H5 D = some (.dK kvs) ∧ kvs.length < sizeLine ∧ Nx (upd H5 D (.dK (putK kvs k z))) else Nx H3) := by
  refine ⟨fun i m H => m = n - i ∧ i ≤ n ∧ Pv i H, ⟨n, by simp, Nat.zero_le _, p0⟩, ?_⟩
  rintro i m H ⟨rfl, hi, hp⟩
  have hg := pG i H hi hp
  rcases Nat.lt_or_ge i n with hlt | hge
  · exact .inr ⟨wk.goes i H hlt hg, Pv (i + 1), fun σ' p' => ⟨n - (i + 1), by omega, rfl, hlt, p'⟩, fun x H' y => turn i x H H' hlt hp (wk.yields i H x H' hlt hg y)⟩
  · obtain rfl : i = n := by omega
    exact .inl ⟨wk.stops H hg, pd H hp⟩
theorem TabK.get {K : PySem.W.Frag} {H : Hp} : ∀ {kvs : List (Key × V)} {t : Tab} {i : Nat} {kv : Key × V}, TabK K H kvs t → kvs[i]? = some kv → ∃ q, t[i]? = some q ∧ kv.1 = Sum.inl q.1 ∧ Dp K H kv.2 (.tuple q.2)
  | [], [], i, kv, _, h => by simp at h
  | [], _ :: _, _, _, h, _ => h.elim
  | _ :: _, [], _, _, h, _ => h.elim
  | p :: kvs, q :: t, 0, kv, h, e => by
    rw [List.getElem?_cons_zero] at e
    cases e
    exact ⟨q, rfl, h.1, h.2.1⟩
  | p :: kvs, q :: t, i + 1, kv, h, e => by
    rw [List.getElem?_cons_succ] at e
    obtain ⟨q', h1, h2⟩ := TabK.get h.2.2 e
    exact ⟨q', by rw [List.getElem?_cons_succ]; exact h1, h2⟩
theorem valT_notin {t : Tab} {n : Int} (h : n ∉ t.map (·.1)) : valT t n = none := by
  unfold valT
  rw [Option.map_eq_none_iff, List.find?_eq_none]
  exact fun q hq e => h (List.mem_map.mpr ⟨q, hq, of_decide_eq_true e⟩)
theorem TabK.none {K : PySem.W.Frag} {H : Hp} {kvs : List (Key × V)} {t : Tab} {n : Int} (T : TabK K H kvs t) (h : n ∉ t.map (·.1)) : valV kvs (Sum.inl n) = Option.none := by
  rcases TabK.val n T with ⟨w, _⟩ | ⟨v, ds, _, w, _⟩
  · exact w
  · rw [valT_notin h] at w; cases w
theorem TabK.some {K : PySem.W.Frag} {H : Hp} {kvs : List (Key × V)} {t : Tab} {n : Int} (T : TabK K H kvs t) (h : n ∈ t.map (·.1)) : (valV kvs (Sum.inl n)).isSome = true := by
  obtain ⟨q, hq, rfl⟩ := List.mem_map.mp h
  rcases TabK.val q.1 T with ⟨_, w⟩ | ⟨v, ds, w, _, _⟩
  · exact absurd rfl (valT_none w q hq)
  · rw [w]; rfl
/-- a key that is new goes to the end -/
theorem TabK.add {K : PySem.W.Frag} {H : Hp} {kvs : List (Key × V)} {t : Tab} {n : Int} {v : V} {ds : List PyData} (T : TabK K H kvs t) (h : n ∉ t.map (·.1)) (hd : Dp K H v (.tuple ds)) : TabK K H (putK kvs (Sum.inl n) v) (t ++ [(n, ds)]) := by
  rw [putK_new _ (T.none h)]
  exact TabK.snoc hd T
/-- the i-th key is none of those before -/
theorem nodup_new {t : Tab} {i : Nat} {q : Int × List PyData} (h : (t.map (·.1)).Nodup) (hq : t[i]? = some q) : q.1 ∉ (t.take i).map (·.1) := by
  intro hm
  obtain ⟨x, hx, e⟩ := List.mem_map.mp hm
  obtain ⟨j, hj⟩ := List.getElem?_of_mem hx
  have hji : j < i := by
    have := (List.getElem?_eq_some_iff.mp hj).1
    rw [List.length_take] at this
    omega
  rw [List.getElem?_take_of_lt hji] at hj
  have a1 : (t.map (·.1))[j]? = some q.1 := by rw [List.getElem?_map, hj, ← e]; rfl
  have a2 : (t.map (·.1))[i]? = some q.1 := by rw [List.getElem?_map, hq]; rfl
  have b1 := (List.getElem?_eq_some_iff.mp a1).1
  have := (List.getElem?_inj b1 h).mp (a1.trans a2.symm)
  omega
/-! ### substitutions -/
def varN (n : Int) : List PyData := [.tuple [.str "v", .int n]]
def appN (t : Tab) (d : PyData) : List PyData := if isVarN d = true then (match valT t (numN d) with | some w => w | none => [d]) else [d]
def appM (t : Tab) (ds : List PyData) : List PyData := ds.flatMap (appN t)
/-- a value that is the key itself falls out -/
def keepN (n : Int) (w : List PyData) : Option (List PyData) := if PyData.eqv (.tuple w) (.tuple (varN n)) = true then none else some w
def compV (t u : Tab) (n : Int) : Option (List PyData) :=
  match valT t n with
  | some w => keepN n (appM u w)
  | none => (match valT u n with | some w => keepN n w | none => none)
theorem var_form {d : PyData} (h : NdA d) (v : isVarN d = true) : ∃ n, d = .tuple [.str "v", .int n] := by
  obtain ⟨wd, nd⟩ := h
  cases nd with
  | v n _ _ => exact ⟨n, rfl⟩
  | i n _ _ => cases v
  | f x n _ _ _ => cases v
theorem var_nd {n : Int} (h : 0 ≤ n) : ∀ d ∈ varN n, NdA d := fun d hd => ⟨n + 1, by rw [List.mem_singleton.mp hd]; exact .v n h (by omega)⟩
theorem valT_nd {t : Tab} {n : Int} {w : List PyData} (ht : TabN t) (h : valT t n = some w) : ∀ d ∈ w, NdA d := by
  obtain ⟨q, hq, e⟩ := valT_mem h
  rw [← e]
  exact ht q hq
theorem appN_nd {t : Tab} (ht : TabN t) {d : PyData} (hd : NdA d) : ∀ e ∈ appN t d, NdA e := by
  unfold appN
  by_cases v : isVarN d = true
  · rw [if_pos v]
    cases e : valT t (numN d) with
    | some w => exact valT_nd ht e
    | none => exact fun e he => by rw [List.mem_singleton.mp he]; exact hd
  · rw [if_neg v]
    exact fun e he => by rw [List.mem_singleton.mp he]; exact hd
theorem appM_nd {t : Tab} (ht : TabN t) {ds : List PyData} (hd : ∀ d ∈ ds, NdA d) : ∀ e ∈ appM t ds, NdA e := fun e he => by
  obtain ⟨d, h1, h2⟩ := List.mem_flatMap.mp he
  exact appN_nd ht (hd d h1) e h2
theorem var_num {d : PyData} (h : NdA d) (v : isVarN d = true) : ∃ n, 0 ≤ n ∧ d = .tuple [.str "v", .int n] := by
  obtain ⟨wd, nd⟩ := h
  cases nd with
  | v n h1 _ => exact ⟨n, h1, rfl⟩
  | i n _ _ => cases v
  | f x n _ _ _ => cases v
theorem comp_app {t u c : Tab} (nt : TabN t) (nu : TabN u) (hc : ∀ n, valT c n = compV t u n) {ds : List PyData} (nd : ∀ d ∈ ds, NdA d) : appM c ds = appM u (appM t ds) := by
  unfold appM
  rw [List.flatMap_assoc]
  have h : ∀ d ∈ ds, appN c d = (appN t d).flatMap (appN u) := by
    intro d hd
    by_cases v : isVarN d = true
    · obtain ⟨n, n0, rfl⟩ := var_num (nd d hd) v
      have e1 : ∀ s : Tab, appN s (.tuple [.str "v", .int n]) = (match valT s n with | some w => w | none => varN n) := fun s => by
        unfold appN
        rw [if_pos v]
        rfl
      rw [e1, e1, hc n]
      unfold compV
      cases ht : valT t n with
      | some w =>
        simp only
        unfold keepN
        by_cases hk : PyData.eqv (.tuple (appM u w)) (.tuple (varN n)) = true
        · rw [if_pos hk]
          exact (tup_eq (appM_nd nu (valT_nd nt ht)) (var_nd n0) hk).symm
        · rw [if_neg hk]
          rfl
      | none =>
        simp only
        have e2 : (varN n).flatMap (appN u) = (match valT u n with | some w => w | none => varN n) := by
          unfold varN
          rw [List.flatMap_cons, List.flatMap_nil, List.append_nil]
          exact e1 u
        rw [e2]
        cases hu : valT u n with
        | some w =>
          simp only
          unfold keepN
          by_cases hk : PyData.eqv (.tuple w) (.tuple (varN n)) = true
          · rw [if_pos hk]
            exact (tup_eq (valT_nd nu hu) (var_nd n0) hk).symm
          · rw [if_neg hk]
        | none => rfl
    · have e3 : ∀ s : Tab, appN s d = [d] := fun s => if_neg v
      rw [e3, e3, List.flatMap_cons, List.flatMap_nil, List.append_nil, e3]
  clear hc
  induction ds with
  | nil => rfl
  | cons d r ih =>
    rw [List.flatMap_cons, List.flatMap_cons, h d List.mem_cons_self, ih (fun x hx => nd x (List.mem_cons_of_mem _ hx)) fun x hx => h x (List.mem_cons_of_mem _ hx)]
theorem appM_take {t : Tab} {ds : List PyData} {i : Nat} {d : PyData} (h : ds[i]? = some d) : appM t (ds.take (i + 1)) = appM t (ds.take i) ++ appN t d := by
  unfold appM
  rw [List.take_add_one, h, List.flatMap_append]
  show _ ++ (appN t d ++ []) = _
  rw [List.append_nil]
theorem appN_non {t : Tab} {d : PyData} (v : ¬ isVarN d = true) : appN t d = [d] := if_neg v
theorem appN_out {t : Tab} {n : Int} (h : valT t n = none) : appN t (.tuple [.str "v", .int n]) = [.tuple [.str "v", .int n]] := by
  unfold appN
  rw [if_pos (show isVarN (.tuple [.str "v", .int n]) = true from rfl), show numN (.tuple [.str "v", .int n]) = n from rfl, h]
theorem appN_in {t : Tab} {n : Int} {w : List PyData} (h : valT t n = some w) : appN t (.tuple [.str "v", .int n]) = w := by
  unfold appN
  rw [if_pos (show isVarN (.tuple [.str "v", .int n]) = true from rfl), show numN (.tuple [.str "v", .int n]) = n from rfl, h]
/-- the composed table: the first one's values with the second applied, then what the second adds, without a key that is its own value -/
def comp1 (t u : Tab) : Tab := t.map fun x => (x.1, appM u x.2)
def newK (t : Tab) (x : Int × List PyData) : Bool := !(decide (x.1 ∈ t.map (·.1)))
def notOwn (x : Int × List PyData) : Bool := !PyData.eqv (.tuple x.2) (.tuple (varN x.1))
def compT (t u : Tab) : Tab := (comp1 t u ++ u.filter (newK t)).filter notOwn
theorem comp1_keys (t u : Tab) : (comp1 t u).map (·.1) = t.map (·.1) := by unfold comp1; rw [List.map_map]; rfl
theorem comp1_nd {t u : Tab} (ht : TabN t) (hu : TabN u) : TabN (comp1 t u) := fun x hx => by
  obtain ⟨q, h1, rfl⟩ := List.mem_map.mp hx
  exact appM_nd hu (ht q h1)
/-! ### walks, ints, picks -/
theorem walk_gen {J : It} {n : Nat} {G : Hp → Prop} {Y : Nat → Hp → V → Hp → Prop} (wk : Walk J n G Y) {B : V → Hp → (Hp → Prop) → Prop} {H0 : Hp} {Qd : Hp → Prop} (Pv : Nat → Hp → Prop) (p0 : Pv 0 H0) (pG : ∀ i H, i ≤ n → Pv i H → G H)
    (turn : ∀ i x H H', i < n → Pv i H → Y i H x H' → B x H' (Pv (i + 1))) (pd : ∀ H, Pv n H → Qd H) :
    ∃ W : Nat → Nat → Hp → Prop, (∃ m, W 0 m H0) ∧ ∀ i m H, W i m H → (J.stop i H ∧ Qd H) ∨ (J.go i H ∧ ∃ Nx : Hp → Prop, (∀ H', Nx H' → ∃ m', m' < m ∧ W (i + 1) m' H') ∧ ∀ x H', J.yld i H x H' → B x H' Nx) := by
  refine ⟨fun i m H => m = n - i ∧ i ≤ n ∧ Pv i H, ⟨n, by simp, Nat.zero_le _, p0⟩, ?_⟩
  rintro i m H ⟨rfl, hi, hp⟩
  have hg := pG i H hi hp
  rcases Nat.lt_or_ge i n with hlt | hge
  · exact .inr ⟨wk.goes i H hlt hg, Pv (i + 1), fun σ' p' => ⟨n - (i + 1), by omega, rfl, hlt, p'⟩, fun x H' y => turn i x H H' hlt hp (wk.yields i H x H' hlt hg y)⟩
  · obtain rfl : i = n := by omega
    exact .inl ⟨wk.stops H hg, pd H hp⟩
theorem ints_lay : ∀ (ns : List Int), PyData.canLayAll0 (ns.map PyData.int) = true ∧ PyData.depthAll (ns.map PyData.int) = 0 ∧ PyData.eqvAll (ns.map PyData.int) (ns.map PyData.int) = true
  | [] => ⟨by simp [PyData.canLayAll0], by simp [PyData.depthAll], by simp [PyData.eqvAll]⟩
  | n :: ns => by
    obtain ⟨a, b, c⟩ := ints_lay ns
    rw [List.map_cons]
    refine ⟨by simp only [PyData.canLayAll0, PyData.canLay0, a, Bool.and_self], ?_, by simp only [PyData.eqvAll, PyData.eqv, c, beq_self_eq_true, Bool.and_self]⟩
    simp only [PyData.depthAll, PyData.depth, b]
    rfl
theorem ints_shaped (ns : List Int) : SeqAt.shaped (.list (ns.map PyData.int)) = true := by
  obtain ⟨a, b, _⟩ := ints_lay ns
  have hd : (PyData.list (ns.map PyData.int)).depth ≤ 64 := by simp only [PyData.depth, b]; decide
  have hc : (PyData.list (ns.map PyData.int)).canLay0 = true := by simp only [PyData.canLay0]; exact a
  show ((PyData.list (ns.map PyData.int)).canLay0 && decide ((PyData.list (ns.map PyData.int)).depth ≤ 64)) = true
  rw [hc, decide_eq_true hd]
  rfl
theorem ints_eqv (ns : List Int) : PyData.eqv (.list (ns.map PyData.int)) (.list (ns.map PyData.int)) = true := by
  simp only [PyData.eqv]
  exact (ints_lay ns).2.2
theorem dp_ints {K : PySem.W.Frag} {H : Hp} : ∀ ns : List Int, DpAll K H (ns.map V.int) (ns.map PyData.int)
  | [] => .nil
  | n :: r => .cons (.int n) (dp_ints r)
theorem lit_pick {K : PySem.W.Frag} {G : Addr → Prop} {H : Hp} {xs : List V} {names : List Str} {r : Int} (a : ImAll K G H xs (names.map PyData.str)) (r0 : 0 ≤ r) (r1 : r < (names.length : Int)) : ∃ x, x ∈ names ∧ atI xs r = some (.str x) := by
  have hr : r.toNat < names.length := by omega
  have hd : (names.map PyData.str)[r.toNat]? = some (.str names[r.toNat]) := by
    rw [List.getElem?_map, List.getElem?_eq_getElem hr]
    rfl
  obtain ⟨v, hv, iv⟩ := ImAll.get a hd
  cases iv
  exact ⟨_, List.getElem_mem hr, at_of (j := r.toNat) (by omega) hv⟩
theorem ixN_nat {n j : Nat} (h : j < n) : ixN n (j : Int) = some j := by
  unfold ixN
  rw [if_pos (by omega), if_pos (by omega), Int.toNat_natCast]
theorem dp_snoc {K : PySem.W.Frag} {H : Hp} : ∀ {B : List V} {v : V} {es : List PyData}, DpAll K H (B ++ [v]) es → ∃ E e, es = E ++ [e] ∧ DpAll K H B E ∧ Dp K H v e
  | [], v, _, h => by
    cases h with
    | cons h1 h2 =>
      cases h2
      exact ⟨[], _, rfl, .nil, h1⟩
  | b :: B, v, _, h => by
    cases h with
    | cons h1 h2 =>
      obtain ⟨E, e, rfl, a, c⟩ := dp_snoc h2
      exact ⟨_ :: E, e, rfl, .cons h1 a, c⟩
theorem int_pick {K : PySem.W.Frag} {G : Addr → Prop} {H : Hp} {xs : List V} {is : List Int} {r : Int} (a : ImAll K G H xs (is.map PyData.int)) (r0 : 0 ≤ r) (r1 : r < (is.length : Int)) : ∃ x, x ∈ is ∧ atI xs r = some (.int x) := by
  have hr : r.toNat < is.length := by omega
  have hd : (is.map PyData.int)[r.toNat]? = some (.int is[r.toNat]) := by
    rw [List.getElem?_map, List.getElem?_eq_getElem hr]
    rfl
  obtain ⟨v, hv, iv⟩ := ImAll.get a hd
  cases iv
  exact ⟨_, List.getElem_mem hr, at_of (j := r.toNat) (by omega) hv⟩
def fs_Side (v_rest v_total v_counts : V) : List (Str × V) := [("rest", v_rest), ("total", v_total), ("counts", v_counts)]
def fs_Linked (v_mark v_terms v_rest v_free v_most : V) : List (Str × V) := [("mark", v_mark), ("terms", v_terms), ("rest", v_rest), ("free", v_free), ("most", v_most)]
def fs_Path (v_done v_waiting v_first : V) : List (Str × V) := [("done", v_done), ("waiting", v_waiting), ("first", v_first)]
/-! ### unification, eagerly -/
def vN (n : Int) : PyData := .tuple [.str "v", .int n]
def sub1 (ds : List PyData) : List PyData := ds.take (tk 1 ds)
def bindM : List PyData → List PyData → Option (Int × List PyData)
  | a :: l, b :: r => if isVarN a = true then (if isVarN b = true then some (if numN b < numN a then (numN a, varN (numN b)) else (numN b, varN (numN a))) else some (numN a, sub1 (b :: r))) else if isVarN b = true then some (numN b, sub1 (a :: l)) else none
  | _, _ => none
inductive Res
  | non | big | tab (t : Tab)
def up1 (n : Int) (v : List PyData) (t : Tab) : Tab := t.map (fun x => (x.1, appM [(n, v)] x.2)) ++ [(n, v)]
inductive Eg (B : Nat) : Nat → List PyData → List PyData → Tab → Res → Prop
  | done (L : List PyData) (T : Tab) : Eg B 0 L L T (.tab T)
  | clash {p l r : List PyData} {a b : PyData} {T : Tab} : a ≠ b → bindM (a :: l) (b :: r) = none → Eg B 0 (p ++ a :: l) (p ++ b :: r) T .non
  | occ {p l r v : List PyData} {a b : PyData} {T : Tab} {n : Int} : a ≠ b → bindM (a :: l) (b :: r) = some (n, v) → vN n ∈ v → Eg B 0 (p ++ a :: l) (p ++ b :: r) T .non
  | big {p l r v : List PyData} {a b : PyData} {T : Tab} {n : Int} : a ≠ b → bindM (a :: l) (b :: r) = some (n, v) → vN n ∉ v → B < max (appM [(n, v)] (p ++ a :: l)).length (appM [(n, v)] (p ++ b :: r)).length → Eg B 0 (p ++ a :: l) (p ++ b :: r) T .big
  | step {p l r v : List PyData} {a b : PyData} {T : Tab} {n : Int} {k : Nat} {s : Res} : a ≠ b → bindM (a :: l) (b :: r) = some (n, v) → vN n ∉ v → max (appM [(n, v)] (p ++ a :: l)).length (appM [(n, v)] (p ++ b :: r)).length ≤ B →
      Eg B k (appM [(n, v)] (p ++ a :: l)) (appM [(n, v)] (p ++ b :: r)) (up1 n v T) s → Eg B (k + 1) (p ++ a :: l) (p ++ b :: r) T s
theorem first_dif : ∀ {p p' : List PyData} {a b a' b' : PyData} {l r l' r' : List PyData}, a ≠ b → a' ≠ b' → p ++ a :: l = p' ++ a' :: l' → p ++ b :: r = p' ++ b' :: r' → p = p' ∧ a = a' ∧ l = l' ∧ b = b' ∧ r = r'
  | [], [], _, _, _, _, _, _, _, _, _, _, e1, e2 => ⟨rfl, (List.cons.inj e1).1, (List.cons.inj e1).2, (List.cons.inj e2).1, (List.cons.inj e2).2⟩
  | [], x :: p', _, _, _, _, _, _, _, _, h, _, e1, e2 => absurd ((List.cons.inj e1).1.trans (List.cons.inj e2).1.symm) h
  | x :: p, [], _, _, _, _, _, _, _, _, _, h, e1, e2 => absurd ((List.cons.inj e1).1.symm.trans (List.cons.inj e2).1) h
  | x :: p, y :: p', _, _, _, _, _, _, _, _, h, h', e1, e2 => by
    obtain ⟨i1, i2, i3, i4, i5⟩ := first_dif h h' (List.cons.inj e1).2 (List.cons.inj e2).2
    exact ⟨by rw [(List.cons.inj e1).1, i1], i2, i3, i4, i5⟩
theorem no_dif {p : List PyData} {a b : PyData} {l r : List PyData} (h : a ≠ b) (e : p ++ a :: l = p ++ b :: r) : False :=
  h (List.cons.inj (List.append_cancel_left e)).1
theorem eg_same {B k : Nat} {L R : List PyData} {T : Tab} {s : Res} (h : Eg B k L R T s) (e : L = R) : s = .tab T := by
  cases h with
  | done => rfl
  | clash h _ => exact (no_dif h e).elim
  | occ h _ _ => exact (no_dif h e).elim
  | big h _ _ _ => exact (no_dif h e).elim
  | step h _ _ _ _ => exact (no_dif h e).elim
theorem eg_dif {B k : Nat} {L R : List PyData} {T : Tab} {s : Res} (h : Eg B k L R T s) : ∀ {p l r : List PyData} {a b : PyData}, a ≠ b → L = p ++ a :: l → R = p ++ b :: r →
    (bindM (a :: l) (b :: r) = none ∧ s = .non) ∨ ∃ n v, bindM (a :: l) (b :: r) = some (n, v) ∧ ((vN n ∈ v ∧ s = .non) ∨ (vN n ∉ v ∧ ((B < max (appM [(n, v)] L).length (appM [(n, v)] R).length ∧ s = .big) ∨
      (max (appM [(n, v)] L).length (appM [(n, v)] R).length ≤ B ∧ ∃ j, k = j + 1 ∧ Eg B j (appM [(n, v)] L) (appM [(n, v)] R) (up1 n v T) s)))) := by
  cases h with
  | done => intro p l r a b h e1 e2; exact (no_dif h (e1.symm.trans e2)).elim
  | clash h h1 =>
    intro p l r a b g e1 e2
    obtain ⟨rfl, rfl, rfl, rfl, rfl⟩ := first_dif h g e1 e2
    exact .inl ⟨h1, rfl⟩
  | occ h h1 h2 =>
    intro p l r a b g e1 e2
    obtain ⟨rfl, rfl, rfl, rfl, rfl⟩ := first_dif h g e1 e2
    exact .inr ⟨_, _, h1, .inl ⟨h2, rfl⟩⟩
  | big h h1 h2 h3 =>
    intro p l r a b g e1 e2
    obtain ⟨rfl, rfl, rfl, rfl, rfl⟩ := first_dif h g e1 e2
    exact .inr ⟨_, _, h1, .inr ⟨h2, .inl ⟨h3, rfl⟩⟩⟩
  | step h h1 h2 h3 h4 =>
    intro p l r a b g e1 e2
    obtain ⟨rfl, rfl, rfl, rfl, rfl⟩ := first_dif h g e1 e2
    exact .inr ⟨_, _, h1, .inr ⟨h2, .inr ⟨h3, _, rfl, h4⟩⟩⟩
/-! ### what holds of the applied terms -/
/-- a list of nodes that is so many terms -/
def Tms (m : Nat) (ds : List PyData) : Prop := Cls m ds ∧ ∀ d ∈ ds, NdA d
theorem Tms.ne {m : Nat} {ds : List PyData} (h : Tms (m + 1) ds) : ds ≠ [] := fun z => by
  rw [z] at h
  exact absurd h.1 (by show ¬ (m + 1 = 0); omega)
theorem Tms.app {m k : Nat} {ds es : List PyData} (h : Tms m ds) (h2 : Tms k es) : Tms (m + k) (ds ++ es) :=
  ⟨cls_app _ _ _ _ h.1 h2.1, fun d hd => (List.mem_append.mp hd).elim (h.2 d) (h2.2 d)⟩
def TabT (t : Tab) : Prop := ∀ q ∈ t, Tms 1 q.2
theorem TabT.nd {t : Tab} (h : TabT t) : TabN t := fun q hq => (h q hq).2
theorem valT_tm {t : Tab} {n : Int} {w : List PyData} (ht : TabT t) (h : valT t n = some w) : Tms 1 w := by
  obtain ⟨q, hq, e⟩ := valT_mem h
  rw [← e]
  exact ht q hq
theorem appM_cls {t : Tab} (ht : TabT t) : ∀ (ds : List PyData) (m : Nat), (∀ d ∈ ds, NdA d) → Cls m ds → Cls m (appM t ds)
  | [], _, _, h => h
  | d :: ds, m, hn, h => by
    have ih := appM_cls ht ds (m - 1 + arN d) (fun x hx => hn x (.tail _ hx)) h.2
    show Cls m (appN t d ++ appM t ds)
    by_cases v : isVarN d = true
    · rw [var_arN v, Nat.add_zero] at ih
      have h1 : Cls 1 (appN t d) := by
        unfold appN
        rw [if_pos v]
        cases e : valT t (numN d) with
        | some w => exact (valT_tm ht e).1
        | none => exact ⟨by decide, by rw [var_arN v]; rfl⟩
      have := cls_app _ _ _ _ h1 ih
      rwa [show 1 + (m - 1) = m by have := h.1; omega] at this
    · rw [appN_non v]
      exact ⟨h.1, ih⟩
theorem appM_tms {t : Tab} (ht : TabT t) {m : Nat} {ds : List PyData} (h : Tms m ds) : Tms m (appM t ds) := ⟨appM_cls ht ds m h.2 h.1, appM_nd ht.nd h.2⟩
theorem appM_app (t : Tab) (ds es : List PyData) : appM t (ds ++ es) = appM t ds ++ appM t es := List.flatMap_append
theorem appM_cons (t : Tab) (d : PyData) (es : List PyData) : appM t (d :: es) = appN t d ++ appM t es := rfl
theorem appM_nil (t : Tab) : appM t [] = [] := rfl
theorem appN_ne {t : Tab} (ht : TabT t) (d : PyData) : appN t d ≠ [] := by
  unfold appN
  by_cases v : isVarN d = true
  · rw [if_pos v]
    cases e : valT t (numN d) with
    | some w => exact (valT_tm ht e).ne
    | none => exact fun z => nomatch z
  · rw [if_neg v]; exact fun z => nomatch z
theorem appM_len {t : Tab} (ht : TabT t) : ∀ ds : List PyData, ds.length ≤ (appM t ds).length
  | [] => Nat.le_refl 0
  | d :: ds => by
    have := appM_len ht ds
    have h2 : 0 < (appN t d).length := List.length_pos_iff.mpr (appN_ne ht d)
    rw [appM_cons, List.length_append, List.length_cons]
    omega
theorem vN_var (n : Int) : isVarN (vN n) = true := rfl
theorem vN_num (n : Int) : numN (vN n) = n := rfl
theorem var_vN {d : PyData} (h : NdA d) (v : isVarN d = true) : d = vN (numN d) := by
  obtain ⟨n, rfl⟩ := var_form h v
  rfl
/-- no key of the table stands in the nodes -/
def Free (t : Tab) (ds : List PyData) : Prop := ∀ q ∈ t, vN q.1 ∉ ds
theorem appM_free {t : Tab} : ∀ {ds : List PyData}, (∀ d ∈ ds, NdA d) → Free t ds → appM t ds = ds
  | [], _, _ => rfl
  | d :: ds, hn, h => by
    rw [appM_cons, appM_free (fun x hx => hn x (.tail _ hx)) fun q hq m => h q hq (.tail _ m)]
    by_cases v : isVarN d = true
    · have e := var_vN (hn d (.head _)) v
      rw [e]
      have : valT t (numN d) = none := by
        cases g : valT t (numN d) with
        | none => rfl
        | some w =>
          exfalso
          unfold valT at g
          cases f : t.find? fun p => decide (p.1 = numN d) with
          | none => rw [f] at g; cases g
          | some q =>
            have hq := List.mem_of_find?_eq_some f
            have hk : q.1 = numN d := of_decide_eq_true (List.find?_some (p := fun p : Int × List PyData => decide (p.1 = numN d)) f)
            exact h q hq (by rw [hk, ← e]; exact .head _)
      unfold vN
      rw [appN_out this]
      rfl
    · rw [appN_non v]
      rfl
theorem val_one (n m : Int) (v : List PyData) : valT [(n, v)] m = if n = m then some v else none := by
  unfold valT
  by_cases e : n = m
  · rw [List.find?_cons, decide_eq_true e, if_pos e]; rfl
  · rw [List.find?_cons, decide_eq_false e, if_neg e]; rfl
theorem app_own (n : Int) (v : List PyData) : appN [(n, v)] (vN n) = v := appN_in (by rw [val_one, if_pos rfl])
theorem app_else {n : Int} {v : List PyData} {d : PyData} (hd : NdA d) (h : d ≠ vN n) : appN [(n, v)] d = [d] := by
  by_cases x : isVarN d = true
  · have e := var_vN hd x
    rw [e]
    refine appN_out ?_
    rw [val_one, if_neg fun z => h (by rw [e, ← z])]
  · exact appN_non x
/-- what is bound stands in no term any more -/
theorem gone {n : Int} {v : List PyData} (hv : vN n ∉ v) : ∀ {ds : List PyData}, (∀ d ∈ ds, NdA d) → vN n ∉ appM [(n, v)] ds
  | [], _, h => nomatch h
  | d :: ds, hn, h => by
    rw [appM_cons] at h
    rcases List.mem_append.mp h with h | h
    · by_cases e : d = vN n
      · rw [e, app_own] at h; exact hv h
      · rw [app_else (hn d (.head _)) e] at h
        exact e (List.mem_singleton.mp h).symm
    · exact gone hv (fun x hx => hn x (.tail _ hx)) h
theorem kept_out {t : Tab} {n : Int} {v : List PyData} {x : Int} (hv : vN x ∉ v) : ∀ {ds : List PyData}, (∀ d ∈ ds, NdA d) → vN x ∉ ds → vN x ∉ appM [(n, v)] ds
  | [], _, _, h => nomatch h
  | d :: ds, hn, h0, h => by
    rw [appM_cons] at h
    rcases List.mem_append.mp h with h | h
    · by_cases e : d = vN n
      · rw [e, app_own] at h; exact hv h
      · rw [app_else (hn d (.head _)) e] at h
        exact h0 (by rw [List.mem_singleton.mp h]; exact .head _)
    · exact kept_out (t := t) hv (fun y hy => hn y (.tail _ hy)) (fun m => h0 (.tail _ m)) h
/-- the terms, and the table so far -/
structure Sol (L R : List PyData) (T : Tab) : Prop where
  l : Tms 1 L
  r : Tms 1 R
  t : TabT T
  nd : (T.map (·.1)).Nodup
  fl : Free T L
  fr : Free T R
  ft : ∀ q ∈ T, Free T q.2
  pos : ∀ q ∈ T, 0 ≤ q.1
  inf : ∀ q ∈ T, q.2 <:+: L ∨ q.2 <:+: R
theorem infix_app {t : Tab} {a b : List PyData} (h : a <:+: b) : appM t a <:+: appM t b := by
  obtain ⟨x, y, rfl⟩ := h
  exact ⟨appM t x, appM t y, by rw [appM_app, appM_app]⟩
theorem tms_sub {k : Nat} {ds : List PyData} (h : Tms (k + 1) ds) : Tms 1 (sub1 ds) ∧ Tms k (ds.drop (tk 1 ds)) ∧ ds = sub1 ds ++ ds.drop (tk 1 ds) :=
  ⟨⟨cls_take ds (k + 1) 1 h.1 (by omega), fun d hd => h.2 d (List.mem_of_mem_take hd)⟩, ⟨cls_drop ds (k + 1) 1 h.1 (by omega), fun d hd => h.2 d (List.mem_of_mem_drop hd)⟩, (List.take_append_drop _ _).symm⟩
theorem sub_var {n : Int} {r : List PyData} : sub1 (vN n :: r) = [vN n] := by
  unfold sub1
  rw [tk_cons (by decide), show 1 - 1 + arN (vN n) = 0 from rfl, tk_zero]
  rfl
theorem bind_cases {a b : PyData} {l r v : List PyData} {n : Int} (ha : NdA a) (hb : NdA b) (h : bindM (a :: l) (b :: r) = some (n, v)) : (a = vN n ∧ v = sub1 (b :: r)) ∨ (b = vN n ∧ v = sub1 (a :: l)) := by
  simp only [bindM] at h
  by_cases va : isVarN a = true
  · rw [if_pos va] at h
    have ea := var_vN ha va
    by_cases vb : isVarN b = true
    · rw [if_pos vb] at h
      have eb := var_vN hb vb
      split at h
      · have h2 := Option.some.inj h
        rw [← (Prod.mk.inj h2).1, ← (Prod.mk.inj h2).2]
        exact .inl ⟨ea, by rw [eb, sub_var]; rfl⟩
      · have h2 := Option.some.inj h
        rw [← (Prod.mk.inj h2).1, ← (Prod.mk.inj h2).2]
        exact .inr ⟨eb, by rw [ea, sub_var]; rfl⟩
    · rw [if_neg vb] at h
      have h2 := Option.some.inj h
      rw [← (Prod.mk.inj h2).1, ← (Prod.mk.inj h2).2]
      exact .inl ⟨ea, rfl⟩
  · rw [if_neg va] at h
    by_cases vb : isVarN b = true
    · rw [if_pos vb] at h
      have h2 := Option.some.inj h
      rw [← (Prod.mk.inj h2).1, ← (Prod.mk.inj h2).2]
      exact .inr ⟨var_vN hb vb, rfl⟩
    · rw [if_neg vb] at h; cases h
/-- from a place in a list of terms on there is a term at least -/
theorem tms_mid {p : List PyData} {a : PyData} {l : List PyData} {m : Nat} (h : Tms m (p ++ a :: l)) : ∃ k, Tms (k + 1) (a :: l) := by
  obtain ⟨k, h1, _⟩ := cls_split (p ++ a :: l) m p.length h.1 (by rw [List.length_append]; omega)
  rw [List.drop_left] at h1
  have h1' := h1
  obtain ⟨h2, _⟩ := h1'
  exact ⟨k - 1, by rw [Nat.sub_add_cancel h2]; exact h1, fun d hd => h.2 d (List.mem_append_right _ hd)⟩
theorem vN_inj {n m : Int} (h : vN n = vN m) : n = m := by
  unfold vN at h
  injection h with h
  injection h with _ h
  injection h with h _
  injection h
theorem vN_pos {n : Int} (h : NdA (vN n)) : 0 ≤ n := by
  obtain ⟨w, h⟩ := h
  cases h with
  | v _ h1 _ => exact h1
structure Bnd (L R : List PyData) (T : Tab) (n : Int) (v : List PyData) : Prop where
  pos : 0 ≤ n
  tm : Tms 1 v
  at_ : vN n ∈ L ∨ vN n ∈ R
  inf : v <:+: L ∨ v <:+: R
  own : vN n ∉ v
theorem bind_ok {p l r v : List PyData} {a b : PyData} {n : Int} {T : Tab} (hl : Tms 1 (p ++ a :: l)) (hr : Tms 1 (p ++ b :: r)) (h : bindM (a :: l) (b :: r) = some (n, v)) (hv : vN n ∉ v) : Bnd (p ++ a :: l) (p ++ b :: r) T n v := by
  have na := hl.2 a (List.mem_append_right _ (.head _))
  have nb := hr.2 b (List.mem_append_right _ (.head _))
  obtain ⟨k, ka⟩ := tms_mid hl
  obtain ⟨j, kb⟩ := tms_mid hr
  obtain ⟨s1, s2, s3⟩ := tms_sub ka
  obtain ⟨t1, t2, t3⟩ := tms_sub kb
  rcases bind_cases na nb h with ⟨e1, e2⟩ | ⟨e1, e2⟩
  · subst e1 e2
    refine ⟨vN_pos na, t1, .inl (List.mem_append_right _ (.head _)), .inr ⟨p, (b :: r).drop (tk 1 (b :: r)), ?_⟩, hv⟩
    rw [List.append_assoc, ← t3]
  · subst e1 e2
    refine ⟨vN_pos nb, s1, .inr (List.mem_append_right _ (.head _)), .inl ⟨p, (a :: l).drop (tk 1 (a :: l)), ?_⟩, hv⟩
    rw [List.append_assoc, ← s3]
theorem tab_one {n : Int} {v : List PyData} (h : Tms 1 v) : TabT [(n, v)] := fun q hq => by rw [List.mem_singleton.mp hq]; exact h
theorem infix_mem {a b : List PyData} {d : PyData} (h : a <:+: b) (hd : d ∈ a) : d ∈ b := by
  obtain ⟨x, y, rfl⟩ := h
  exact List.mem_append_left _ (List.mem_append_right _ hd)
theorem in_app {n : Int} {v : List PyData} : ∀ {ds : List PyData}, vN n ∈ ds → v <:+: appM [(n, v)] ds
  | d :: ds, h => by
    rw [appM_cons]
    rcases List.mem_cons.mp h with h | h
    · rw [← h, app_own]
      exact ⟨[], appM [(n, v)] ds, rfl⟩
    · obtain ⟨x, y, e⟩ := in_app (v := v) h
      exact ⟨appN [(n, v)] d ++ x, y, by rw [← e]; simp⟩
theorem up1_keys (n : Int) (v : List PyData) (T : Tab) : (up1 n v T).map (·.1) = T.map (·.1) ++ [n] := by
  unfold up1
  rw [List.map_append, List.map_map]
  rfl
theorem Sol.next {L R : List PyData} {T : Tab} {n : Int} {v : List PyData} (S : Sol L R T) (b : Bnd L R T n v) : Sol (appM [(n, v)] L) (appM [(n, v)] R) (up1 n v T) := by
  have t1 := tab_one (n := n) b.tm
  have nk : n ∉ T.map (·.1) := fun h => by
    obtain ⟨q, hq, rfl⟩ := List.mem_map.mp h
    exact b.at_.elim (S.fl q hq) (S.fr q hq)
  have fv : Free T v := fun q hq h => b.inf.elim (fun i => S.fl q hq (infix_mem i h)) fun i => S.fr q hq (infix_mem i h)
  have split : ∀ q ∈ up1 n v T, (∃ x ∈ T, q = (x.1, appM [(n, v)] x.2)) ∨ q = (n, v) := fun q hq => by
    unfold up1 at hq
    rcases List.mem_append.mp hq with h | h
    · obtain ⟨x, hx, rfl⟩ := List.mem_map.mp h
      exact .inl ⟨x, hx, rfl⟩
    · exact .inr (List.mem_singleton.mp h)
  have free : ∀ {ds : List PyData}, (∀ d ∈ ds, NdA d) → Free T ds → Free (up1 n v T) (appM [(n, v)] ds) := fun {ds} hn hf q hq => by
    rcases split q hq with ⟨x, hx, rfl⟩ | rfl
    · exact kept_out (t := T) (fv x hx) hn (hf x hx)
    · exact gone b.own hn
  refine ⟨appM_tms t1 S.l, appM_tms t1 S.r, fun q hq => ?_, ?_, free S.l.2 S.fl, free S.r.2 S.fr, fun q hq => ?_, fun q hq => ?_, fun q hq => ?_⟩
  · rcases split q hq with ⟨x, hx, rfl⟩ | rfl
    · exact appM_tms t1 (S.t x hx)
    · exact b.tm
  · rw [up1_keys]
    refine List.nodup_append.mpr ⟨S.nd, List.nodup_cons.mpr ⟨(fun h => nomatch h), List.nodup_nil⟩, fun x hx y hy e => nk (by rw [List.mem_singleton.mp hy] at e; rw [← e]; exact hx)⟩
  · rcases split q hq with ⟨x, hx, rfl⟩ | rfl
    · exact free (S.t x hx).2 (S.ft x hx)
    · intro y hy
      rcases split y hy with ⟨x, hx, rfl⟩ | rfl
      · exact fv x hx
      · exact b.own
  · rcases split q hq with ⟨x, hx, rfl⟩ | rfl
    · exact S.pos x hx
    · exact b.pos
  · rcases split q hq with ⟨x, hx, rfl⟩ | rfl
    · exact (S.inf x hx).elim (fun i => .inl (infix_app i)) fun i => .inr (infix_app i)
    · exact b.at_.elim (fun i => .inl (in_app i)) fun i => .inr (in_app i)
open Classical in
noncomputable def mu (U : List Int) (L R : List PyData) : Nat := (U.filter fun n => decide (vN n ∈ L ∨ vN n ∈ R)).length
theorem filter_less {U : List Int} {f g : Int → Bool} (h : ∀ x ∈ U, g x = true → f x = true) {n : Int} (hn : n ∈ U) (h1 : f n = true) (h2 : g n = false) : (U.filter g).length < (U.filter f).length := by
  induction U with
  | nil => cases hn
  | cons x U ih =>
    have le : (U.filter g).length ≤ (U.filter f).length := by
      clear ih hn
      induction U with
      | nil => exact Nat.le_refl _
      | cons y U ih2 =>
        have i := ih2 fun z hz => h z (by rcases List.mem_cons.mp hz with rfl | hz; exact .head _; exact .tail _ (.tail _ hz))
        have hy := h y (.tail _ (.head _))
        cases gy : g y with
        | true => rw [List.filter_cons_of_pos gy, List.filter_cons_of_pos (hy gy)]; simpa using i
        | false =>
          rw [List.filter_cons_of_neg (by rw [gy]; exact Bool.false_ne_true)]
          cases fy : f y with
          | true => rw [List.filter_cons_of_pos fy]; simp; omega
          | false => rw [List.filter_cons_of_neg (by rw [fy]; exact Bool.false_ne_true)]; exact i
    rcases List.mem_cons.mp hn with rfl | hn
    · rw [List.filter_cons_of_pos h1, List.filter_cons_of_neg (by rw [h2]; exact Bool.false_ne_true), List.length_cons]
      omega
    · have i := ih (fun y hy => h y (.tail _ hy)) hn
      have hx := h x (.head _)
      cases gx : g x with
      | true => rw [List.filter_cons_of_pos gx, List.filter_cons_of_pos (hx gx)]; simpa using i
      | false =>
        rw [List.filter_cons_of_neg (by rw [gx]; exact Bool.false_ne_true)]
        cases fx : f x with
        | true => rw [List.filter_cons_of_pos fx, List.length_cons]; omega
        | false => rw [List.filter_cons_of_neg (by rw [fx]; exact Bool.false_ne_true)]; exact i
/-- two closed lists are alike or differ somewhere -/
theorem alike_or : ∀ {m : Nat} {L R : List PyData}, Cls m L → Cls m R → L = R ∨ ∃ p a b l r, L = p ++ a :: l ∧ R = p ++ b :: r ∧ a ≠ b
  | m, [], [], _, _ => .inl rfl
  | m, [], y :: r, h, h2 => by
    have e : m = 0 := h
    exact absurd h2.1 (by omega)
  | m, x :: l, [], h, h2 => by
    have e : m = 0 := h2
    exact absurd h.1 (by omega)
  | m, x :: l, y :: r, h, h2 => by
    by_cases e : x = y
    · subst e
      rcases alike_or h.2 h2.2 with e | ⟨p, a, b, l', r', e1, e2, e3⟩
      · exact .inl (by rw [e])
      · exact .inr ⟨x :: p, a, b, l', r', by rw [e1]; rfl, by rw [e2]; rfl, e3⟩
    · exact .inr ⟨[], x, y, l, r, rfl, rfl, e⟩
theorem mem_app_var {n m : Int} {v : List PyData} : ∀ {ds : List PyData}, (∀ d ∈ ds, NdA d) → vN m ∈ appM [(n, v)] ds → vN m ∈ v ∨ vN m ∈ ds
  | [], _, h => nomatch h
  | d :: ds, hn, h => by
    rw [appM_cons] at h
    rcases List.mem_append.mp h with h | h
    · by_cases e : d = vN n
      · rw [e, app_own] at h; exact .inl h
      · rw [app_else (hn d (.head _)) e] at h
        exact .inr (by rw [List.mem_singleton.mp h]; exact .head _)
    · exact (mem_app_var (fun x hx => hn x (.tail _ hx)) h).imp id (.tail _)
open Classical in
theorem eg_ex (B : Nat) (U : List Int) : ∀ (m : Nat) (L R : List PyData) (T : Tab), Sol L R T → (∀ n, vN n ∈ L ∨ vN n ∈ R → n ∈ U) → mu U L R ≤ m → ∃ k s, Eg B k L R T s ∧ k ≤ m
  | m, L, R, T, S, hU, hm => by
    rcases alike_or S.l.1 S.r.1 with e | ⟨p, a, b, l, r, e1, e2, e3⟩
    · subst e; exact ⟨0, _, .done L T, Nat.zero_le _⟩
    · subst e1 e2
      cases hb : bindM (a :: l) (b :: r) with
      | none => exact ⟨0, _, .clash e3 hb, Nat.zero_le _⟩
      | some nv =>
        obtain ⟨n, v⟩ := nv
        by_cases ho : vN n ∈ v
        · exact ⟨0, _, .occ e3 hb ho, Nat.zero_le _⟩
        · by_cases hB : B < max (appM [(n, v)] (p ++ a :: l)).length (appM [(n, v)] (p ++ b :: r)).length
          · exact ⟨0, _, .big e3 hb ho hB, Nat.zero_le _⟩
          · have bo : Bnd (p ++ a :: l) (p ++ b :: r) T n v := bind_ok S.l S.r hb ho
            have less : mu U (appM [(n, v)] (p ++ a :: l)) (appM [(n, v)] (p ++ b :: r)) < mu U (p ++ a :: l) (p ++ b :: r) := by
              unfold mu
              refine filter_less (fun x _ hx => ?_) (hU n bo.at_) (decide_eq_true bo.at_) (decide_eq_false fun z => z.elim (gone bo.own S.l.2) (gone bo.own S.r.2))
              have hx := of_decide_eq_true hx
              refine decide_eq_true ?_
              have vv : vN x ∈ v → vN x ∈ p ++ a :: l ∨ vN x ∈ p ++ b :: r := fun h => bo.inf.imp (fun i => infix_mem i h) fun i => infix_mem i h
              rcases hx with hx | hx
              · exact (mem_app_var S.l.2 hx).elim vv .inl
              · exact (mem_app_var S.r.2 hx).elim vv .inr
            match m, hm with
            | 0, hm => exact absurd less (by omega)
            | m + 1, hm =>
              obtain ⟨k, s, h, hk⟩ := eg_ex B U m _ _ _ (S.next bo) (fun x hx => by
                have vv : vN x ∈ v → x ∈ U := fun h => hU x (bo.inf.imp (fun i => infix_mem i h) fun i => infix_mem i h)
                rcases hx with hx | hx
                · exact (mem_app_var S.l.2 hx).elim vv fun h => hU x (.inl h)
                · exact (mem_app_var S.r.2 hx).elim vv fun h => hU x (.inr h)) (by omega)
              exact ⟨k + 1, s, .step e3 hb ho (by omega) h, by omega⟩
theorem sol_zero {L R : List PyData} (h : Tms 1 L) (h2 : Tms 1 R) : Sol L R [] :=
  ⟨h, h2, fun _ h => (nomatch h), List.nodup_nil, fun _ h => (nomatch h), fun _ h => (nomatch h), fun _ h => (nomatch h), fun _ h => (nomatch h), fun _ h => (nomatch h)⟩
theorem mu_le (U : List Int) (L R : List PyData) : mu U L R ≤ U.length := List.length_filter_le _ _
/-- there is a result -/
theorem eg_any (B : Nat) {L R : List PyData} (h : Tms 1 L) (h2 : Tms 1 R) : ∃ k s, Eg B k L R [] s ∧ k ≤ L.length + R.length := by
  obtain ⟨k, s, h3, h4⟩ := eg_ex B ((L ++ R).map numN) (mu ((L ++ R).map numN) L R) L R [] (sol_zero h h2) (fun n hn => List.mem_map.mpr ⟨vN n, List.mem_append.mpr hn, rfl⟩) (Nat.le_refl _)
  have := mu_le ((L ++ R).map numN) L R
  rw [List.length_map, List.length_append] at this
  exact ⟨k, s, h3, by omega⟩
/-! ### the table as the program keeps it: no value is touched behind its binding -/
def TriR : Tab → Prop
  | [] => True
  | q :: t => (∀ x ∈ q :: t, vN q.1 ∉ x.2) ∧ TriR t
def rkT : Tab → Int → Nat
  | [], _ => 0
  | q :: t, n => if q.1 = n then t.length + 1 else rkT t n
theorem rk_le : ∀ (t : Tab) (n : Int), rkT t n ≤ t.length
  | [], _ => Nat.le_refl 0
  | q :: t, n => by
    have := rk_le t n
    unfold rkT
    split
    · exact Nat.le_refl _
    · rw [List.length_cons]; omega
theorem valT_cons (q : Int × List PyData) (t : Tab) (n : Int) : valT (q :: t) n = if q.1 = n then some q.2 else valT t n := by
  unfold valT
  by_cases e : q.1 = n
  · rw [List.find?_cons, decide_eq_true e, if_pos e]; rfl
  · rw [List.find?_cons, decide_eq_false e, if_neg e]
theorem rk_pos : ∀ {t : Tab} {n : Int} {w : List PyData}, valT t n = some w → 0 < rkT t n
  | [], _, _, h => nomatch h
  | q :: t, n, w, h => by
    rw [valT_cons] at h
    unfold rkT
    by_cases e : q.1 = n
    · rw [if_pos e]; omega
    · rw [if_neg e] at h ⊢
      exact rk_pos h
theorem rk_none : ∀ {t : Tab} {n : Int}, valT t n = none → rkT t n = 0
  | [], _, _ => rfl
  | q :: t, n, h => by
    rw [valT_cons] at h
    unfold rkT
    by_cases e : q.1 = n
    · rw [if_pos e] at h; cases h
    · rw [if_neg e] at h ⊢
      exact rk_none h
theorem rk_less : ∀ {t : Tab} {n m : Int} {w : List PyData}, TriR t → valT t n = some w → vN m ∈ w → rkT t m < rkT t n
  | [], _, _, _, _, h, _ => nomatch h
  | q :: t, n, m, w, hT, h, hm => by
    rw [valT_cons] at h
    by_cases e : q.1 = n
    · rw [if_pos e] at h
      have hw := Option.some.inj h
      have ne : ¬ q.1 = m := fun z => hT.1 q (.head _) (by rw [hw, z]; exact hm)
      unfold rkT
      rw [if_pos e, if_neg ne]
      have := rk_le t m
      omega
    · rw [if_neg e] at h
      have ne : ¬ q.1 = m := fun z => by
        obtain ⟨x, hx, ex⟩ := valT_mem h
        exact hT.1 x (.tail _ hx) (by rw [ex, z]; exact hm)
      unfold rkT
      rw [if_neg e, if_neg ne]
      exact rk_less hT.2 h hm
theorem tri_snoc {n : Int} {v : List PyData} (hn : vN n ∉ v) : ∀ {t : Tab}, TriR t → (∀ q ∈ t, vN q.1 ∉ v) → TriR (t ++ [(n, v)])
  | [], _, _ => ⟨fun x hx => by rw [List.mem_singleton.mp hx]; exact hn, True.intro⟩
  | q :: t, h, h2 => ⟨fun x hx => by
      rcases List.mem_append.mp (show x ∈ (q :: t) ++ [(n, v)] from hx) with hx | hx
      · exact h.1 x hx
      · rw [List.mem_singleton.mp hx]; exact h2 q (.head _), tri_snoc hn h.2 fun x hx => h2 x (.tail _ hx)⟩
structure Tri (F T : Tab) : Prop where
  keys : F.map (·.1) = T.map (·.1)
  val : ∀ q ∈ F, valT T q.1 = some (appM T q.2)
  tri : TriR F
  tm : TabT F
theorem valT_app (t u : Tab) (n : Int) : valT (t ++ u) n = match valT t n with | some w => some w | none => valT u n := by
  induction t with
  | nil => rfl
  | cons q t ih =>
    rw [List.cons_append, valT_cons, valT_cons]
    by_cases e : q.1 = n
    · rw [if_pos e, if_pos e]
    · rw [if_neg e, if_neg e]
      exact ih
theorem valT_map (f : List PyData → List PyData) (t : Tab) (n : Int) : valT (t.map fun x => (x.1, f x.2)) n = (valT t n).map f := by
  induction t with
  | nil => rfl
  | cons q t ih =>
    rw [List.map_cons, valT_cons, valT_cons]
    by_cases e : q.1 = n
    · rw [if_pos e, if_pos e]; rfl
    · rw [if_neg e, if_neg e]; exact ih
theorem valT_up1 (n : Int) (v : List PyData) (T : Tab) (m : Int) : valT (up1 n v T) m = match valT T m with | some w => some (appM [(n, v)] w) | none => if n = m then some v else none := by
  unfold up1
  rw [valT_app, valT_map, val_one]
  cases valT T m <;> rfl
theorem app_up1 {n : Int} {v : List PyData} {T : Tab} : ∀ {ds : List PyData}, (∀ d ∈ ds, NdA d) → appM (up1 n v T) ds = appM [(n, v)] (appM T ds)
  | [], _ => rfl
  | d :: ds, hn => by
    rw [appM_cons, appM_cons, appM_app, app_up1 fun x hx => hn x (.tail _ hx)]
    congr 1
    by_cases x : isVarN d = true
    · have e := var_vN (hn d (.head _)) x
      have e1 : ∀ s : Tab, appN s d = (match valT s (numN d) with | some w => w | none => [d]) := fun s => by unfold appN; rw [if_pos x]
      rw [e1, e1, valT_up1]
      cases valT T (numN d) with
      | some w => rfl
      | none =>
        show (match (if n = numN d then some v else none) with | some w => w | none => [d]) = appM [(n, v)] [d]
        rw [appM_cons, appM_nil, List.append_nil, e1, val_one]
    · rw [appN_non x, appN_non x, appM_cons, appM_nil, List.append_nil, appN_non x]
theorem tri_zero : Tri [] [] := ⟨rfl, fun _ h => (nomatch h), True.intro, fun _ h => (nomatch h)⟩
theorem Tri.key {F T : Tab} (h : Tri F T) (n : Int) : n ∈ F.map (·.1) ↔ n ∈ T.map (·.1) := by rw [h.keys]
theorem free_keys {t : Tab} {ds : List PyData} : Free t ds ↔ ∀ n ∈ t.map (·.1), vN n ∉ ds :=
  ⟨fun h n hn => by obtain ⟨q, hq, rfl⟩ := List.mem_map.mp hn; exact h q hq, fun h q hq => h q.1 (List.mem_map.mpr ⟨q, hq, rfl⟩)⟩
theorem Tri.next {L R : List PyData} {F T : Tab} {n : Int} {v : List PyData} (h : Tri F T) (S : Sol L R T) (b : Bnd L R T n v) : Tri (F ++ [(n, v)]) (up1 n v T) := by
  have S2 := S.next b
  have fv : Free T v := fun q hq m => b.inf.elim (fun i => S.fl q hq (infix_mem i m)) fun i => S.fr q hq (infix_mem i m)
  have nk : n ∉ T.map (·.1) := fun m => by
    obtain ⟨q, hq, rfl⟩ := List.mem_map.mp m
    exact b.at_.elim (S.fl q hq) (S.fr q hq)
  have ff : ∀ q ∈ F, vN q.1 ∉ v := fun q hq => free_keys.mp fv q.1 ((h.key q.1).mp (List.mem_map.mpr ⟨q, hq, rfl⟩))
  refine ⟨by rw [up1_keys, List.map_append, h.keys]; rfl, fun q hq => ?_, tri_snoc b.own h.tri ff, fun q hq => ?_⟩
  · rcases List.mem_append.mp hq with hq | hq
    · rw [valT_up1, h.val q hq, app_up1 (h.tm q hq).2]
    · rw [List.mem_singleton.mp hq, valT_up1, valT_notin nk]
      show (if n = n then some v else none) = some (appM (up1 n v T) v)
      rw [if_pos rfl, appM_free b.tm.2 (free_keys.mpr fun m hm => ?_)]
      rw [up1_keys] at hm
      rcases List.mem_append.mp hm with hm | hm
      · exact free_keys.mp fv m hm
      · rw [List.mem_singleton.mp hm]; exact b.own
  · rcases List.mem_append.mp hq with hq | hq
    · exact h.tm q hq
    · rw [List.mem_singleton.mp hq]; exact b.tm
/-- a bound variable gives way to its value -/
theorem Tri.open {F T : Tab} (h : Tri F T) {n : Int} {w : List PyData} (e : valT F n = some w) (ds : List PyData) : appM T (vN n :: ds) = appM T (w ++ ds) := by
  have hq : ∃ q ∈ F, q.1 = n ∧ q.2 = w := by
    unfold valT at e
    cases f : F.find? fun p => decide (p.1 = n) with
    | none => rw [f] at e; cases e
    | some q =>
      rw [f] at e
      exact ⟨q, List.mem_of_find?_eq_some f, of_decide_eq_true (List.find?_some (p := fun p : Int × List PyData => decide (p.1 = n)) f), Option.some.inj e⟩
  obtain ⟨q, hq, e1, e2⟩ := hq
  rw [appM_cons, appM_app]
  congr 1
  have := h.val q hq
  rw [e1, e2] at this
  exact appN_in this
/-- one that is not bound stays -/
theorem Tri.stay {F T : Tab} (h : Tri F T) {d : PyData} (hd : NdA d) (e : isVarN d = true → valT F (numN d) = none) (ds : List PyData) : appM T (d :: ds) = d :: appM T ds := by
  rw [appM_cons]
  by_cases v : isVarN d = true
  · have e2 : valT T (numN d) = none := valT_notin fun m => by
      obtain ⟨q, hq, e3⟩ := List.mem_map.mp ((h.key _).mpr m)
      exact valT_none (e v) q hq e3
    have e4 := var_vN hd v
    rw [e4]
    unfold vN
    rw [appN_out e2]
    rfl
  · rw [appN_non v]; rfl
/-! ### how often a variable stands in the nodes -/
def cntN (n : Int) : List PyData → Nat
  | [] => 0
  | d :: r => (if isVarN d = true ∧ numN d = n then 1 else 0) + cntN n r
theorem cnt_app (n : Int) (a b : List PyData) : cntN n (a ++ b) = cntN n a + cntN n b := by
  induction a with
  | nil => simp [cntN]
  | cons d a ih => rw [List.cons_append]; simp only [cntN]; rw [ih]; omega
theorem cnt_zero {n : Int} : ∀ {ds : List PyData}, (∀ d ∈ ds, NdA d) → (cntN n ds = 0 ↔ vN n ∉ ds)
  | [], _ => ⟨fun _ h => (nomatch h), fun _ => rfl⟩
  | d :: ds, hn => by
    have ih := cnt_zero (n := n) fun x hx => hn x (.tail _ hx)
    simp only [cntN]
    by_cases e : isVarN d = true ∧ numN d = n
    · rw [if_pos e]
      refine ⟨fun z => by omega, fun z => absurd ?_ z⟩
      rw [← e.2, ← var_vN (hn d (.head _)) e.1]
      exact .head _
    · rw [if_neg e, Nat.zero_add, ih]
      refine ⟨fun z m => ?_, fun z m => z (.tail _ m)⟩
      rcases List.mem_cons.mp m with m | m
      · exact e (by rw [← m]; exact ⟨rfl, rfl⟩)
      · exact z m
theorem cnt_bind {n m : Int} {v : List PyData} (hm : m ≠ n) : ∀ {ds : List PyData}, (∀ d ∈ ds, NdA d) → cntN m (appM [(n, v)] ds) = cntN m ds + cntN n ds * cntN m v
  | [], _ => by simp [appM, cntN]
  | d :: ds, hn => by
    rw [appM_cons, cnt_app, cnt_bind hm fun x hx => hn x (.tail _ hx)]
    simp only [cntN]
    by_cases e : d = vN n
    · subst e
      rw [app_own, if_neg (fun z => hm (by rw [← z.2]; rfl)), if_pos ⟨vN_var n, vN_num n⟩, Nat.add_mul, Nat.one_mul]
      omega
    · rw [app_else (hn d (.head _)) e, if_neg (c := isVarN d = true ∧ numN d = n) fun z => e (by rw [← z.2]; exact var_vN (hn d (.head _)) z.1), Nat.zero_add (cntN n ds)]
      simp only [cntN]
      omega
theorem len_bind {n : Int} {v : List PyData} : ∀ {ds : List PyData}, (∀ d ∈ ds, NdA d) → ((appM [(n, v)] ds).length : Int) = (ds.length : Int) + (cntN n ds : Int) * ((v.length : Int) - 1)
  | [], _ => by simp [appM, cntN]
  | d :: ds, hn => by
    have ih := len_bind (n := n) (v := v) fun x hx => hn x (.tail _ hx)
    rw [appM_cons, List.length_append]
    simp only [cntN, List.length_cons]
    by_cases e : d = vN n
    · subst e
      rw [app_own, if_pos ⟨vN_var n, vN_num n⟩]
      have e1 : ((v.length + (appM [(n, v)] ds).length : Nat) : Int) = (v.length : Int) + ((appM [(n, v)] ds).length : Int) := by omega
      have e2 : ((1 + cntN n ds : Nat) : Int) * ((v.length : Int) - 1) = ((v.length : Int) - 1) + (cntN n ds : Int) * ((v.length : Int) - 1) := by
        rw [show ((1 + cntN n ds : Nat) : Int) = 1 + (cntN n ds : Int) by omega, Int.add_mul, Int.one_mul]
      rw [e1, ih, e2]
      omega
    · rw [app_else (hn d (.head _)) e, if_neg fun z => e (by rw [← z.2]; exact var_vN (hn d (.head _)) z.1), Nat.zero_add]
      have e1 : (([d].length + (appM [(n, v)] ds).length : Nat) : Int) = 1 + ((appM [(n, v)] ds).length : Int) := by rw [List.length_singleton]; omega
      rw [e1, ih]
      omega
/-- a dict that counts -/
def CntK (kvs : List (Key × V)) (f : Int → Nat) : Prop := ∀ n, (valV kvs (Sum.inl n) = some (.int (f n)) ∨ (valV kvs (Sum.inl n) = none ∧ f n = 0))
theorem valT_at : ∀ {t : Tab} {q : Int × List PyData}, (t.map (·.1)).Nodup → q ∈ t → valT t q.1 = some q.2
  | x :: t, q, h, hq => by
    obtain ⟨h1, h2⟩ := List.nodup_cons.mp h
    rw [valT_cons]
    rcases List.mem_cons.mp hq with rfl | hq
    · rw [if_pos rfl]
    · rw [if_neg fun z => h1 (by show x.1 ∈ _; rw [z]; exact List.mem_map.mpr ⟨q, hq, rfl⟩)]
      exact valT_at h2 hq
def stl (T F : Tab) : Tab := F.map fun q => (q.1, appM T q.2)
theorem stl_keys (T F : Tab) : (stl T F).map (·.1) = F.map (·.1) := by unfold stl; rw [List.map_map]; rfl
theorem Tri.list {F T : Tab} (h : Tri F T) (nd : (T.map (·.1)).Nodup) : stl T F = T := by
  have hl : F.length = T.length := by have := congrArg List.length h.keys; simpa using this
  refine List.ext_getElem? fun i => ?_
  unfold stl
  rw [List.getElem?_map]
  cases e : F[i]? with
  | none =>
    have := List.getElem?_eq_none_iff.mp e
    exact (List.getElem?_eq_none_iff.mpr (by omega)).symm
  | some q =>
    have hi := (List.getElem?_eq_some_iff.mp e).1
    have e2 : T[i]? = some T[i] := List.getElem?_eq_getElem (by omega)
    have k : q.1 = T[i].1 := by
      have a1 : (F.map (·.1))[i]? = some q.1 := by rw [List.getElem?_map, e]; rfl
      rw [h.keys, List.getElem?_map, e2] at a1
      exact (Option.some.inj a1).symm
    have v := valT_at nd (List.getElem_mem (show i < T.length by omega))
    rw [← k, h.val q (List.mem_of_getElem? e)] at v
    rw [e2]
    show some (q.1, appM T q.2) = some T[i]
    rw [Option.some.inj v, k]
theorem valT_rev {t : Tab} (h : (t.map (·.1)).Nodup) (n : Int) : valT t.reverse n = valT t n := by
  cases e : valT t n with
  | none =>
    refine valT_notin fun m => ?_
    obtain ⟨q, hq, rfl⟩ := List.mem_map.mp m
    exact valT_none e q (List.mem_reverse.mp hq) rfl
  | some w =>
    have hr : (t.reverse.map (·.1)).Nodup := by rw [List.map_reverse]; exact List.pairwise_reverse.mpr (List.Pairwise.imp Ne.symm h)
    have hq : ∃ q ∈ t, q.1 = n ∧ q.2 = w := by
      unfold valT at e
      cases f : t.find? fun p => decide (p.1 = n) with
      | none => rw [f] at e; cases e
      | some q =>
        rw [f] at e
        exact ⟨q, List.mem_of_find?_eq_some f, of_decide_eq_true (List.find?_some (p := fun p : Int × List PyData => decide (p.1 = n)) f), Option.some.inj e⟩
    obtain ⟨q, hq, rfl, rfl⟩ := hq
    exact valT_at hr (List.mem_reverse.mpr hq)
theorem app_congr {t u : Tab} : ∀ {ds : List PyData}, (∀ d ∈ ds, NdA d) → (∀ n, vN n ∈ ds → valT t n = valT u n) → appM t ds = appM u ds
  | [], _, _ => rfl
  | d :: ds, hn, h => by
    rw [appM_cons, appM_cons, app_congr (fun x hx => hn x (.tail _ hx)) fun n m => h n (.tail _ m)]
    congr 1
    by_cases v : isVarN d = true
    · unfold appN
      rw [if_pos v, if_pos v, h (numN d) (by rw [← var_vN (hn d (.head _)) v]; exact .head _)]
    · rw [appN_non v, appN_non v]
theorem Tri.valM {F T : Tab} (h : Tri F T) (n : Int) : valT T n = (valT F n).map (appM T) := by
  cases e : valT F n with
  | none =>
    refine valT_notin fun m => ?_
    obtain ⟨q, hq, rfl⟩ := List.mem_map.mp ((h.key _).mpr m)
    exact valT_none e q hq rfl
  | some w =>
    have hq : ∃ q ∈ F, q.1 = n ∧ q.2 = w := by
      unfold valT at e
      cases f : F.find? fun p => decide (p.1 = n) with
      | none => rw [f] at e; cases e
      | some q =>
        rw [f] at e
        exact ⟨q, List.mem_of_find?_eq_some f, of_decide_eq_true (List.find?_some (p := fun p : Int × List PyData => decide (p.1 = n)) f), Option.some.inj e⟩
    obtain ⟨q, hq, rfl, rfl⟩ := hq
    exact h.val q hq
theorem tri_at : ∀ {F : Tab} {i : Nat} {q : Int × List PyData}, TriR F → F[i]? = some q → ∀ x ∈ F.take (i + 1), vN x.1 ∉ q.2
  | [], _, _, _, e, _, _ => by simp at e
  | y :: F, 0, q, h, e, x, hx => by
    have e' : y = q := by simpa using e
    have hx' : x = y := by simpa using hx
    rw [hx', ← e']
    exact h.1 y (.head _)
  | y :: F, i + 1, q, h, e, x, hx => by
    have e' : F[i]? = some q := by simpa using e
    rw [List.take_succ_cons] at hx
    rcases List.mem_cons.mp hx with rfl | hx
    · exact h.1 q (.tail _ (List.mem_of_getElem? e'))
    · exact tri_at h.2 e' x hx
/-- settled from the last binding on -/
theorem settle_at {F T : Tab} (h : Tri F T) (nd : (T.map (·.1)).Nodup) {i : Nat} {q : Int × List PyData} (e : F[i]? = some q) : appM (stl T (F.drop (i + 1))).reverse q.2 = appM T q.2 := by
  have ndF : (F.map (·.1)).Nodup := by rw [h.keys]; exact nd
  refine app_congr (h.tm q (List.mem_of_getElem? e)).2 fun n m => ?_
  have nd2 : ((stl T (F.drop (i + 1))).map (·.1)).Nodup := by
    rw [stl_keys, List.map_drop]
    exact List.Nodup.sublist (List.drop_sublist _ _) ndF
  rw [valT_rev nd2, h.valM n]
  unfold stl
  rw [valT_map]
  congr 1
  have out : n ∉ (F.take (i + 1)).map (·.1) := fun z => by
    obtain ⟨x, hx, rfl⟩ := List.mem_map.mp z
    exact tri_at h.tri e x hx m
  have : valT F n = valT (F.take (i + 1) ++ F.drop (i + 1)) n := by rw [List.take_append_drop]
  rw [this, valT_app, valT_notin out]
theorem valV_get {K : PySem.W.Frag} {H : Hp} : ∀ {kvs : List (Key × V)} {t : Tab} {i : Nat} {kv : Key × V}, TabK K H kvs t → (t.map (·.1)).Nodup → kvs[i]? = some kv → valV kvs kv.1 = some kv.2
  | [], _, _, _, _, _, e => by simp at e
  | _ :: _, [], _, _, h, _, _ => h.elim
  | p :: kvs, q :: t, 0, kv, h, _, e => by
    rw [List.getElem?_cons_zero] at e
    cases e
    exact valV_pos rfl
  | p :: kvs, q :: t, i + 1, kv, h, nd, e => by
    rw [List.getElem?_cons_succ] at e
    obtain ⟨n1, n2⟩ := List.nodup_cons.mp nd
    obtain ⟨x, hx, hx1, _⟩ := TabK.get h.2.2 e
    rw [valV_neg fun z => n1 ?_]
    · exact valV_get h.2.2 n2 e
    · rw [h.1, hx1] at z
      have z2 := Sum.inl.inj z
      show q.1 ∈ _
      rw [z2]
      exact List.mem_map.mpr ⟨x, List.mem_of_getElem? hx, rfl⟩
theorem sqT_ins {K : PySem.W.Frag} {H : Hp} {p b C dx : Addr} {fs : List (Str × V)} {o : HO} {xs : List V} (hp : H p = some (.ins C dx fs)) (h : SqT K H b xs) : SqT K (upd H p o) b xs := by
  rcases h with (h | ⟨u, h⟩) | h
  · exact .inl (.inl (by rw [upd_ne (ne_of h hp (by intro z; cases z))]; exact h))
  · exact .inl (.inr ⟨u, by rw [upd_ne (ne_of h hp (by intro z; cases z))]; exact h⟩)
  · exact .inr h
theorem max3_int (a b c : Int) : nuMax3 (.int a) (.int b) (.int c) = some (.int (max (max a b) c)) := by
  show (nuMax2 (.int a) (.int b)).bind (fun m => nuMax2 m (.int c)) = _
  have h : ∀ x y : Int, nuMax2 (.int x) (.int y) = some (.int (max x y)) := fun x y => by
    show some (if decide (x < y) = true then V.int y else V.int x) = _
    by_cases q : x < y
    · rw [if_pos (decide_eq_true q), Int.max_eq_right (Int.le_of_lt q)]
    · rw [if_neg (fun z => q (of_decide_eq_true z)), Int.max_eq_left (Int.not_lt.mp q)]
  rw [h]
  exact h _ _
theorem dp_tup {K : PySem.W.Frag} {H : Hp} {v : V} {ds : List PyData} (h : Dp K H v (.tuple ds)) : ∃ a xs, v = .ref a ∧ SqT K H a xs ∧ DpAll K H xs ds := by
  cases h with
  | tup s a => exact ⟨_, _, rfl, s, a⟩
/-! ### the promises of unification -/
def sp_is_variable (K : PySem.W.Frag) : Sp := fun vs H Q _ => ∃ (x : V) (d : PyData), vs = [x] ∧ Dp K H x d ∧ NdA d ∧ Q (.bl (isVarN d)) H
def sp_is_symbol (K : PySem.W.Frag) : Sp := fun vs H Q _ => ∃ (x : V) (d : PyData), vs = [x] ∧ Dp K H x d ∧ NdA d ∧ Q (.bl (isSymN d)) H
def sp_arity_of (K : PySem.W.Frag) : Sp := fun vs H Q _ => ∃ (x : V) (d : PyData), vs = [x] ∧ Dp K H x d ∧ NdA d ∧ Q (.int (arN d : Nat)) H
/-- a Side: the stack at r, the dict that counts at c -/
structure SideA (K : PySem.W.Frag) (H : Hp) (p r c : Addr) (n : Int) : Prop where
  ob : ∃ dx, H p = some (.ins (clsA K "Side") dx (fs_Side (.ref r) (.int n) (.ref c)))
/-- the stack holds these nodes, the first on top -/
structure StkA (K : PySem.W.Frag) (H : Hp) (r : Addr) (ds : List PyData) : Prop where
  at_ : ∃ xs, H r = some (.lst xs) ∧ DpAll K H xs ds.reverse
  nd : ∀ d ∈ ds, NdA d
structure CntA (H : Hp) (c : Addr) (f : Int → Nat) (m : Nat) : Prop where
  at_ : ∃ kvs, H c = some (.dK kvs) ∧ CntK kvs f ∧ kvs.length ≤ m
structure FndA (K : PySem.W.Frag) (H : Hp) (d : Addr) (F : Tab) : Prop where
  at_ : ∃ kvs, H d = some (.dK kvs) ∧ TabK K H kvs F
def notKey (F : Tab) (d : PyData) : Prop := isVarN d = true → valT F (numN d) = none
def sp_Side_take (K : PySem.W.Frag) : Sp := fun vs H Q _ => ∃ (p r c d : Addr) (n : Int) (ds : List PyData) (F T : Tab), vs = [.ref p, .ref d] ∧ SideA K H p r c n ∧ StkA K H r ds ∧ FndA K H d F ∧ Tri F T ∧ TabT T ∧ ds ≠ [] ∧ (appM T ds).length ≤ 100000 ∧
  ∀ v e ds' H', NdA e → notKey F e → appM T ds = e :: appM T ds' → StkA K H' r ds' → Dp K H' v e → But r H H' → Q v H'
def sp_Side_take_rest (K : PySem.W.Frag) : Sp := fun vs H Q _ => ∃ (p r c d : Addr) (n : Int) (x : V) (e : PyData) (ds : List PyData) (F T : Tab) (k : Nat), vs = [.ref p, x, .ref d] ∧ SideA K H p r c n ∧ StkA K H r ds ∧ FndA K H d F ∧ Tri F T ∧ TabT T ∧ Dp K H x e ∧ NdA e ∧ Tms (k + 1) (e :: appM T ds) ∧ (appM T ds).length ≤ 90000 ∧
  ∀ v ds' H', appM T ds' = (e :: appM T ds).drop (tk 1 (e :: appM T ds)) → StkA K H' r ds' → Dp K H' v (.tuple (sub1 (e :: appM T ds))) → But r H H' → Q v H'
def sp_Side_add_variables (K : PySem.W.Frag) : Sp := fun vs H Q _ => ∃ (p r c : Addr) (n : Int) (x : V) (ds : List PyData) (t : Int) (f : Int → Nat) (m : Nat), vs = [.ref p, x, .int t] ∧ SideA K H p r c n ∧ CntA H c f m ∧ Dp K H x (.tuple ds) ∧ (∀ d ∈ ds, NdA d) ∧ 0 ≤ t ∧ m + ds.length ≤ 10000000 ∧ t ≤ 100000 ∧
  ∀ H', CntA H' c (fun n => f n + t.toNat * cntN n ds) (m + ds.length) → But c H H' → Q .non H'
def sp_Side_bind (K : PySem.W.Frag) : Sp := fun vs H Q _ => ∃ (p r c : Addr) (n : Int) (x : V) (ds : List PyData) (y : Int) (f : Int → Nat) (m : Nat), vs = [.ref p, .int y, x] ∧ SideA K H p r c n ∧ CntA H c f m ∧ Dp K H x (.tuple ds) ∧ (∀ d ∈ ds, NdA d) ∧ m + ds.length ≤ 10000000 ∧ f y ≤ 100000 ∧ ds.length ≤ 100000 ∧
  ∀ H', SideA K H' p r c (n + (f y : Int) * ((ds.length : Int) - 1)) → CntA H' c (fun z => (if z = y then 0 else f z) + f y * cntN z ds) (m + ds.length) → (∀ b o, b ≠ p → b ≠ c → H b = some o → H' b = some o) → Q .non H'
def sp_Side___init__ (K : PySem.W.Frag) : Sp := fun vs H Q _ => ∃ (p dx : Addr) (x : V) (ds : List PyData), vs = [.ref p, x] ∧ H p = some (.ins (clsA K "Side") dx []) ∧ Dp K H x (.tuple ds) ∧ (∀ d ∈ ds, NdA d) ∧ ds.length ≤ 100000 ∧
  ∀ r c H', H r = Option.none → H c = Option.none → SideA K H' p r c (ds.length : Int) → StkA K H' r ds → CntA H' c (fun n => cntN n ds) ds.length → r ≠ p → c ≠ p → r ≠ c → But p H H' → Q .non H'
theorem appM_none (ds : List PyData) : appM [] ds = ds := by
  induction ds with
  | nil => rfl
  | cons d ds ih =>
    rw [appM_cons, ih]
    show (if isVarN d = true then [d] else [d]) ++ ds = _
    rw [ite_self]
    rfl
theorem eq_nd {d e : PyData} (h : NdA d) (h2 : NdA e) : PyData.eqv d e = true ↔ d = e := ⟨nd_eq h h2, fun w => by
  subst w
  obtain ⟨wd, h⟩ := h
  cases h <;> simp [PyData.eqv, PyData.eqvAll]⟩
theorem any_nd {ds : List PyData} {x : PyData} (h : ∀ d ∈ ds, NdA d) (hx : NdA x) : (ds.any fun z => PyData.eqv z x) = true ↔ x ∈ ds := by
  rw [List.any_eq_true]
  exact ⟨fun ⟨d, hd, q⟩ => by rw [← nd_eq (h d hd) hx q]; exact hd, fun q => ⟨x, q, (eq_nd hx hx).mpr rfl⟩⟩
theorem none_back {H H' : Hp} (s : Same H H') {a : Addr} (h : H' a = Option.none) : H a = Option.none := by
  cases e : H a with
  | none => rfl
  | some o => rw [s _ _ e] at h; cases h
def toA (a b : PyData) : Bool := isVarN a && !(isVarN b && decide (numN a < numN b))
theorem bind_A {a b : PyData} {l r : List PyData} (ha : NdA a) (hb : NdA b) (ne : a ≠ b) (h : toA a b = true) : bindM (a :: l) (b :: r) = some (numN a, sub1 (b :: r)) := by
  unfold toA at h
  rw [Bool.and_eq_true] at h
  simp only [bindM]
  rw [if_pos h.1]
  by_cases vb : isVarN b = true
  · rw [if_pos vb]
    rw [vb, Bool.true_and] at h
    have h2 : ¬ numN a < numN b := fun w => by rw [decide_eq_true w] at h; exact absurd h.2 (by decide)
    have h3 : numN a ≠ numN b := fun w => ne (by rw [var_vN ha h.1, var_vN hb vb, w])
    rw [if_pos (by omega)]
    have e := var_vN hb vb
    rw [show sub1 (b :: r) = [vN (numN b)] by rw [e, sub_var]; rfl]
    rfl
  · rw [if_neg vb]
theorem bind_B {a b : PyData} {l r : List PyData} (ha : NdA a) (hb : NdA b) (h : toA a b = false) (vb : isVarN b = true) : bindM (a :: l) (b :: r) = some (numN b, sub1 (a :: l)) := by
  unfold toA at h
  simp only [bindM]
  by_cases va : isVarN a = true
  · rw [va, vb, Bool.true_and, Bool.true_and] at h
    have h2 : numN a < numN b := by
      by_cases w : numN a < numN b
      · exact w
      · rw [decide_eq_false w] at h; exact absurd h (by decide)
    rw [if_pos va, if_pos vb, if_neg (by omega)]
    have e := var_vN ha va
    rw [show sub1 (a :: l) = [vN (numN a)] by rw [e, sub_var]; rfl]
    rfl
  · rw [if_neg va, if_pos vb]
theorem bind_C {a b : PyData} {l r : List PyData} (h : toA a b = false) (vb : isVarN b = false) : bindM (a :: l) (b :: r) = none := by
  unfold toA at h
  rw [vb, Bool.false_and, Bool.not_false, Bool.and_true] at h
  simp only [bindM]
  rw [h, vb]
  rfl
theorem app_self {n : Int} {v : List PyData} (hv : ∀ d ∈ v, NdA d) (h : vN n ∉ v) : appM [(n, v)] v = v := appM_free hv fun q hq => by rw [List.mem_singleton.mp hq]; exact h
theorem app_sing (n : Int) (v : List PyData) : appM [(n, v)] [vN n] = v := by rw [appM_cons, app_own, appM_nil, List.append_nil]
theorem cnt_le (n : Int) : ∀ ds : List PyData, cntN n ds ≤ ds.length
  | [] => Nat.le_refl _
  | d :: ds => by
    have := cnt_le n ds
    unfold cntN
    rw [List.length_cons]
    split <;> omega
theorem cnt_after {n : Int} {v ds : List PyData} (hv : ∀ d ∈ v, NdA d) (hd : ∀ d ∈ ds, NdA d) (own : vN n ∉ v) (z : Int) : (if z = n then 0 else cntN z ds) + cntN n ds * cntN z v = cntN z (appM [(n, v)] ds) := by
  by_cases e : z = n
  · subst e
    rw [if_pos rfl, (cnt_zero hv).mpr own, Nat.mul_zero, (cnt_zero (appM_nd (fun q hq => by rw [List.mem_singleton.mp hq]; exact hv) hd)).mpr (gone own hd)]
  · rw [if_neg e, cnt_bind e hd]
/-- two sides and the dict that was found -/
structure UH (K : PySem.W.Frag) (H : Hp) (o1 r1 c1 o2 r2 c2 z : Addr) (n1 n2 : Int) (ds1 ds2 : List PyData) (f1 f2 : Int → Nat) (M1 M2 : Nat) (F : Tab) : Prop where
  s1 : SideA K H o1 r1 c1 n1
  s2 : SideA K H o2 r2 c2 n2
  k1 : StkA K H r1 ds1
  k2 : StkA K H r2 ds2
  t1 : CntA H c1 f1 M1
  t2 : CntA H c2 f2 M2
  fd : FndA K H z F
  fn : TabN F
  oo : o1 ≠ o2
  rr : r1 ≠ r2
  cc : c1 ≠ c2
  z1 : z ≠ c1
  z2 : z ≠ c2
def KpP (a b : Addr) (H H' : Hp) : Prop := ∀ x o, x ≠ a → x ≠ b → H x = some o → H' x = some o
def nTup (H : Hp) (a : Addr) : Prop := ∃ o, H a = some o ∧ (∀ xs, o ≠ .tup xs) ∧ ∀ u xs, o ≠ .frz u (.tup xs)
theorem KpP.sqT {K : PySem.W.Frag} {a b : Addr} {H H' : Hp} (h : KpP a b H H') (na : nTup H a) (nb : nTup H b) {p : Addr} {xs : List V} (q : SqT K H p xs) : SqT K H' p xs := by
  obtain ⟨o, e, n1, n2⟩ := na
  obtain ⟨u, g, m1, m2⟩ := nb
  rcases q with (q | ⟨y, q⟩) | q
  · exact .inl (.inl (h _ _ (fun z => by rw [z, e] at q; exact n1 _ (Option.some.inj q)) (fun z => by rw [z, g] at q; exact m1 _ (Option.some.inj q)) q))
  · exact .inl (.inr ⟨y, h _ _ (fun z => by rw [z, e] at q; exact n2 _ _ (Option.some.inj q)) (fun z => by rw [z, g] at q; exact m2 _ _ (Option.some.inj q)) q⟩)
  · exact .inr q
theorem KpP.sqL {a : Addr} {H H' : Hp} (h : But a H H') : KpP a a H H' := fun x o n _ e => h x o n e
theorem CntA.cong {H : Hp} {c : Addr} {f g : Int → Nat} {m : Nat} (h : CntA H c f m) (e : ∀ z, f z = g z) : CntA H c g m := by rw [← show f = g from funext e]; exact h
section
variable {K : PySem.W.Frag} {H H' : Hp} {o1 r1 c1 o2 r2 c2 z a b : Addr} {n1 n2 : Int} {ds1 ds2 : List PyData} {f1 f2 : Int → Nat} {M1 M2 : Nat} {F : Tab}
theorem SideA.kp {p r c : Addr} {n : Int} (h : SideA K H p r c n) (k : KpP a b H H') (ha : p ≠ a) (hb : p ≠ b) : SideA K H' p r c n := by
  obtain ⟨dx, e⟩ := h.ob
  exact ⟨dx, k _ _ ha hb e⟩
theorem StkA.kp {r : Addr} {ds : List PyData} (h : StkA K H r ds) (k : KpP a b H H') (na : nTup H a) (nb : nTup H b) (ha : r ≠ a) (hb : r ≠ b) : StkA K H' r ds := by
  obtain ⟨xs, e, d⟩ := h.at_
  exact ⟨⟨xs, k _ _ ha hb e, dp_mapAll (fun _ _ q => k.sqT na nb q) _ _ (nds_noL fun x hx => h.nd x (List.mem_reverse.mp hx)) d⟩, h.nd⟩
theorem CntA.kp {c : Addr} {f : Int → Nat} {m : Nat} (h : CntA H c f m) (k : KpP a b H H') (ha : c ≠ a) (hb : c ≠ b) : CntA H' c f m := by
  obtain ⟨kvs, e, d⟩ := h.at_
  exact ⟨kvs, k _ _ ha hb e, d⟩
theorem FndA.kp {d : Addr} (h : FndA K H d F) (n : TabN F) (k : KpP a b H H') (na : nTup H a) (nb : nTup H b) (ha : d ≠ a) (hb : d ≠ b) : FndA K H' d F := by
  obtain ⟨kvs, e, t⟩ := h.at_
  exact ⟨kvs, k _ _ ha hb e, TabK.mono (fun _ _ hn hd => dp_map (fun _ _ q => k.sqT na nb q) _ _ (tup_noL hn) hd) n t⟩
theorem SideA.nt {p r c : Addr} {n : Int} (h : SideA K H p r c n) : nTup H p := by
  obtain ⟨dx, e⟩ := h.ob
  exact ⟨_, e, (fun _ w => by cases w), (fun _ _ w => by cases w)⟩
theorem StkA.nt {r : Addr} {ds : List PyData} (h : StkA K H r ds) : nTup H r := by
  obtain ⟨xs, e, d⟩ := h.at_
  exact ⟨_, e, (fun _ w => by cases w), (fun _ _ w => by cases w)⟩
theorem CntA.nt {c : Addr} {f : Int → Nat} {m : Nat} (h : CntA H c f m) : nTup H c := by
  obtain ⟨kvs, e, d⟩ := h.at_
  exact ⟨_, e, (fun _ w => by cases w), (fun _ _ w => by cases w)⟩
theorem FndA.nt {d : Addr} (h : FndA K H d F) : nTup H d := by
  obtain ⟨kvs, e, t⟩ := h.at_
  exact ⟨_, e, (fun _ w => by cases w), (fun _ _ w => by cases w)⟩
theorem ne_sk {p r c r' : Addr} {n : Int} {ds : List PyData} (h : SideA K H p r c n) (k : StkA K H r' ds) : p ≠ r' := by
  obtain ⟨dx, e⟩ := h.ob
  obtain ⟨xs, g, _⟩ := k.at_
  exact ne_of e g (by intro w; cases w)
theorem ne_sc {p r c c' : Addr} {n : Int} {f : Int → Nat} {m : Nat} (h : SideA K H p r c n) (k : CntA H c' f m) : p ≠ c' := by
  obtain ⟨dx, e⟩ := h.ob
  obtain ⟨xs, g, _⟩ := k.at_
  exact ne_of e g (by intro w; cases w)
theorem ne_sf {p r c d : Addr} {n : Int} (h : SideA K H p r c n) (k : FndA K H d F) : p ≠ d := by
  obtain ⟨dx, e⟩ := h.ob
  obtain ⟨xs, g, _⟩ := k.at_
  exact ne_of e g (by intro w; cases w)
theorem ne_kc {r c : Addr} {ds : List PyData} {f : Int → Nat} {m : Nat} (h : StkA K H r ds) (k : CntA H c f m) : r ≠ c := by
  obtain ⟨dx, e, _⟩ := h.at_
  obtain ⟨xs, g, _⟩ := k.at_
  exact ne_of e g (by intro w; cases w)
theorem ne_kf {r d : Addr} {ds : List PyData} (h : StkA K H r ds) (k : FndA K H d F) : r ≠ d := by
  obtain ⟨dx, e, _⟩ := h.at_
  obtain ⟨xs, g, _⟩ := k.at_
  exact ne_of e g (by intro w; cases w)
theorem UH.same (u : UH K H o1 r1 c1 o2 r2 c2 z n1 n2 ds1 ds2 f1 f2 M1 M2 F) (s : Same H H') : UH K H' o1 r1 c1 o2 r2 c2 z n1 n2 ds1 ds2 f1 f2 M1 M2 F := by
  obtain ⟨x1, e1, d1⟩ := u.k1.at_
  obtain ⟨x2, e2, d2⟩ := u.k2.at_
  obtain ⟨y1, g1, m1⟩ := u.t1.at_
  obtain ⟨y2, g2, m2⟩ := u.t2.at_
  obtain ⟨y3, g3, m3⟩ := u.fd.at_
  obtain ⟨d3, i1⟩ := u.s1.ob
  obtain ⟨d4, i2⟩ := u.s2.ob
  exact ⟨⟨d3, s _ _ i1⟩, ⟨d4, s _ _ i2⟩, ⟨⟨x1, s _ _ e1, dp_sameAll s _ _ d1⟩, u.k1.nd⟩, ⟨⟨x2, s _ _ e2, dp_sameAll s _ _ d2⟩, u.k2.nd⟩, ⟨y1, s _ _ g1, m1⟩, ⟨y2, s _ _ g2, m2⟩, ⟨y3, s _ _ g3, tab_same s u.fn m3⟩, u.fn, u.oo, u.rr, u.cc, u.z1, u.z2⟩
theorem UH.stk1 {ds : List PyData} (u : UH K H o1 r1 c1 o2 r2 c2 z n1 n2 ds1 ds2 f1 f2 M1 M2 F) (h : But r1 H H') (k : StkA K H' r1 ds) : UH K H' o1 r1 c1 o2 r2 c2 z n1 n2 ds ds2 f1 f2 M1 M2 F := by
  have kp := KpP.sqL h
  have n := u.k1.nt
  have a1 := ne_sk u.s1 u.k1
  have a2 := ne_sk u.s2 u.k1
  have a3 := (ne_kc u.k1 u.t1).symm
  have a4 := (ne_kc u.k1 u.t2).symm
  have a5 := (ne_kf u.k1 u.fd).symm
  exact ⟨u.s1.kp kp a1 a1, u.s2.kp kp a2 a2, k, u.k2.kp kp n n u.rr.symm u.rr.symm, u.t1.kp kp a3 a3, u.t2.kp kp a4 a4, u.fd.kp u.fn kp n n a5 a5, u.fn, u.oo, u.rr, u.cc, u.z1, u.z2⟩
theorem UH.stk2 {ds : List PyData} (u : UH K H o1 r1 c1 o2 r2 c2 z n1 n2 ds1 ds2 f1 f2 M1 M2 F) (h : But r2 H H') (k : StkA K H' r2 ds) : UH K H' o1 r1 c1 o2 r2 c2 z n1 n2 ds1 ds f1 f2 M1 M2 F := by
  have kp := KpP.sqL h
  have n := u.k2.nt
  have a1 := ne_sk u.s1 u.k2
  have a2 := ne_sk u.s2 u.k2
  have a3 := (ne_kc u.k2 u.t1).symm
  have a4 := (ne_kc u.k2 u.t2).symm
  have a5 := (ne_kf u.k2 u.fd).symm
  exact ⟨u.s1.kp kp a1 a1, u.s2.kp kp a2 a2, u.k1.kp kp n n u.rr u.rr, k, u.t1.kp kp a3 a3, u.t2.kp kp a4 a4, u.fd.kp u.fn kp n n a5 a5, u.fn, u.oo, u.rr, u.cc, u.z1, u.z2⟩
theorem UH.bnd1 {n : Int} {f : Int → Nat} {m : Nat} (u : UH K H o1 r1 c1 o2 r2 c2 z n1 n2 ds1 ds2 f1 f2 M1 M2 F) (kp : KpP o1 c1 H H') (s : SideA K H' o1 r1 c1 n) (t : CntA H' c1 f m) : UH K H' o1 r1 c1 o2 r2 c2 z n n2 ds1 ds2 f f2 m M2 F := by
  have n := u.s1.nt
  have n' := u.t1.nt
  exact ⟨s, u.s2.kp kp u.oo.symm (ne_sc u.s2 u.t1), u.k1.kp kp n n' (ne_sk u.s1 u.k1).symm (ne_kc u.k1 u.t1), u.k2.kp kp n n' (ne_sk u.s1 u.k2).symm (ne_kc u.k2 u.t1), t, u.t2.kp kp (ne_sc u.s1 u.t2).symm u.cc.symm, u.fd.kp u.fn kp n n' (ne_sf u.s1 u.fd).symm u.z1, u.fn, u.oo, u.rr, u.cc, u.z1, u.z2⟩
theorem UH.bnd2 {n : Int} {f : Int → Nat} {m : Nat} (u : UH K H o1 r1 c1 o2 r2 c2 z n1 n2 ds1 ds2 f1 f2 M1 M2 F) (kp : KpP o2 c2 H H') (s : SideA K H' o2 r2 c2 n) (t : CntA H' c2 f m) : UH K H' o1 r1 c1 o2 r2 c2 z n1 n ds1 ds2 f1 f M1 m F := by
  have n := u.s2.nt
  have n' := u.t2.nt
  exact ⟨u.s1.kp kp u.oo (ne_sc u.s1 u.t2), s, u.k1.kp kp n n' (ne_sk u.s2 u.k1).symm (ne_kc u.k1 u.t2), u.k2.kp kp n n' (ne_sk u.s2 u.k2).symm (ne_kc u.k2 u.t2), u.t1.kp kp (ne_sc u.s2 u.t1).symm u.cc, t, u.fd.kp u.fn kp n n' (ne_sf u.s2 u.fd).symm u.z2, u.fn, u.oo, u.rr, u.cc, u.z1, u.z2⟩
theorem UH.put {kvs : List (Key × V)} {n : Int} {x : V} {v : List PyData} (u : UH K H o1 r1 c1 o2 r2 c2 z n1 n2 ds1 ds2 f1 f2 M1 M2 F) (hz : H z = some (.dK kvs)) (nk : n ∉ F.map (·.1)) (nv : ∀ d ∈ v, NdA d) (dv : Dp K H x (.tuple v)) : UH K (upd H z (.dK (putK kvs (Sum.inl n) x))) o1 r1 c1 o2 r2 c2 z n1 n2 ds1 ds2 f1 f2 M1 M2 (F ++ [(n, v)]) := by
  have kp : KpP z z H (upd H z (.dK (putK kvs (Sum.inl n) x))) := fun b o hb _ e => by rw [upd_ne hb]; exact e
  have nt : nTup H z := u.fd.nt
  have ntz : notTup H z := .inr (.inl ⟨_, hz⟩)
  obtain ⟨kvs', e, tk⟩ := u.fd.at_
  rw [hz] at e
  cases e
  have a1 := ne_sf u.s1 u.fd
  have a2 := ne_sf u.s2 u.fd
  have a3 := ne_kf u.k1 u.fd
  have a4 := ne_kf u.k2 u.fd
  exact ⟨u.s1.kp kp a1 a1, u.s2.kp kp a2 a2, u.k1.kp kp nt nt a3 a3, u.k2.kp kp nt nt a4 a4, u.t1.kp kp u.z1.symm u.z1.symm, u.t2.kp kp u.z2.symm u.z2.symm,
    ⟨_, upd_same, TabK.add (tab_put ntz u.fn tk) nk (dp_put ntz _ _ (tup_noL nv) dv)⟩, fun q hq => (List.mem_append.mp hq).elim (u.fn q) fun w => by rw [List.mem_singleton.mp w]; exact nv, u.oo, u.rr, u.cc, u.z1, u.z2⟩
end
/-- a term's beginning that is a term itself is the whole of it -/
theorem cls_pre : ∀ (p l : List PyData) (m : Nat), Cls m p → Cls m (p ++ l) → l = []
  | [], [], _, _, _ => rfl
  | [], d :: l, m, h1, h2 => by
    have h1 : m = 0 := h1
    have := h2.1
    omega
  | d :: p, l, m, h1, h2 => cls_pre p l _ h1.2 h2.2
theorem same_len {p l r : List PyData} (hl : Tms 1 (p ++ l)) (hr : Tms 1 (p ++ r)) (h : r = []) : l = [] := by
  subst h
  rw [List.append_nil] at hr
  exact cls_pre _ _ _ hr.1 hl.1
def sp_apply (K : PySem.W.Frag) : Sp := fun vs H Q _ => ∃ (p : Addr) (F : Tab) (x : V) (ds : List PyData), vs = [.ref p, x] ∧ FndA K H p F ∧ TabT F ∧ Dp K H x (.tuple ds) ∧ (∀ d ∈ ds, NdA d) ∧ (appM F ds).length ≤ 2000000 ∧ ∀ v H', Same H H' → Dp K H' v (.tuple (appM F ds)) → Q v H'
def sp_settle (K : PySem.W.Frag) : Sp := fun vs H Q _ => ∃ (d : Addr) (F T : Tab), vs = [.ref d] ∧ FndA K H d F ∧ Tri F T ∧ (T.map (·.1)).Nodup ∧ TabT T ∧ (∀ q ∈ T, q.2.length ≤ 100000) ∧ F.length ≤ 100000 ∧ ∀ p H', Same H H' → H p = Option.none → FndA K H' p T → Q (.ref p) H'
def uniQ (K : PySem.W.Frag) (H : Hp) (Q : VK) (E : XK) : Res → Prop
  | .non => ∀ H', Same H H' → Q .non H'
  | .big => ∀ H', Same H H' → E (.ref (clsA K "TooLarge")) Option.none H'
  | .tab T => ∀ d H', Same H H' → H d = Option.none → FndA K H' d T → Q (.ref d) H'
def sp_unify_within (K : PySem.W.Frag) : Sp := fun vs H Q E => ∃ (x y : V) (L R : List PyData) (m : Int) (k : Nat) (s : Res), vs = [x, y, .int m] ∧ Dp K H x (.tuple L) ∧ Dp K H y (.tuple R) ∧ Tms 1 L ∧ Tms 1 R ∧ L.length ≤ 1000 ∧ R.length ≤ 1000 ∧ 0 ≤ m ∧ m ≤ 1000 ∧
  Eg (max m.toNat (max L.length R.length)) k L R [] s ∧ k ≤ 2000 ∧ uniQ K H Q E s
def sp_unify (K : PySem.W.Frag) : Sp := fun vs H Q E => ∃ (x y : V) (L R : List PyData) (k : Nat) (s : Res), vs = [x, y] ∧ Dp K H x (.tuple L) ∧ Dp K H y (.tuple R) ∧ Tms 1 L ∧ Tms 1 R ∧ L.length ≤ 1000 ∧ R.length ≤ 1000 ∧
  Eg (max 200 (max L.length R.length)) k L R [] s ∧ k ≤ 2000 ∧ uniQ K H Q E s
/-! ### small things that many proofs want -/
theorem dp_lst {K : PySem.W.Frag} {H : Hp} {v : V} {ds : List PyData} (h : Dp K H v (.list ds)) : ∃ a xs, v = .ref a ∧ SqL K H a xs ∧ DpAll K H xs ds := by
  cases h with
  | lst s a => exact ⟨_, _, rfl, s, a⟩
theorem keep_frz {H H' : Hp} {p : Addr} {k : List (Key × V)} (hp : H p = some (.dK k)) {o : HO} (s : Same (upd H p o) H') : Same H (upd H' p (.dK k)) := fun b o e => by
  by_cases z : b = p
  · subst z
    rw [hp] at e
    rw [upd_same]
    exact e
  · rw [upd_ne z]
    exact s b o (by rw [upd_ne z]; exact e)
theorem same_sqL {K : PySem.W.Frag} {H H' : Hp} {a : Addr} {xs : List V} (e : Same H H') (h : SqL K H a xs) : SqL K H' a xs := e.seq h
theorem same_new {H H' : Hp} {p : Addr} {o : HO} (np : H p = Option.none) (s : Same H H') : Same H (upd H' p o) := fun b u e => by rw [upd_ne (ne_of_none e np)]; exact s b u e
theorem noLA_of : ∀ {ds : List PyData}, (∀ d ∈ ds, noL d = true) → noLA ds = true
  | [], _ => by simp [noLA]
  | d :: r, h => by rw [noLA, h d (.head _), noLA_of fun e he => h e (.tail _ he)]; rfl
theorem isi_of {K : PySem.W.Frag} {H : Hp} {x : V} {t u : String} {b : Bool} {Q : VK} (h : TyX K H x (.type t)) (k : kitB t u = some b) (q : Q (.bl b) H) : rIsi K [x, .ty u] H Q := ⟨x, .ty u, _, _, _, rfl, .ty _, h, kit_ty k, q⟩
theorem kit_tt : kitB "tuple" "tuple" = some true := by decide +kernel
theorem kit_dd : kitB "dict" "dict" = some true := by decide +kernel
theorem kit_ll : kitB "list" "list" = some true := by decide +kernel
theorem kit_ib : kitB "int" "bool" = some false := by decide +kernel
theorem cat_dpA {K : PySem.W.Frag} {H : Hp} {x y : V} {ds es : List PyData} {Q : VK} (hx : Dp K H x (.tuple ds)) (hy : Dp K H y (.tuple es)) (hz : ds.length + es.length ≤ 1000) (h : ∀ v H', Same H H' → Dp K H' v (.tuple (ds ++ es)) → Q v H') : rCatA K x y H Q := by
  have hx0 := hx
  have hy0 := hy
  cases hx with
  | @tup a xs _ sx ax =>
  cases hy with
  | @tup b ys _ sy ay =>
  have lx := DpAll.len ax
  have ly := DpAll.len ay
  refine ⟨a, b, xs, ys, rfl, rfl, sx, sy, small_of (by omega), fun z => ?_, fun z => ?_, fun p np => ?_⟩
  · subst z
    cases ax
    exact h _ H (Same.refl H) hy0
  · subst z
    cases ay
    rw [List.append_nil] at h
    exact h _ H (Same.refl H) hx0
  · exact h _ _ (same_upd np) (.tup (SqT.of upd_same) (dp_sameAll (same_upd np) _ _ (DpAll.app ax ay)))
/-! ### definite clauses -/
theorem dp_cut {K : PySem.W.Frag} {H : Hp} {x : V} {ds es : List PyData} {lo hi : Option Int} {Q : VK} (iv : Dp K H x (.tuple ds)) (hc : ∀ xs : List V, DpAll K H xs ds → DpAll K H (cutV xs lo hi) es) (h : ∀ v H', Same H H' → Dp K H' v (.tuple es) → Q v H') : rSlA K x lo hi H Q := by
  cases iv with
  | @tup a xs _ g ia =>
  refine ⟨a, xs, rfl, g, fun z => ?_, fun z p np => ?_⟩
  · have hw : cutV xs lo hi = xs := by
      unfold cutV
      rw [z.1, z.2, List.drop_zero, Nat.sub_zero, List.take_length]
    have := hc xs ia
    rw [hw] at this
    exact h _ H (Same.refl H) (.tup g this)
  · exact h _ _ (same_upd np) (.tup (SqT.of upd_same) (dp_sameAll (same_upd np) _ _ (hc xs ia)))
theorem dp_take {K : PySem.W.Frag} {H : Hp} {x : V} {ds : List PyData} {k : Nat} {Q : VK} (iv : Dp K H x (.tuple ds)) (hk : k ≤ ds.length) (h : ∀ v H', Same H H' → Dp K H' v (.tuple (ds.take k)) → Q v H') : rSlA K x Option.none (some (k : Int)) H Q :=
  dp_cut iv (fun xs ia => by
    unfold cutV
    rw [HT.sIx_none, HT.sIx_nat, Nat.min_eq_left (by rw [DpAll.len ia]; exact hk), List.drop_zero, Nat.sub_zero]
    exact DpAll.taket _ ia) h
theorem dp_drop {K : PySem.W.Frag} {H : Hp} {x : V} {ds : List PyData} {k : Nat} {Q : VK} (iv : Dp K H x (.tuple ds)) (hk : k ≤ ds.length) (h : ∀ v H', Same H H' → Dp K H' v (.tuple (ds.drop k)) → Q v H') : rSlA K x (some (k : Int)) Option.none H Q :=
  dp_cut iv (fun xs ia => by
    unfold cutV
    rw [HT.sIx_none, HT.sIx_nat, Nat.min_eq_left (by rw [DpAll.len ia]; exact hk), List.take_of_length_le (by rw [List.length_drop]; exact Nat.le_refl _)]
    exact DpAll.dropt _ ia) h
theorem nopart_of {σ : L2.St} {H : Hp} {Q : Option Int → Hp → Prop} (h : Q Option.none H) : tNoPart σ H Q := h
/-! ### matching -/

def rRepA (K : PySem.W.Frag) : R2 := fun x y H Q => ∃ l k xs, x = .ref l ∧ y = .int k ∧ SqT K H l xs ∧ xs ≠ [] ∧ 0 ≤ k ∧ k ≤ 1000 ∧ xs.length ≤ 1000 ∧ (k = 1 → Q (.ref l) H) ∧ ∀ p, H p = Option.none → Q (.ref p) (upd H p (.tup (List.replicate k.toNat xs).flatten))
theorem tuple_mul0 (l : Addr) (items : Array Value) (n : Nat) (dd : Option Addr) (sl : Array (Option Value)) (u : Tok) (c1 : items.isEmpty = false) :
    Meets (Builtin.«tuple.__mul__» ⟨[.ref l, .int 0 u], []⟩) (fun _ R s => s.heap.get? l = some { cls := .type "tuple", dict := dd, data := .seq items n, slots := sl } ∧
      R (.ok (.ret (Value.ref s.heap.objs.size))) { s with heap := s.heap.push { cls := Value.type "tuple", data := Data.seq #[] }, toks := s.toks }) :=
  .of_wp fun prog w A R s h => by
    obtain ⟨hp, g, d, tk, os⟩ := s
    obtain ⟨hl, h⟩ := h
    have f1 := AutoSeq1.idx_int
    have e1 : (items.isEmpty || (0 : Int) == 1) = false := by rw [c1]; rfl
    have e2 : (decide ((0 : Int) ≤ 0) || items.isEmpty) = true := by rw [c1]; rfl
    wp_walk using wpAny_loadPart' hl
    repeat (first
      | (refine wpAny_ite_false (decide_eq_false (by rw [e1]; exact Bool.false_ne_true)) ?_; wp_walk using wpAny_loadPart' hl)
      | (refine wpAny_ite_true (decide_eq_true e2) ?_; wp_walk using wpAny_loadPart' hl))
    exact ⟨_, rfl, h⟩
theorem tuple_mul1 (l : Addr) (items : Array Value) (n : Nat) (dd : Option Addr) (sl : Array (Option Value)) (u : Tok) :
    Meets (Builtin.«tuple.__mul__» ⟨[.ref l, .int 1 u], []⟩) (fun _ R s => s.heap.get? l = some { cls := .type "tuple", dict := dd, data := .seq items n, slots := sl } ∧
      R (.ok (.ret (Value.ref l))) s) :=
  .of_wp fun prog w A R s h => by
    obtain ⟨hp, g, d, tk, os⟩ := s
    obtain ⟨hl, h⟩ := h
    have f1 := AutoSeq1.idx_int
    have e1 : (items.isEmpty || (1 : Int) == 1) = true := by cases items.isEmpty <;> rfl
    wp_walk using wpAny_loadPart' hl
    repeat (first
      | (refine wpAny_ite_true (decide_eq_true e1) ?_; wp_walk using wpAny_loadPart' hl))
    exact ⟨_, rfl, h⟩

theorem op_repA {X : Cx} : OpR X (binaryOp .Mult) (rRepA X.K) := by
  intro pins s σ H x y v u Q I rx ry h
  obtain ⟨l, k, xs, rfl, rfl, hT, hne, h1, h2, hz, q1, q⟩ := h
  by_cases k2 : 2 ≤ k
  · exact op_repT pins s σ H (.ref l) (.int k) v u Q I rx ry ⟨l, k, xs, rfl, rfl, hT, hne, k2, h2, hz, q⟩
  · cases rx
    obtain ⟨t, rfl⟩ := ry
    obtain ⟨its, r, ⟨⟨cls, dd, data, sl⟩, ho, hc, n, hd⟩, hs⟩ := I.tuple hT
    simp only at hc hd
    subst hc hd
    have hle : its.length = xs.length := r.length.symm
    have hn : its ≠ [] := fun e => hne (by
      rw [e] at hle
      exact List.eq_nil_of_length_eq_zero hle.symm)
    have hi : its.toArray.isEmpty = false := by
      cases its with
      | nil => exact absurd rfl hn
      | cons a b => rfl
    rcases (show k = 0 ∨ k = 1 by omega) with e | e
    · subst e
      refine wpAny_binaryOp_repeat_ref (T := "tuple") (U := "int") (by decide) ⟨_, ho, rfl⟩ (fun s' => typeIs_int s' 0 t) noFill_tuple_mul F.fills_int_mul F.slot_int_rmul repeat_tuple F.slot_int_index.lookup
        (call_meets F.slot_int_rmul (typeIs_int s 0 t) F.entry_int_rmul (F.args_int_rmul_2 _ _) (int_rmul_tuple 0 t l its.toArray n dd sl)
          ⟨ho, rfl, ⟨_, ho, rfl⟩, call_meets F.slot_tuple_mul ⟨_, ho, rfl⟩ F.entry_tuple_mul (F.args_tuple_mul_2 _ _) (tuple_mul0 l its.toArray n dd sl t hi) ⟨ho, ?_⟩⟩)
      refine ⟨.ref s.heap.objs.size, _, I.laid (t' := s.toks) (o := .tup (List.replicate (0 : Int).toNat xs).flatten) (fun b ob q => Heap.get?_push_of_some _ q) (Nat.le_refl _) ?_, rfl, q _ (I.hok.fresh (Nat.le_refl _))⟩
      exact ⟨by show 0 ≤ sizeLine; exact Nat.zero_le _, [], .nil, IsTup.new _ _⟩
    · subst e
      exact wpAny_binaryOp_repeat_ref (T := "tuple") (U := "int") (by decide) ⟨_, ho, rfl⟩ (fun s' => typeIs_int s' 1 t) noFill_tuple_mul F.fills_int_mul F.slot_int_rmul repeat_tuple F.slot_int_index.lookup
        (call_meets F.slot_int_rmul (typeIs_int s 1 t) F.entry_int_rmul (F.args_int_rmul_2 _ _) (int_rmul_tuple 1 t l its.toArray n dd sl)
          ⟨ho, rfl, ⟨_, ho, rfl⟩, call_meets F.slot_tuple_mul ⟨_, ho, rfl⟩ F.entry_tuple_mul (F.args_tuple_mul_2 _ _) (tuple_mul1 l its.toArray n dd sl t) ⟨ho, ⟨.ref l, H, I, rfl, q1 rfl⟩⟩⟩)
def pd (p : Str × Int) : PyData := .tuple [.str p.1, .int p.2]
def nodeF (x : Str) (n : Int) : PyData := .tuple [.str "f", .str x, .int n]
def trueN : PyData := nodeF "true" 0
def commaN : PyData := nodeF "," 2
def clN : PyData := nodeF ":-" 2
def CTL : List (Str × Int) := [("true", 0), ("fail", 0), ("!", 0), (",", 2), (";", 2), ("->", 2), ("\\+", 1), ("call", 1), ("call", 2), ("call", 3), ("call", 4), ("call", 5), ("call", 6), ("call", 7), ("call", 8), ("catch", 3), ("findall", 3), ("throw", 1)]
def BIN : List (Str × Int) := [("=", 2), ("\\=", 2), ("==", 2), ("\\==", 2), ("@<", 2), ("compare", 3), ("var", 1), ("nonvar", 1), ("atom", 1), ("integer", 1), ("callable", 1), ("functor", 3), ("arg", 3), ("=..", 2), ("copy_term", 2), ("sort", 2), ("is", 2), ("=:=", 2), ("<", 2), ("=<", 2), ("write", 1), ("nl", 0), ("asserta", 1), ("assertz", 1), ("retract", 1), ("tabled", 1), ("solve", 2)]
def LC1 : List (Str × Int) := [("true", 0), ("fail", 0), ("!", 0), (",", 2), (";", 2), ("->", 2), ("\\+", 1), ("catch", 3)]
def LC2 : List (Str × Int) := [("findall", 3), ("throw", 1), ("=", 2), ("\\=", 2), ("==", 2), ("\\==", 2), ("@<", 2)]
def LC3 : List (Str × Int) := [("compare", 3), ("var", 1), ("nonvar", 1), ("atom", 1), ("integer", 1), ("callable", 1)]
def LC4 : List (Str × Int) := [("functor", 3), ("arg", 3), ("=..", 2), ("copy_term", 2), ("sort", 2), ("is", 2)]
def LC5 : List (Str × Int) := [("=:=", 2), ("<", 2), ("=<", 2), ("write", 1), ("nl", 0), ("asserta", 1), ("assertz", 1)]
def LC6 : List (Str × Int) := [("retract", 1), ("tabled", 1), ("solve", 2)]
def LCT : List (Str × Int) := LC1 ++ LC2 ++ LC3 ++ LC4 ++ LC5 ++ LC6
def ON1 : List (Str × Int) := [("fail", 0), ("!", 0), (";", 2), ("->", 2), ("\\+", 1), ("catch", 3), ("findall", 3), ("throw", 1)]
def ON2 : List (Str × Int) := [("call", 1), ("call", 8), ("=", 2), ("is", 2), ("write", 1), ("nl", 0), ("assertz", 1)]
def ON3 : List (Str × Int) := [("retract", 1), ("tabled", 1), ("solve", 2), ("sort", 2), ("functor", 3), ("<", 2)]
def ON4 : List (Str × Int) := [("compare", 3), ("var", 1), ("nonvar", 1), ("atom", 1), ("integer", 1), ("arg", 3)]
def NEAR : List (Str × Int) := [("fail", 1), ("!", 2), (";", 1), ("->", 3), ("call", 0), ("true", 1), (":-", 1), ("tabled", 2), ("in", 2)]
def ON5 : List (Str × Int) := [("callable", 1), ("copy_term", 2), ("=..", 2), ("\\=", 2), ("==", 2), ("\\==", 2), ("@<", 2), ("=:=", 2), ("=<", 2), ("asserta", 1)]
def isG : PyData → Bool
  | .tuple [_, .str x, .int n] => !(decide ((x, n) ∈ CTL) || decide ((x, n) ∈ BIN))
  | _ => false
theorem any_pd (x : Str) (n : Int) : ∀ l : List (Str × Int), (l.map pd).any (fun z => PyData.eqv z (pd (x, n))) = decide ((x, n) ∈ l)
  | [] => rfl
  | (y, k) :: l => by
    rw [List.map_cons, List.any_cons, any_pd x n l]
    have e : PyData.eqv (pd (y, k)) (pd (x, n)) = decide ((x, n) = (y, k)) := by
      unfold pd
      simp only [PyData.eqv, PyData.eqvAll, Bool.and_true]
      rw [Bool.eq_iff_iff]
      simp only [Bool.and_eq_true, beq_iff_eq, decide_eq_true_eq, Prod.mk.injEq]
      exact ⟨fun h => ⟨h.1.symm, h.2.symm⟩, fun h => ⟨h.1.symm, h.2.symm⟩⟩
    rw [e, ← Bool.decide_or]
    exact decide_eq_decide.mpr (by rw [List.mem_cons])
theorem pd_shaped {x : Str} {n : Int} (h : okName x = true) : SeqAt.shaped (pd (x, n)) = true := by
  have hd : (pd (x, n)).depth ≤ 64 := by unfold pd; simp [PyData.depth, PyData.depthAll]
  have hc : (pd (x, n)).canLay0 = true := by unfold pd; simp only [PyData.canLay0, PyData.canLayAll0]; rw [okName_cps h]; rfl
  show ((pd (x, n)).canLay0 && decide ((pd (x, n)).depth ≤ 64)) = true
  rw [hc, decide_eq_true hd]
  rfl
theorem pds_lay : ∀ l : List (Str × Int), l.all (fun p => okName p.1) = true → PyData.canLayAll0 (l.map pd) = true ∧ PyData.depthAll (l.map pd) ≤ 1
  | [], _ => ⟨by simp [PyData.canLayAll0], by simp [PyData.depthAll]⟩
  | p :: l, h => by
    rw [List.all_cons, Bool.and_eq_true] at h
    obtain ⟨a, b⟩ := pds_lay l h.2
    rw [List.map_cons]
    have c : (pd p).canLay0 = true := by unfold pd; simp only [PyData.canLay0, PyData.canLayAll0]; rw [okName_cps h.1]; rfl
    have d : (pd p).depth = 1 := by unfold pd; simp [PyData.depth, PyData.depthAll]
    refine ⟨by simp only [PyData.canLayAll0, a, c, Bool.and_self], ?_⟩
    simp only [PyData.depthAll]
    omega
theorem pds_shaped {l : List (Str × Int)} (h : l.all (fun p => okName p.1) = true) : SeqAt.shaped (.tuple (l.map pd)) = true ∧ SeqAt.shaped (.list (l.map pd)) = true := by
  obtain ⟨a, b⟩ := pds_lay l h
  have hd : (PyData.tuple (l.map pd)).depth ≤ 64 := by simp only [PyData.depth]; omega
  have hc : (PyData.tuple (l.map pd)).canLay0 = true := by simp only [PyData.canLay0]; exact a
  have hd2 : (PyData.list (l.map pd)).depth ≤ 64 := by simp only [PyData.depth]; omega
  have hc2 : (PyData.list (l.map pd)).canLay0 = true := by simp only [PyData.canLay0]; exact a
  constructor
  · show ((PyData.tuple (l.map pd)).canLay0 && decide ((PyData.tuple (l.map pd)).depth ≤ 64)) = true
    rw [hc, decide_eq_true hd]; rfl
  · show ((PyData.list (l.map pd)).canLay0 && decide ((PyData.list (l.map pd)).depth ≤ 64)) = true
    rw [hc2, decide_eq_true hd2]; rfl
theorem ctl_ok : CTL.all (fun p => okName p.1) = true := by decide +kernel
theorem bin_ok : BIN.all (fun p => okName p.1) = true := by decide +kernel
theorem lct_ok : LCT.all (fun p => okName p.1) = true := by decide +kernel
theorem lc_in1 : LCT.all (fun p => decide (p ∈ CTL) || decide (p ∈ BIN)) = true := by decide +kernel
theorem lc_in2 : (CTL ++ BIN).all (fun p => decide (p ∈ LCT) || (decide (p.1 = "call") && decide (1 ≤ p.2))) = true := by decide +kernel
theorem call_in : ∀ n : Int, 1 ≤ n → n ≤ 8 → (("call" : Str), n) ∈ CTL := by
  intro n h1 h2
  have h : ∀ k : Fin 8, (("call" : Str), ((k.val + 1 : Nat) : Int)) ∈ CTL := by decide +kernel
  have := h ⟨n.toNat - 1, by omega⟩
  simp only at this
  rwa [show ((n.toNat - 1 + 1 : Nat) : Int) = n by omega] at this
theorem goal_law {x : Str} {n : Int} (h8 : n ≤ 8) : isG (nodeF x n) = (!(decide (x = "call") && decide (1 ≤ n)) && !decide ((x, n) ∈ LCT)) := by
  show (!(decide ((x, n) ∈ CTL) || decide ((x, n) ∈ BIN))) = _
  rw [← Bool.not_or]
  congr 1
  rw [Bool.eq_iff_iff]
  simp only [Bool.or_eq_true, Bool.and_eq_true, decide_eq_true_eq]
  constructor
  · intro h
    have := List.all_eq_true.mp lc_in2 (x, n) (List.mem_append.mpr h)
    simp only [Bool.or_eq_true, Bool.and_eq_true, decide_eq_true_eq] at this
    exact this.symm
  · rintro (⟨rfl, h1⟩ | h)
    · exact .inl (call_in n h1 h8)
    · have := List.all_eq_true.mp lc_in1 (x, n) h
      simpa only [Bool.or_eq_true, decide_eq_true_eq] using this
def OkR (ds : List PyData) : Prop := (∀ d ∈ ds, NdA d) ∧ Cls 1 ds ∧ ds.length ≤ 9 ∧ ∀ d, ds.head? = some d → PyData.eqv d commaN = false ∧ PyData.eqv d clN = false
inductive Flat : List (List PyData) → List PyData → Prop
  | nil : Flat [] []
  | comma {rs : List (List PyData)} {ds : List PyData} : Flat rs ds → Flat rs (commaN :: ds)
  | row {r : List PyData} {rs : List (List PyData)} {ds : List PyData} : OkR r → Flat rs ds → Flat (r :: rs) (r ++ ds)
theorem Flat.app {as bs : List (List PyData)} {a b : List PyData} (h : Flat as a) (k : Flat bs b) : Flat (as ++ bs) (a ++ b) := by
  induction h with
  | nil => exact k
  | comma _ ih => exact .comma ih
  | row r _ ih => rw [List.append_assoc]; exact .row r ih
theorem flat_nil {rs : List (List PyData)} {ds : List PyData} (h : Flat rs ds) (e : ds = []) : rs = [] := by
  cases h with
  | nil => rfl
  | comma _ => cases e
  | @row r rs ds ok _ =>
    cases r with
    | nil => exact absurd ok.2.1 (by show ¬ (1 = 0); decide)
    | cons d r => cases e
def isGr : List PyData → Bool
  | d :: _ => isG d | [] => false
def isTr (r : List PyData) : Bool := PyData.eqv (.tuple r) (.tuple [trueN])
def goalsM (rows : List (List PyData)) : List (List PyData) := rows.filter fun r => !isTr r
def goodM (rows : List (List PyData)) : Bool := (goalsM rows).all isGr
theorem tk_app : ∀ (r t : List PyData) (k : Nat), Cls k r → tk k (r ++ t) = r.length
  | [], t, k, h => by
    have hk : k = 0 := h
    subst hk
    exact tk_zero t
  | d :: r, t, k, h => by
    rw [List.cons_append, tk_cons h.1, tk_app r t _ h.2, List.length_cons]
    omega
theorem cls_rest : ∀ (r t : List PyData) (m j : Nat), Cls j r → Cls m (r ++ t) → j ≤ m → Cls (m - j) t
  | [], t, m, j, h, hm, _ => by
    have hj : j = 0 := h
    subst hj
    exact hm
  | d :: r, t, m, j, h, hm, hjm => by
    have h1 := h.1
    have h2 : Cls (m - 1 + arN d) (r ++ t) := hm.2
    have := cls_rest r t (m - 1 + arN d) (j - 1 + arN d) h.2 h2 (by omega)
    rwa [show m - 1 + arN d - (j - 1 + arN d) = m - j by omega] at this
def splitM : List PyData → List PyData × List PyData
  | [] => ([], [trueN])
  | d :: r => if PyData.eqv d clN = true then (r.take (tk 1 r), r.drop (tk 1 r)) else (d :: r, [trueN])
theorem comma_nd : NdA commaN := ⟨1, .f "," 2 (by decide +kernel) (by decide) (by decide)⟩
theorem cl_nd : NdA clN := ⟨1, .f ":-" 2 (by decide +kernel) (by decide) (by decide)⟩
theorem true_nd : NdA trueN := ⟨1, .f "true" 0 (by decide +kernel) (by decide) (by decide)⟩
theorem true_row : OkR [trueN] := ⟨fun d hd => by rw [List.mem_singleton.mp hd]; exact true_nd, ⟨by decide, rfl⟩, by decide, fun d hd => by
  have e : trueN = d := Option.some.inj hd
  subst e
  exact ⟨by decide +kernel, by decide +kernel⟩⟩
inductive Parts : List (List PyData) → List (List PyData) → Prop
  | nil : Parts [] []
  | cons {as cs R : List (List PyData)} {c : List PyData} : Flat as c → Cls 1 c → (∀ d ∈ c, NdA d) → Parts cs R → Parts (c :: cs) (as ++ R)
theorem Parts.merge : ∀ {i : Nat} {cs R : List (List PyData)} {a b : List PyData}, Parts cs R → cs[i]? = some a → cs[i + 1]? = some b → Parts (cs.take i ++ [commaN :: (a ++ b)] ++ cs.drop (i + 2)) R
  | 0, _, _, a, b, h, ha, hb => by
    cases h with
    | nil => simp at ha
    | @cons as cs R c f1 c1 n1 h =>
      rw [List.getElem?_cons_zero] at ha
      rw [List.getElem?_cons_succ] at hb
      cases ha
      cases h with
      | nil => simp at hb
      | @cons bs cs R c f2 c2 n2 h =>
        rw [List.getElem?_cons_zero] at hb
        cases hb
        rw [← List.append_assoc]
        refine .cons (.comma (f1.app f2)) ⟨by decide, ?_⟩ (fun d hd => ?_) h
        · exact cls_app a b 1 1 c1 c2
        · rcases List.mem_cons.mp hd with z | z
          · rw [z]; exact comma_nd
          · rcases List.mem_append.mp z with z | z
            · exact n1 d z
            · exact n2 d z
  | i + 1, _, _, a, b, h, ha, hb => by
    cases h with
    | nil => simp at ha
    | cons f1 c1 n1 h =>
      rw [List.getElem?_cons_succ] at ha hb
      exact .cons f1 c1 n1 (Parts.merge h ha hb)
theorem imAll_rep {K : PySem.W.Frag} {G : Addr → Prop} {H : Hp} {xs : List V} {ds : List PyData} (h : ImAll K G H xs ds) : ∀ n : Nat, ImAll K G H (List.replicate n xs).flatten (List.replicate n ds).flatten
  | 0 => .nil
  | n + 1 => by
    rw [List.replicate_succ, List.replicate_succ, List.flatten_cons, List.flatten_cons]
    exact ImAll.app h (imAll_rep h n)
theorem im_rep {K : PySem.W.Frag} {G : Addr → Prop} {H : Hp} {x : V} {ds : List PyData} {k : Int} {Q : VK} (iv : Im K G H x (.tuple ds)) (hne : ds ≠ []) (h0 : 0 ≤ k) (h1 : k ≤ 1000) (hl : ds.length ≤ 1000) (h : ∀ v H', Same H H' → Im K (fun b => G b ∨ H b = Option.none) H' v (.tuple (List.replicate k.toNat ds).flatten) → Q v H') : rRepA K x (.int k) H Q := by
  cases id iv with
  | @tup a xs _ ga ea ia =>
  have hxl := ia.len
  refine ⟨a, k, xs, rfl, rfl, SqT.of ea, fun z => hne (by rw [z] at hxl; exact List.eq_nil_of_length_eq_zero hxl.symm), h0, h1, by omega, fun k1 => ?_, fun p np => ?_⟩
  · refine h _ _ (Same.refl _) ?_
    rw [k1, show ((1 : Int).toNat) = 1 from rfl, List.replicate_one, List.flatten_cons, List.flatten_nil, List.append_nil]
    exact Im.mono (fun _ _ _ e => e) (fun _ g => .inl g) _ _ iv
  · exact h _ _ (same_upd np) (im_new np (imAll_rep ia k.toNat))
theorem okN_len {y : Str} (h : okName y = true) : y.length ≤ 40 := by
  unfold okName at h
  simp only [Bool.and_eq_true, decide_eq_true_eq] at h
  exact h.1.2
theorem digit_ok {n : Int} (h0 : 0 ≤ n) (h8 : n ≤ 8) : n.natAbs.log2 < 1920 ∧ (toString n : Str).length ≤ 10 := by
  rcases (show n = 0 ∨ n = 1 ∨ n = 2 ∨ n = 3 ∨ n = 4 ∨ n = 5 ∨ n = 6 ∨ n = 7 ∨ n = 8 by omega) with z | z | z | z | z | z | z | z | z <;> subst z <;> decide +kernel
theorem len_app (a b : Str) : (a ++ b).length = a.length + b.length := by
  show (a.cps ++ b.cps).size = _
  rw [Array.size_append]
  rfl
theorem rowsP {rows : List (List PyData)} {r : List PyData} (h : r ∈ rows) (t : isTr r = false) (g : isGr r = false) : goodM rows = false := by
  cases e : goodM rows with
  | false => rfl
  | true =>
    have := List.all_eq_true.mp e r (List.mem_filter.mpr ⟨h, by rw [t]; rfl⟩)
    rw [g] at this
    cases this
def okP (p : Str × Int) : Bool := okName p.1 && decide (0 ≤ p.2) && decide (p.2 ≤ 8) && !decide (p = ((",", 2) : Str × Int)) && !decide (p = ((":-", 2) : Str × Int))
theorem okP_of {p : Str × Int} (h : okP p = true) : okName p.1 = true ∧ 0 ≤ p.2 ∧ p.2 ≤ 8 ∧ PyData.eqv (nodeF p.1 p.2) commaN = false ∧ PyData.eqv (nodeF p.1 p.2) clN = false := by
  unfold okP at h
  simp only [Bool.and_eq_true, decide_eq_true_eq, Bool.not_eq_true', decide_eq_false_iff_not] at h
  obtain ⟨⟨⟨⟨a, b⟩, c⟩, d⟩, e⟩ := h
  have ne : ∀ y k, p ≠ (y, k) → PyData.eqv (nodeF p.1 p.2) (nodeF y k) = false := fun y k hne => by
    cases z : PyData.eqv (nodeF p.1 p.2) (nodeF y k) with
    | false => rfl
    | true =>
      unfold nodeF at z
      simp only [PyData.eqv, PyData.eqvAll, Bool.and_eq_true, beq_iff_eq] at z
      exact absurd (Prod.ext z.2.1 z.2.2.1) hne
  exact ⟨a, b, c, ne _ _ d, ne _ _ e⟩
def aN : PyData := nodeF "a" 0
theorem aN_nd : NdA aN := ⟨1, .f "a" 0 (by decide +kernel) (by decide) (by decide)⟩
theorem cls_as : ∀ n : Nat, Cls n (List.replicate n [aN]).flatten
  | 0 => rfl
  | n + 1 => by
    rw [List.replicate_succ, List.flatten_cons]
    exact ⟨Nat.succ_pos n, cls_as n⟩
theorem as_len : ∀ n : Nat, ((List.replicate n [aN]).flatten).length = n
  | 0 => rfl
  | n + 1 => by
    rw [List.replicate_succ, List.flatten_cons, List.length_append, as_len n]
    show 1 + n = _
    omega
theorem odd_row {p : Str × Int} (h : okP p = true) : OkR (nodeF p.1 p.2 :: (List.replicate p.2.toNat [aN]).flatten) := by
  obtain ⟨a, b, c, d, e⟩ := okP_of h
  have hl := as_len p.2.toNat
  refine ⟨fun x hx => ?_, ⟨by decide, ?_⟩, by rw [List.length_cons, hl]; omega, fun x hx => ?_⟩
  · rcases List.mem_cons.mp hx with z | z
    · rw [z]; exact ⟨1, .f _ _ a b c⟩
    · obtain ⟨l, hl, hx⟩ := List.mem_flatten.mp z
      rw [List.eq_of_mem_replicate hl] at hx
      rw [List.mem_singleton.mp hx]
      exact aN_nd
  · have : 1 - 1 + arN (nodeF p.1 p.2) = p.2.toNat := by show 0 + p.2.toNat = _; omega
    rw [this]
    exact cls_as _
  · have ex : nodeF p.1 p.2 = x := Option.some.inj hx
    rw [← ex]
    exact ⟨d, e⟩
theorem one_row {d : PyData} (h : NdA d) (a : arN d = 0) (k1 : PyData.eqv d commaN = false) (k2 : PyData.eqv d clN = false) : OkR [d] :=
  ⟨fun x hx => by rw [List.mem_singleton.mp hx]; exact h, ⟨by decide, by show Cls (1 - 1 + arN d) []; rw [a]; rfl⟩, by show 1 ≤ 9; decide, fun x hx => by
    have ex : d = x := Option.some.inj hx
    rw [← ex]
    exact ⟨k1, k2⟩⟩
theorem split_facts {d : PyData} {r : List PyData} (h : ∀ e ∈ d :: r, NdA e) : (∀ e ∈ (splitM (d :: r)).1, NdA e) ∧ (∀ e ∈ (splitM (d :: r)).2, NdA e) ∧ (splitM (d :: r)).2.length ≤ r.length + 1 := by
  show (∀ e ∈ (if PyData.eqv d clN = true then (r.take (tk 1 r), r.drop (tk 1 r)) else (d :: r, [trueN])).1, NdA e) ∧ (∀ e ∈ (if PyData.eqv d clN = true then (r.take (tk 1 r), r.drop (tk 1 r)) else (d :: r, [trueN])).2, NdA e) ∧ (if PyData.eqv d clN = true then (r.take (tk 1 r), r.drop (tk 1 r)) else (d :: r, [trueN])).2.length ≤ r.length + 1
  by_cases e : PyData.eqv d clN = true
  · rw [if_pos e]
    exact ⟨fun x hx => h x (List.mem_cons_of_mem _ (List.mem_of_mem_take hx)), fun x hx => h x (List.mem_cons_of_mem _ (List.mem_of_mem_drop hx)), by show (r.drop _).length ≤ _; rw [List.length_drop]; omega⟩
  · rw [if_neg e]
    exact ⟨h, fun x hx => by rw [List.mem_singleton.mp hx]; exact true_nd, by show 1 ≤ _; omega⟩
theorem lit_add {K : PySem.W.Frag} {σ : L2.St} {t u : TE} {i j : Int} (h1 : Lit K σ t (.int i)) (h2 : Lit K σ u (.int j)) : Lit K σ (tOp (rI0 fun i j => .int (i + j)) t u) (.int (i + j)) := fun H Q h =>
  h1 H _ fun v H1 s1 i1 => h2 H1 _ fun w H2 s2 i2 => by
    cases i1
    cases i2
    exact ⟨_, _, rfl, rfl, h _ _ (s1.trans s2) (.int _)⟩
section
variable {K : PySem.W.Frag} {H Ha Hb Hn H' : Hp} {s l : Addr} {v : V} {d : PyData}
theorem fr_of (bn : But s H Hn) (Sn : Stm Hn s l) : ∀ b, Hn b = Option.none → H b = Option.none := fun b np => by
  obtain ⟨on, hon⟩ := Sn.at_s
  cases e : H b with
  | none => rfl
  | some o =>
    by_cases z : b = s
    · rw [z, hon] at np; cases np
    · rw [bn _ _ z e] at np; cases np
theorem frs_of (bn : But s H Hn) (Sn : Stm Hn s l) (i : Im K (fun b => Hn b = Option.none) H' v d) : Im K (fun b => H b = Option.none) H' v d := Im.mono (fun _ _ _ e => e) (fr_of bn Sn) _ _ i
theorem frs_keep (S0 : Stm H s l) (b : But s Ha Hb) (i : Im K (fun b => H b = Option.none) Ha v d) : Im K (fun b => H b = Option.none) Hb v d := by
  obtain ⟨os, hos⟩ := S0.at_s
  exact Im.mono (fun c o g e => b c o (fun z => by rw [z, hos] at g; cases g) e) (fun _ g => g) _ _ i
theorem frs_cat {x y : V} {ds es : List PyData} {Q : VK} (bn : But s H Ha) (Sn : Stm Ha s l) (iv : Im K (fun b => H b = Option.none) Ha x (.tuple ds)) (iw : Im K (fun b => H b = Option.none) Ha y (.tuple es)) (hz : ds.length + es.length ≤ 1000)
    (h : ∀ v H', Same Ha H' → Im K (fun b => H b = Option.none) H' v (.tuple (ds ++ es)) → Q v H') : rCatA K x y Ha Q :=
  im_cat iv iw hz fun v H' s' i => h v H' s' (Im.mono (fun _ _ _ e => e) (fun b g => g.elim id (fr_of bn Sn b)) _ _ i)
theorem far_of (S0 : Stm H s l) (i : Im K (fun b => H b = Option.none) Ha v d) : Im K (fun b => b ≠ s) Ha v d := by
  obtain ⟨os, hos⟩ := S0.at_s
  exact Im.mono (fun _ _ _ e => e) (fun b g z => by rw [z, hos] at g; cases g) _ _ i
theorem far_keep (b : But s Ha Hb) (i : Im K (fun b => b ≠ s) Ha v d) : Im K (fun b => b ≠ s) Hb v d := Im.mono (fun c o g e => b c o g e) (fun _ g => g) _ _ i
theorem far_cat {x y : V} {ds es : List PyData} {Q : VK} (Sn : Stm Ha s l) (iv : Im K (fun b => b ≠ s) Ha x (.tuple ds)) (iw : Im K (fun b => b ≠ s) Ha y (.tuple es)) (hz : ds.length + es.length ≤ 1000)
    (h : ∀ v H', Same Ha H' → Im K (fun b => b ≠ s) H' v (.tuple (ds ++ es)) → Q v H') : rCatA K x y Ha Q :=
  im_cat iv iw hz fun v H' s' i => h v H' s' (Im.mono (fun _ _ _ e => e) (fun b g => g.elim id fun g z => by obtain ⟨o, ho⟩ := Sn.at_s; rw [z, ho] at g; cases g) _ _ i)
end
theorem okr_of {x : Str} {n : Int} {ds : List PyData} (h : okP (x, n) = true) (nd : ∀ d ∈ ds, NdA d) (hc : Cls n.toNat ds) (hl : ds.length ≤ 8) : OkR (nodeF x n :: ds) := by
  obtain ⟨a, b, c, d, e⟩ := okP_of h
  refine ⟨fun y hy => ?_, ⟨by decide, ?_⟩, by rw [List.length_cons]; omega, fun y hy => ?_⟩
  · rcases List.mem_cons.mp hy with z | z
    · rw [z]; exact ⟨1, .f _ _ a b c⟩
    · exact nd y z
  · have : 1 - 1 + arN (nodeF x n) = n.toNat := by show 0 + n.toNat = _; omega
    rw [this]
    exact hc
  · have ex : nodeF x n = y := Option.some.inj hy
    rw [← ex]
    exact ⟨d, e⟩
def abc : List Str := ["a", "b", "c"]
def ppp : List Str := ["p", "p", "pp"]
def fourI : List Int := [-1, 10 ^ 30, 10 ^ 30 + 1, -(10 ^ 39)]
theorem fourI_ok : ∀ i ∈ fourI, -(10 ^ 40) < i ∧ i < 10 ^ 40 := by decide +kernel
theorem lst_of {ta : TA} {σ : L2.St} {H : Hp} {Q : VK} (h : ta σ H fun xs H1 => xs.length ≤ sizeLine ∧ ∀ p, H1 p = Option.none → Q (.ref p) (upd H1 p (.lst xs))) : tLst ta σ H Q := h
theorem litA_at {K : PySem.W.Frag} {σ : L2.St} {ta : TA} {ds : List PyData} (h : LitA K σ ta ds) {H : Hp} {Q : List V → Hp → Prop} (q : ∀ vs H', Same H H' → ImAll K (fun b => H b = Option.none) H' vs ds → Q vs H') : ta σ H Q := h H Q q
theorem on_ok : (ON1 ++ ON2 ++ ON3 ++ ON4 ++ ON5 ++ NEAR).all okP = true := by decide +kernel
theorem call_ok {r : Int} (h0 : 0 ≤ r) (h6 : r < 6) : okP ("call", 2 + r) = true := by
  rcases (show r = 0 ∨ r = 1 ∨ r = 2 ∨ r = 3 ∨ r = 4 ∨ r = 5 by omega) with z | z | z | z | z | z <;> subst z <;> decide +kernel
theorem pd_pick {K : PySem.W.Frag} {G : Addr → Prop} {H : Hp} {xs : List V} {ps : List (Str × Int)} {r : Int} (a : ImAll K G H xs (ps.map pd)) (r0 : 0 ≤ r) (r1 : r < (ps.length : Int)) : ∃ p v, p ∈ ps ∧ atI xs r = some v ∧ Im K G H v (pd p) := by
  have hr : r.toNat < ps.length := by omega
  have hd : (ps.map pd)[r.toNat]? = some (pd ps[r.toNat]) := by
    rw [List.getElem?_map, List.getElem?_eq_getElem hr]
    rfl
  obtain ⟨v, hv, iv⟩ := ImAll.get a hd
  exact ⟨_, v, List.getElem_mem hr, at_of (j := r.toNat) (by omega) hv, iv⟩
theorem cut_take (xs : List V) (i : Nat) (h : i ≤ xs.length) : cutV xs Option.none (some (i : Int)) = xs.take i := by
  unfold cutV
  rw [HT.sIx_none, HT.sIx_nat, Nat.min_eq_left h, List.drop_zero, Nat.sub_zero]
theorem cut_drop (xs : List V) (i : Nat) (h : i ≤ xs.length) : cutV xs (some (i : Int)) Option.none = xs.drop i := by
  unfold cutV
  rw [HT.sIx_none, HT.sIx_nat, Nat.min_eq_left h, List.take_of_length_le (by rw [List.length_drop]; exact Nat.le_refl _)]
theorem parts_of : ∀ {rows : List (List PyData)}, (∀ r ∈ rows, OkR r) → Parts rows rows
  | [], _ => .nil
  | r :: rows, h => by
    have ok := h r List.mem_cons_self
    have f : Flat [r] r := by
      have := Flat.row ok .nil
      rwa [List.append_nil] at this
    exact Parts.cons (as := [r]) f ok.2.1 ok.1 (parts_of fun x hx => h x (List.mem_cons_of_mem _ hx))
def szP (cs : List (List PyData)) : Nat := (cs.map List.length).sum + cs.length
theorem sz_merge {cs : List (List PyData)} {i : Nat} {a b : List PyData} (ha : cs[i]? = some a) (hb : cs[i + 1]? = some b) : szP (cs.take i ++ [commaN :: (a ++ b)] ++ cs.drop (i + 2)) = szP cs ∧ (cs.take i ++ [commaN :: (a ++ b)] ++ cs.drop (i + 2)).length + 1 = cs.length := by
  obtain ⟨k1, g1⟩ := List.getElem?_eq_some_iff.mp ha
  obtain ⟨k2, g2⟩ := List.getElem?_eq_some_iff.mp hb
  have e : cs = cs.take i ++ (a :: b :: cs.drop (i + 2)) := by
    conv => lhs; rw [← List.take_append_drop i cs]
    rw [List.drop_eq_getElem_cons k1, g1, List.drop_eq_getElem_cons k2, g2]
  constructor
  · conv => rhs; rw [e]
    unfold szP
    simp only [List.map_append, List.map_cons, List.map_nil, List.sum_append, List.sum_cons, List.sum_nil, List.length_append, List.length_cons, List.length_nil]
    omega
  · conv => rhs; rw [e]
    simp only [List.length_append, List.length_cons, List.length_nil]
    omega
theorem sz_rows : ∀ {rows : List (List PyData)}, (∀ r ∈ rows, OkR r) → szP rows ≤ 10 * rows.length
  | [], _ => Nat.le_refl 0
  | r :: rows, h => by
    have ih := sz_rows (rows := rows) fun x hx => h x (List.mem_cons_of_mem _ hx)
    have := (h r List.mem_cons_self).2.2.1
    unfold szP at *
    simp only [List.map_cons, List.sum_cons, List.length_cons]
    omega
theorem rows_facts : ∀ {l : List (List PyData)}, (∀ r ∈ l, ∀ d ∈ r, NdA d) → PyData.canLayAll0 (l.map PyData.tuple) = true ∧ PyData.depthAll (l.map PyData.tuple) ≤ 2 ∧ PyData.eqvAll (l.map PyData.tuple) (l.map PyData.tuple) = true ∧ noLA (l.map PyData.tuple) = true
  | [], _ => ⟨by simp [PyData.canLayAll0], by simp [PyData.depthAll], by simp [PyData.eqvAll], by simp [noLA]⟩
  | r :: l, h => by
    obtain ⟨a1, a2, a3⟩ := nds_lay (h r List.mem_cons_self)
    obtain ⟨b1, b2, b3, b4⟩ := rows_facts (l := l) fun x hx => h x (List.mem_cons_of_mem _ hx)
    rw [List.map_cons]
    refine ⟨by simp only [PyData.canLayAll0, PyData.canLay0, a1, b1, Bool.and_self], ?_, by simp only [PyData.eqvAll, PyData.eqv, a3, b3, Bool.and_self], by simp only [noLA, tup_noL (h r List.mem_cons_self), b4, Bool.and_self]⟩
    simp only [PyData.depthAll, PyData.depth]
    omega
theorem rows_shaped {l : List (List PyData)} (h : ∀ r ∈ l, ∀ d ∈ r, NdA d) : SeqAt.shaped (.list (l.map PyData.tuple)) = true := by
  obtain ⟨a, b, _⟩ := rows_facts h
  have hd : (PyData.list (l.map PyData.tuple)).depth ≤ 64 := by simp only [PyData.depth]; omega
  have hc : (PyData.list (l.map PyData.tuple)).canLay0 = true := by simp only [PyData.canLay0]; exact a
  show ((PyData.list (l.map PyData.tuple)).canLay0 && decide ((PyData.list (l.map PyData.tuple)).depth ≤ 64)) = true
  rw [hc, decide_eq_true hd]
  rfl
theorem good_len (rows : List (List PyData)) : decide (V.int (((goalsM rows).filter fun r => !isGr r).length : Int) = V.int 0) = goodM rows := by
  unfold goodM
  generalize goalsM rows = l
  rw [Bool.eq_iff_iff, decide_eq_true_eq, List.all_eq_true]
  constructor
  · intro h r hr
    have h0 := V.int.inj h
    cases g : isGr r with
    | true => rfl
    | false =>
      have hm : r ∈ l.filter fun r => !isGr r := List.mem_filter.mpr ⟨hr, by rw [g]; rfl⟩
      have := List.length_pos_of_mem hm
      omega
  · intro h
    have : (l.filter fun r => !isGr r) = [] := List.filter_eq_nil_iff.mpr fun r hr => by rw [h r hr]; decide
    rw [this]
    rfl
section
variable {K : PySem.W.Frag} {H : Hp} {p : Addr} {o : HO}
end
section
variable {K : PySem.W.Frag} {H H' : Hp}
end
/-! ### variables -/
def numS (acc : List Int) (d : PyData) : List Int := if isVarN d = true ∧ numN d ∉ acc then acc ++ [numN d] else acc
def nums (ds : List PyData) : List Int := ds.foldl numS []
def mapD (g : Int → Int) (d : PyData) : PyData := if isVarN d = true then .tuple [.str "v", .int (g (numN d))] else d
def renM (first : Int) (ds : List PyData) : List PyData := ds.map (mapD fun n => first + ((nums ds).idxOf n : Nat))
theorem nums_take {ds : List PyData} {i : Nat} {d : PyData} (h : ds[i]? = some d) : nums (ds.take (i + 1)) = numS (nums (ds.take i)) d := by
  unfold nums
  rw [List.take_add_one, h, List.foldl_append]
  rfl
theorem numS_pre (acc : List Int) (d : PyData) : ∃ t, numS acc d = acc ++ t := by
  unfold numS
  split
  · exact ⟨_, rfl⟩
  · exact ⟨[], (List.append_nil _).symm⟩
theorem fold_pre : ∀ (ds : List PyData) (acc : List Int), ∃ t, ds.foldl numS acc = acc ++ t
  | [], acc => ⟨[], (List.append_nil _).symm⟩
  | d :: r, acc => by
    obtain ⟨t1, h1⟩ := numS_pre acc d
    obtain ⟨t2, h2⟩ := fold_pre r (numS acc d)
    exact ⟨t1 ++ t2, by rw [List.foldl_cons, h2, h1, List.append_assoc]⟩
theorem nums_pre (ds : List PyData) (i : Nat) : ∃ t, nums ds = nums (ds.take i) ++ t := by
  have e : nums ds = (ds.drop i).foldl numS (nums (ds.take i)) := by
    unfold nums
    rw [← List.foldl_append, List.take_append_drop]
  rw [e]
  exact fold_pre _ _
theorem numS_mem {acc : List Int} {d : PyData} (h : isVarN d = true) : numN d ∈ numS acc d := by
  unfold numS
  by_cases hm : numN d ∈ acc
  · rw [if_neg (fun z => z.2 hm)]; exact hm
  · rw [if_pos ⟨h, hm⟩]; exact List.mem_append_right _ (List.mem_singleton.mpr rfl)
theorem nums_len : ∀ (ds : List PyData), (nums ds).length ≤ ds.length := by
  have h : ∀ (ds : List PyData) (acc : List Int), (ds.foldl numS acc).length ≤ acc.length + ds.length := by
    intro ds
    induction ds with
    | nil => intro acc; exact Nat.le_refl _
    | cons d r ih =>
      intro acc
      rw [List.foldl_cons, List.length_cons]
      have h1 := ih (numS acc d)
      have h2 : (numS acc d).length ≤ acc.length + 1 := by
        unfold numS
        split
        · rw [List.length_append]; exact Nat.le_refl _
        · exact Nat.le_succ _
      omega
  intro ds
  have := h ds []
  rwa [List.length_nil, Nat.zero_add] at this
theorem nums_mem {ds : List PyData} {i : Nat} {d : PyData} (h : ds[i]? = some d) (v : isVarN d = true) : numN d ∈ nums (ds.take (i + 1)) := by
  rw [nums_take h]; exact numS_mem v
theorem idx_pre {ds : List PyData} {i : Nat} {n : Int} (h : n ∈ nums (ds.take i)) : (nums ds).idxOf n = (nums (ds.take i)).idxOf n := by
  obtain ⟨t, e⟩ := nums_pre ds i
  rw [e, List.idxOf_append, if_pos h]
theorem mem_pre {ds : List PyData} {i : Nat} {n : Int} (h : n ∈ nums (ds.take i)) : n ∈ nums ds := by
  obtain ⟨t, e⟩ := nums_pre ds i
  rw [e]; exact List.mem_append_left _ h
theorem idx_inj {l : List Int} {a b : Int} (ha : a ∈ l) (hb : b ∈ l) (h : l.idxOf a = l.idxOf b) : a = b := by
  have h1 := List.getElem_idxOf (List.idxOf_lt_length_of_mem ha)
  have h2 := List.getElem_idxOf (List.idxOf_lt_length_of_mem hb)
  rw [← h1, ← h2]
  simp only [h]
def VarP (l r : List PyData) : Prop := l.length = r.length ∧ (∀ (k : Nat) (a b : PyData), l[k]? = some a → r[k]? = some b → (isVarN a = true ∧ isVarN b = true) ∨ PyData.eqv a b = true) ∧
  (∀ (j k : Nat) (a b c d : PyData), l[j]? = some a → r[j]? = some b → l[k]? = some c → r[k]? = some d → isVarN a = true → isVarN b = true → isVarN c = true → isVarN d = true → (numN a = numN c ↔ numN b = numN d))
theorem nd_refl {d : PyData} (h : NdA d) : PyData.eqv d d = true := (nd_lay h).2.2
theorem var_both {a b : PyData} (ha : NdA a) (hb : NdA b) (h : PyData.eqv a b = true) : isVarN a = isVarN b := by rw [nd_eq ha hb h]
theorem side {l r : List PyData} (nl : ∀ d ∈ l, NdA d) (nr : ∀ d ∈ r, NdA d) (h : VarP l r) : ∀ i, i ≤ l.length → (nums (l.take i)).length = (nums (r.take i)).length ∧
    ∀ (k : Nat) (x y : Int), (nums (l.take i))[k]? = some x → (nums (r.take i))[k]? = some y → ∃ (j : Nat) (a b : PyData), l[j]? = some a ∧ r[j]? = some b ∧ isVarN a = true ∧ isVarN b = true ∧ numN a = x ∧ numN b = y
  | 0, _ => ⟨rfl, fun k x y h => by simp [nums] at h⟩
  | i + 1, hi => by
    obtain ⟨ih1, ih2⟩ := side nl nr h i (by omega)
    have ha : l[i]? = some l[i] := List.getElem?_eq_getElem (by omega)
    have hlr := h.1
    have hb : r[i]? = some r[i] := List.getElem?_eq_getElem (by omega)
    generalize l[i] = a at ha
    generalize r[i] = b at hb
    have na := nl a (List.mem_of_getElem? ha)
    have nb := nr b (List.mem_of_getElem? hb)
    rw [nums_take ha, nums_take hb]
    rcases h.2.1 i a b ha hb with ⟨va, vb⟩ | e
    · have key : numN a ∈ nums (l.take i) ↔ numN b ∈ nums (r.take i) := by
        constructor
        · intro hm
          obtain ⟨k, hk⟩ := List.getElem?_of_mem hm
          have hk2 : k < (nums (r.take i)).length := by
            have := (List.getElem?_eq_some_iff.mp hk).1
            omega
          have hy : (nums (r.take i))[k]? = some (nums (r.take i))[k] := List.getElem?_eq_getElem hk2
          obtain ⟨j, a', b', g1, g2, g3, g4, g5, g6⟩ := ih2 k _ _ hk hy
          have := (h.2.2 j i a' b' a b g1 g2 ha hb g3 g4 va vb).mp g5
          rw [← this, g6]
          exact List.mem_of_getElem? hy
        · intro hm
          obtain ⟨k, hk⟩ := List.getElem?_of_mem hm
          have hk2 : k < (nums (l.take i)).length := by
            have := (List.getElem?_eq_some_iff.mp hk).1
            omega
          have hy : (nums (l.take i))[k]? = some (nums (l.take i))[k] := List.getElem?_eq_getElem hk2
          obtain ⟨j, a', b', g1, g2, g3, g4, g5, g6⟩ := ih2 k _ _ hy hk
          have := (h.2.2 j i a' b' a b g1 g2 ha hb g3 g4 va vb).mpr g6
          rw [← this, g5]
          exact List.mem_of_getElem? hy
      unfold numS
      by_cases hm : numN a ∈ nums (l.take i)
      · rw [if_neg (fun z => z.2 hm), if_neg (fun z => z.2 (key.mp hm))]
        exact ⟨ih1, ih2⟩
      · rw [if_pos ⟨va, hm⟩, if_pos ⟨vb, fun z => hm (key.mpr z)⟩]
        refine ⟨by rw [List.length_append, List.length_append, ih1]; rfl, fun k x y hx hy => ?_⟩
        by_cases hk : k < (nums (l.take i)).length
        · rw [List.getElem?_append_left hk] at hx
          rw [List.getElem?_append_left (by omega)] at hy
          exact ih2 k x y hx hy
        · rw [List.getElem?_append_right (by omega)] at hx
          rw [List.getElem?_append_right (by omega)] at hy
          have h0 : k - (nums (l.take i)).length = 0 := by
            have := (List.getElem?_eq_some_iff.mp hx).1
            rw [List.length_singleton] at this
            omega
          rw [h0] at hx
          rw [← ih1, h0] at hy
          rw [List.getElem?_cons_zero] at hx hy
          cases hx
          cases hy
          exact ⟨i, a, b, ha, hb, va, vb, rfl, rfl⟩
    · have ev := var_both na nb e
      have en := nd_eq na nb e
      by_cases va : isVarN a = true
      · have vb : isVarN b = true := by rw [← ev]; exact va
        have key : numN a ∈ nums (l.take i) ↔ numN b ∈ nums (r.take i) := by
          constructor
          · intro hm
            obtain ⟨k, hk⟩ := List.getElem?_of_mem hm
            have hk2 : k < (nums (r.take i)).length := by
              have := (List.getElem?_eq_some_iff.mp hk).1
              omega
            have hy : (nums (r.take i))[k]? = some (nums (r.take i))[k] := List.getElem?_eq_getElem hk2
            obtain ⟨j, a', b', g1, g2, g3, g4, g5, g6⟩ := ih2 k _ _ hk hy
            have := (h.2.2 j i a' b' a b g1 g2 ha hb g3 g4 va vb).mp g5
            rw [← this, g6]
            exact List.mem_of_getElem? hy
          · intro hm
            obtain ⟨k, hk⟩ := List.getElem?_of_mem hm
            have hk2 : k < (nums (l.take i)).length := by
              have := (List.getElem?_eq_some_iff.mp hk).1
              omega
            have hy : (nums (l.take i))[k]? = some (nums (l.take i))[k] := List.getElem?_eq_getElem hk2
            obtain ⟨j, a', b', g1, g2, g3, g4, g5, g6⟩ := ih2 k _ _ hy hk
            have := (h.2.2 j i a' b' a b g1 g2 ha hb g3 g4 va vb).mpr g6
            rw [← this, g5]
            exact List.mem_of_getElem? hy
        unfold numS
        by_cases hm : numN a ∈ nums (l.take i)
        · rw [if_neg (fun z => z.2 hm), if_neg (fun z => z.2 (key.mp hm))]
          exact ⟨ih1, ih2⟩
        · rw [if_pos ⟨va, hm⟩, if_pos ⟨vb, fun z => hm (key.mpr z)⟩]
          refine ⟨by rw [List.length_append, List.length_append, ih1]; rfl, fun k x y hx hy => ?_⟩
          by_cases hk : k < (nums (l.take i)).length
          · rw [List.getElem?_append_left hk] at hx
            rw [List.getElem?_append_left (by omega)] at hy
            exact ih2 k x y hx hy
          · rw [List.getElem?_append_right (by omega)] at hx
            rw [List.getElem?_append_right (by omega)] at hy
            have h0 : k - (nums (l.take i)).length = 0 := by
              have := (List.getElem?_eq_some_iff.mp hx).1
              rw [List.length_singleton] at this
              omega
            rw [h0] at hx
            rw [← ih1, h0] at hy
            rw [List.getElem?_cons_zero] at hx hy
            cases hx
            cases hy
            exact ⟨i, a, b, ha, hb, va, vb, rfl, rfl⟩
      · unfold numS
        rw [if_neg (fun z => va z.1), if_neg (fun z => va (by rw [ev]; exact z.1))]
        exact ⟨ih1, ih2⟩
theorem mapD_nd {g : Int → Int} {d : PyData} (h : NdA d) (hg : ∀ n, 0 ≤ g n) : NdA (mapD g d) := by
  unfold mapD
  split
  · exact ⟨g (numN d) + 1, .v _ (hg _) (by omega)⟩
  · exact h
theorem ren_nd {f : Int} {ds : List PyData} (h : ∀ d ∈ ds, NdA d) (hf : 0 ≤ f) : ∀ d ∈ renM f ds, NdA d := by
  intro d hd
  obtain ⟨e, he, rfl⟩ := List.mem_map.mp hd
  exact mapD_nd (h e he) fun n => by omega
theorem mapD_eq {g g' : Int → Int} {a b : PyData} (na : NdA a) (nb : NdA b) (h : mapD g a = mapD g' b) : (isVarN a = true ∧ isVarN b = true ∧ g (numN a) = g' (numN b)) ∨ (isVarN a = false ∧ a = b) := by
  unfold mapD at h
  by_cases va : isVarN a = true
  · rw [if_pos va] at h
    by_cases vb : isVarN b = true
    · rw [if_pos vb] at h
      left
      refine ⟨va, vb, ?_⟩
      injection h with h
      injection h with _ h
      injection h with h _
      injection h
    · rw [if_neg vb] at h
      rw [← h] at vb
      exact absurd rfl vb
  · rw [if_neg va] at h
    by_cases vb : isVarN b = true
    · rw [if_pos vb] at h
      rw [h] at va
      exact absurd rfl va
    · rw [if_neg vb] at h
      exact .inr ⟨Bool.eq_false_iff.mpr va, h⟩
theorem ren_var {l r : List PyData} (nl : ∀ d ∈ l, NdA d) (nr : ∀ d ∈ r, NdA d) : PyData.eqv (.tuple (renM 0 l)) (.tuple (renM 0 r)) = true ↔ VarP l r := by
  constructor
  · intro h
    have e := tup_eq (ren_nd nl (Int.le_refl 0)) (ren_nd nr (Int.le_refl 0)) h
    have el : l.length = r.length := by
      have := congrArg List.length e
      unfold renM at this
      rwa [List.length_map, List.length_map] at this
    have at_ : ∀ (k : Nat) (a b : PyData), l[k]? = some a → r[k]? = some b → (isVarN a = true ∧ isVarN b = true ∧ (0 : Int) + ((nums l).idxOf (numN a) : Nat) = 0 + ((nums r).idxOf (numN b) : Nat)) ∨ (isVarN a = false ∧ a = b) := by
      intro k a b ha hb
      have h1 : (renM 0 l)[k]? = some (mapD (fun n => 0 + ((nums l).idxOf n : Nat)) a) := by unfold renM; rw [List.getElem?_map, ha]; rfl
      have h2 : (renM 0 r)[k]? = some (mapD (fun n => 0 + ((nums r).idxOf n : Nat)) b) := by unfold renM; rw [List.getElem?_map, hb]; rfl
      rw [e, h2] at h1
      exact mapD_eq (nl a (List.mem_of_getElem? ha)) (nr b (List.mem_of_getElem? hb)) (Option.some.inj h1).symm
    refine ⟨el, fun k a b ha hb => ?_, fun j k a b c d ha hb hc hd va vb vc vd => ?_⟩
    · rcases at_ k a b ha hb with ⟨z1, z2, _⟩ | ⟨_, z⟩
      · exact .inl ⟨z1, z2⟩
      · rw [z]; exact .inr (nd_refl (nr b (List.mem_of_getElem? hb)))
    · have i1 : (nums l).idxOf (numN a) = (nums r).idxOf (numN b) := by
        rcases at_ j a b ha hb with ⟨_, _, z⟩ | ⟨z, _⟩
        · omega
        · rw [va] at z; cases z
      have i2 : (nums l).idxOf (numN c) = (nums r).idxOf (numN d) := by
        rcases at_ k c d hc hd with ⟨_, _, z⟩ | ⟨z, _⟩
        · omega
        · rw [vc] at z; cases z
      constructor
      · intro z
        rw [z] at i1
        exact idx_inj (mem_pre (nums_mem hb vb)) (mem_pre (nums_mem hd vd)) (i1.symm.trans i2)
      · intro z
        rw [z] at i1
        exact idx_inj (mem_pre (nums_mem ha va)) (mem_pre (nums_mem hc vc)) (i1.trans i2.symm)
  · intro h
    obtain ⟨s1, s2⟩ := side nl nr h l.length (Nat.le_refl _)
    rw [List.take_length, h.1, List.take_length] at s1 s2
    have idx : ∀ (j : Nat) (a b : PyData), l[j]? = some a → r[j]? = some b → isVarN a = true → isVarN b = true → (nums l).idxOf (numN a) = (nums r).idxOf (numN b) := by
      intro j a b ha hb va vb
      have ma := mem_pre (nums_mem ha va)
      have mb := mem_pre (nums_mem hb vb)
      have la := List.idxOf_lt_length_of_mem ma
      have lb := List.idxOf_lt_length_of_mem mb
      have pa : (nums l)[(nums l).idxOf (numN a)]? = some (numN a) := by rw [List.getElem?_eq_getElem la, List.getElem_idxOf la]
      have pb : (nums r)[(nums r).idxOf (numN b)]? = some (numN b) := by rw [List.getElem?_eq_getElem lb, List.getElem_idxOf lb]
      have pa2 : (nums r)[(nums l).idxOf (numN a)]? = some (nums r)[(nums l).idxOf (numN a)] := List.getElem?_eq_getElem (by omega)
      have pb2 : (nums l)[(nums r).idxOf (numN b)]? = some (nums l)[(nums r).idxOf (numN b)] := List.getElem?_eq_getElem (by omega)
      obtain ⟨j1, a1, b1, g1, g2, g3, g4, g5, g6⟩ := s2 _ _ _ pa pa2
      obtain ⟨j2, a2, b2, k1, k2, k3, k4, k5, k6⟩ := s2 _ _ _ pb2 pb
      have e1 := (h.2.2 j1 j a1 b1 a b g1 g2 ha hb g3 g4 va vb).mp g5
      have e2 := (h.2.2 j2 j a2 b2 a b k1 k2 ha hb k3 k4 va vb).mpr k6
      rw [g6] at e1
      rw [k5] at e2
      have le1 : (nums r).idxOf (numN b) ≤ (nums l).idxOf (numN a) := by
        rcases Nat.lt_or_ge ((nums l).idxOf (numN a)) ((nums r).idxOf (numN b)) with z | z
        · have := List.not_of_lt_findIdx (p := (· == numN b)) (xs := nums r) z
          simp [e1] at this
        · exact z
      have le2 : (nums l).idxOf (numN a) ≤ (nums r).idxOf (numN b) := by
        rcases Nat.lt_or_ge ((nums r).idxOf (numN b)) ((nums l).idxOf (numN a)) with z | z
        · have := List.not_of_lt_findIdx (p := (· == numN a)) (xs := nums l) z
          simp [e2] at this
        · exact z
      omega
    have e : renM 0 l = renM 0 r := by
      refine List.ext_getElem? fun k => ?_
      unfold renM
      rw [List.getElem?_map, List.getElem?_map]
      rcases Nat.lt_or_ge k l.length with z | z
      · have ha : l[k]? = some l[k] := List.getElem?_eq_getElem z
        have hb : r[k]? = some (r[k]'(by rw [← h.1]; exact z)) := List.getElem?_eq_getElem _
        generalize l[k] = a at ha
        generalize r[k]'(by rw [← h.1]; exact z) = b at hb
        rw [ha, hb]
        show some _ = some _
        congr 1
        unfold mapD
        rcases h.2.1 k a b ha hb with ⟨va, vb⟩ | q
        · rw [if_pos va, if_pos vb]; show PyData.tuple [.str "v", .int (0 + ((nums l).idxOf (numN a) : Nat))] = .tuple [.str "v", .int (0 + ((nums r).idxOf (numN b) : Nat))]; rw [idx k a b ha hb va vb]
        · have en := nd_eq (nl a (List.mem_of_getElem? ha)) (nr b (List.mem_of_getElem? hb)) q
          by_cases va : isVarN a = true
          · have vb : isVarN b = true := by rw [← en]; exact va
            rw [if_pos va, if_pos vb]; show PyData.tuple [.str "v", .int (0 + ((nums l).idxOf (numN a) : Nat))] = .tuple [.str "v", .int (0 + ((nums r).idxOf (numN b) : Nat))]; rw [idx k a b ha hb va vb]
          · rw [if_neg va, if_neg (by rw [← en]; exact va), en]
      · rw [List.getElem?_eq_none z, List.getElem?_eq_none (by rw [← h.1]; exact z)]
        rfl
    rw [e]
    exact tup_eqv (ren_nd nr (Int.le_refl 0))
theorem inV_int (n : Int) : ∀ l : List Int, inV (.int n) (l.map V.int) = decide (n ∈ l)
  | [] => rfl
  | m :: l => by
    have ih := inV_int n l
    unfold inV at *
    rw [List.map_cons, List.any_cons, ih]
    show ((m == n) || decide (n ∈ l)) = _
    by_cases h : m = n
    · subst h; simp
    · rw [beq_eq_false_iff_ne.mpr h, Bool.false_or]
      refine decide_eq_decide.mpr ⟨fun z => List.mem_cons_of_mem _ z, fun z => ?_⟩
      rcases List.mem_cons.mp z with y | y
      · exact absurd y.symm h
      · exact y
theorem ints_flat : ∀ l : List Int, (l.map V.int).all flatV = true
  | [] => rfl
  | m :: l => by rw [List.map_cons, List.all_cons, ints_flat l]; rfl
theorem numS_non {acc : List Int} {d : PyData} (h : ¬ isVarN d = true) : numS acc d = acc := if_neg fun z => h z.1
theorem numS_old {acc : List Int} {d : PyData} (h : numN d ∈ acc) : numS acc d = acc := if_neg fun z => z.2 h
theorem numS_new {acc : List Int} {d : PyData} (v : isVarN d = true) (h : numN d ∉ acc) : numS acc d = acc ++ [numN d] := if_pos ⟨v, h⟩
theorem keys_put {kvs : List (Key × V)} {acc : List Int} {d : PyData} (x : V) (v : isVarN d = true) (h : kvs.map (·.1) = acc.map Sum.inl) : (putK kvs (Sum.inl (numN d)) x).map (·.1) = (numS acc d).map Sum.inl := by
  have hk : (kvs.any fun kv => decide (kv.1 = Sum.inl (numN d))) = decide (numN d ∈ acc) := by
    by_cases hm : numN d ∈ acc
    · rw [decide_eq_true hm]
      have : (Sum.inl (numN d) : Key) ∈ kvs.map (·.1) := by rw [h]; exact List.mem_map_of_mem hm
      obtain ⟨kv, h1, h2⟩ := List.mem_map.mp this
      exact List.any_eq_true.mpr ⟨kv, h1, decide_eq_true h2⟩
    · rw [decide_eq_false hm]
      refine Bool.eq_false_iff.mpr fun z => hm ?_
      obtain ⟨kv, h1, h2⟩ := List.any_eq_true.mp z
      have h3 : kv.1 ∈ kvs.map (·.1) := List.mem_map_of_mem h1
      rw [of_decide_eq_true h2, h] at h3
      obtain ⟨m, h4, h5⟩ := List.mem_map.mp h3
      rw [← Sum.inl.inj h5]
      exact h4
  unfold putK
  rw [hk]
  by_cases hm : numN d ∈ acc
  · rw [if_pos (decide_eq_true hm), numS_old hm, ← h, List.map_map]
    refine List.map_congr_left fun kv _ => ?_
    show (if kv.1 = Sum.inl (numN d) then (kv.1, x) else kv).1 = kv.1
    split <;> rfl
  · rw [if_neg (fun z => hm (of_decide_eq_true z)), numS_new v hm, List.map_append, List.map_append, h]
    rfl
theorem keys_kV {kvs : List (Key × V)} {acc : List Int} (h : kvs.map (·.1) = acc.map Sum.inl) : (kvs.map fun kv => kV kv.1) = acc.map V.int := by
  have : (kvs.map fun kv => kV kv.1) = (kvs.map (·.1)).map kV := by rw [List.map_map]; rfl
  rw [this, h, List.map_map]
  rfl
structure Given (K : PySem.W.Frag) (H : Hp) (f : Int) (acc : List Int) (kvs : List (Key × V)) : Prop where
  len : kvs.length = acc.length
  old : ∀ n ∈ acc, ∃ v, valV kvs (Sum.inl n) = some v ∧ Dp K H v (.tuple [.str "v", .int (f + (acc.idxOf n : Nat))])
  new : ∀ n, n ∉ acc → valV kvs (Sum.inl n) = none
theorem Given.mono {K : PySem.W.Frag} {H H' : Hp} {f : Int} {acc : List Int} {kvs : List (Key × V)} (g : Given K H f acc kvs) (h : ∀ v n, Dp K H v (.tuple [.str "v", .int n]) → Dp K H' v (.tuple [.str "v", .int n])) : Given K H' f acc kvs :=
  ⟨g.len, fun n hn => by obtain ⟨v, h1, h2⟩ := g.old n hn; exact ⟨v, h1, h _ _ h2⟩, g.new⟩
theorem Given.put {K : PySem.W.Frag} {H : Hp} {f : Int} {acc : List Int} {kvs : List (Key × V)} {n : Int} {v : V} (g : Given K H f acc kvs) (hn : n ∉ acc) (hv : Dp K H v (.tuple [.str "v", .int (f + (acc.length : Nat))])) : Given K H f (acc ++ [n]) (putK kvs (Sum.inl n) v) := by
  refine ⟨?_, fun m hm => ?_, fun m hm => ?_⟩
  · rw [putK_new _ (g.new n hn), List.length_append, List.length_append, g.len]
    rfl
  · rw [valV_put]
    by_cases e : m = n
    · subst e
      refine ⟨v, if_pos rfl, ?_⟩
      rw [List.idxOf_append, if_neg hn]
      rw [show ([m] : List Int).idxOf m = 0 by simp, Nat.zero_add]
      exact hv
    · rcases List.mem_append.mp hm with z | z
      · obtain ⟨w, h1, h2⟩ := g.old m z
        refine ⟨w, by rw [if_neg (fun y => e (Sum.inl.inj y))]; exact h1, ?_⟩
        rw [List.idxOf_append, if_pos z]
        exact h2
      · exact absurd (List.mem_singleton.mp z) e
  · rw [valV_put, if_neg (fun y => hm (by rw [Sum.inl.inj y]; exact List.mem_append_right _ (List.mem_singleton.mpr rfl)))]
    exact g.new m fun z => hm (List.mem_append_left _ z)
def pairD (p : Int × Int) : PyData := .tuple [.int p.1, .int p.2]
theorem pairs_noL : ∀ P : List (Int × Int), noLA (P.map pairD) = true
  | [] => by simp [noLA]
  | p :: P => by rw [List.map_cons, noLA, pairs_noL P]; simp [pairD, noL, noLA]
def PairsOf (l r : List PyData) (i : Nat) (P : List (Int × Int)) : Prop := ∀ n m, (n, m) ∈ P ↔ ∃ (j : Nat) (a b : PyData), j < i ∧ l[j]? = some a ∧ r[j]? = some b ∧ isVarN a = true ∧ isVarN b = true ∧ numN a = n ∧ numN b = m
theorem PairsOf.add {l r : List PyData} {i : Nat} {P : List (Int × Int)} {a b : PyData} (h : PairsOf l r i P) (ha : l[i]? = some a) (hb : r[i]? = some b) (va : isVarN a = true) (vb : isVarN b = true) : PairsOf l r (i + 1) (P ++ [(numN a, numN b)]) := by
  intro n m
  constructor
  · intro hm
    rcases List.mem_append.mp hm with z | z
    · obtain ⟨j, a', b', h1, h2⟩ := (h n m).mp z
      exact ⟨j, a', b', by omega, h2⟩
    · have := List.mem_singleton.mp z
      cases this
      exact ⟨i, a, b, by omega, ha, hb, va, vb, rfl, rfl⟩
  · rintro ⟨j, a', b', h1, h2, h3, h4, h5, h6, h7⟩
    by_cases e : j = i
    · subst e
      rw [ha] at h2
      rw [hb] at h3
      cases h2
      cases h3
      rw [← h6, ← h7]
      exact List.mem_append_right _ (List.mem_singleton.mpr rfl)
    · exact List.mem_append_left _ ((h n m).mpr ⟨j, a', b', by omega, h2, h3, h4, h5, h6, h7⟩)
theorem PairsOf.stay {l r : List PyData} {i : Nat} {P : List (Int × Int)} {a b : PyData} (h : PairsOf l r i P) (ha : l[i]? = some a) (hb : r[i]? = some b) (v : ¬ (isVarN a = true ∧ isVarN b = true)) : PairsOf l r (i + 1) P := by
  intro n m
  constructor
  · intro hm
    obtain ⟨j, a', b', h1, h2⟩ := (h n m).mp hm
    exact ⟨j, a', b', by omega, h2⟩
  · rintro ⟨j, a', b', h1, h2, h3, h4, h5, h6, h7⟩
    by_cases e : j = i
    · subst e
      rw [ha] at h2
      rw [hb] at h3
      cases h2
      cases h3
      exact absurd ⟨h4, h5⟩ v
    · exact (h n m).mpr ⟨j, a', b', by omega, h2, h3, h4, h5, h6, h7⟩
theorem nums_nodup (ds : List PyData) : (nums ds).Nodup := by
  have h : ∀ (ds : List PyData) (acc : List Int), acc.Nodup → (ds.foldl numS acc).Nodup := by
    intro ds
    induction ds with
    | nil => intro acc h; exact h
    | cons d r ih =>
      intro acc h
      rw [List.foldl_cons]
      refine ih _ ?_
      unfold numS
      split
      · next z =>
        refine List.nodup_append.mpr ⟨h, by simp, fun x hx y hy => ?_⟩
        rw [List.mem_singleton.mp hy]
        exact fun e => z.2 (e ▸ hx)
      · exact h
  exact h ds [] List.nodup_nil
theorem VarP.symm {l r : List PyData} (nl : ∀ d ∈ l, NdA d) (nr : ∀ d ∈ r, NdA d) (h : VarP l r) : VarP r l := by
  refine ⟨h.1.symm, fun k a b ha hb => ?_, fun j k a b c d ha hb hc hd va vb vc vd => (h.2.2 j k b a d c hb ha hd hc vb va vd vc).symm⟩
  rcases h.2.1 k b a hb ha with ⟨z1, z2⟩ | z
  · exact .inl ⟨z2, z1⟩
  · rw [nd_eq (nl b (List.mem_of_getElem? hb)) (nr a (List.mem_of_getElem? ha)) z]
    exact .inr (nd_refl (nr a (List.mem_of_getElem? ha)))
theorem VarP.refl {l : List PyData} (nl : ∀ d ∈ l, NdA d) : VarP l l := by
  refine ⟨rfl, fun k a b ha hb => ?_, fun j k a b c d ha hb hc hd _ _ _ _ => ?_⟩
  · rw [ha] at hb
    cases hb
    exact .inr (nd_refl (nl a (List.mem_of_getElem? ha)))
  · rw [ha] at hb
    rw [hc] at hd
    cases hb
    cases hd
    exact Iff.rfl
theorem ints_dp {K : PySem.W.Frag} {H : Hp} : ∀ l : List Int, DpAll K H (l.map V.int) (l.map PyData.int)
  | [] => .nil
  | n :: l => .cons (.int n) (ints_dp l)
def Drawn (N : List Int) (i : Nat) (kvs : List (Key × V)) : Prop := (∀ m ∈ N.take i, ∃ z, valV kvs (Sum.inl m) = some (.int z)) ∧ ∀ k v, valV kvs k = some v → ∃ z : Int, v = .int z ∧ 0 ≤ z
theorem Drawn.put {N : List Int} {i : Nat} {kvs : List (Key × V)} {n z : Int} (h : Drawn N i kvs) (hz : 0 ≤ z) : Drawn N i (putK kvs (Sum.inl n) (.int z)) := by
  refine ⟨fun m hm => ?_, fun k v hv => ?_⟩
  · rw [valV_put]
    by_cases e : (Sum.inl m : Key) = Sum.inl n
    · rw [if_pos e]; exact ⟨z, rfl⟩
    · rw [if_neg e]; exact h.1 m hm
  · rw [valV_put] at hv
    by_cases e : k = Sum.inl n
    · rw [if_pos e] at hv; cases hv; exact ⟨z, rfl, hz⟩
    · rw [if_neg e] at hv; exact h.2 k v hv
theorem Drawn.next {N : List Int} {i : Nat} {kvs : List (Key × V)} {n z : Int} (h : Drawn N i kvs) (hn : N[i]? = some n) (hz : 0 ≤ z) : Drawn N (i + 1) (putK kvs (Sum.inl n) (.int z)) := by
  refine ⟨fun m hm => ?_, (h.put hz).2⟩
  rw [List.take_add_one, hn] at hm
  rcases List.mem_append.mp hm with y | y
  · exact (h.put hz).1 m y
  · rw [List.mem_singleton.mp y, valV_put, if_pos rfl]
    exact ⟨z, rfl⟩
def Named (N : List Int) (f : Int) (i : Nat) (kvs : List (Key × V)) : Prop := ∀ m ∈ N.take i, valV kvs (Sum.inl m) = some (.int (f + (N.idxOf m : Nat)))
theorem Named.next {N : List Int} {f : Int} {i : Nat} {kvs : List (Key × V)} {n : Int} (h : Named N f i kvs) (nd : N.Nodup) (hn : N[i]? = some n) : Named N f (i + 1) (putK kvs (Sum.inl n) (.int (f + (i : Nat)))) := by
  have hi : N.idxOf n = i := by
    obtain ⟨h1, h2⟩ := List.getElem?_eq_some_iff.mp hn
    rw [← h2]
    exact nd.idxOf_getElem i h1
  intro m hm
  rw [valV_put]
  by_cases e : m = n
  · rw [if_pos (congrArg _ e), e, hi]
  · rw [if_neg (fun y => e (Sum.inl.inj y))]
    rw [List.take_add_one, hn] at hm
    rcases List.mem_append.mp hm with y | y
    · exact h m y
    · exact absurd (List.mem_singleton.mp y) e
/-! ### the promises of definite clauses -/
def Frs (K : PySem.W.Frag) (H H' : Hp) (v : V) (ds : List PyData) : Prop := Im K (fun b => H b = Option.none) H' v (.tuple ds)
def ndC (K : PySem.W.Frag) : Value := .ref (clsA K "NotDefinite")
def sp_end_of (K : PySem.W.Frag) : Sp := fun vs H Q _ => ∃ (x : V) (ds : List PyData) (i k : Nat), vs = [x, .int i] ∧ Dp K H x (.tuple ds) ∧ (∀ d ∈ ds, NdA d) ∧ Cls (k + 1) (ds.drop i) ∧ Q (.int ((i + tk 1 (ds.drop i) : Nat) : Int)) H
def sp_is_control (K : PySem.W.Frag) : Sp := fun vs H Q _ => ∃ (x : Str) (n : Int), vs = [.str x, .int n] ∧ okName x = true ∧ ∀ H', Same H H' → Q (.bl (decide ((x, n) ∈ CTL))) H'
def sp_is_built_in (K : PySem.W.Frag) : Sp := fun vs H Q _ => ∃ (x : Str) (n : Int), vs = [.str x, .int n] ∧ okName x = true ∧ ∀ H', Same H H' → Q (.bl (decide ((x, n) ∈ BIN))) H'
def sp_split_clause (K : PySem.W.Frag) : Sp := fun vs H Q _ => ∃ (x : V) (d : PyData) (r : List PyData), vs = [x] ∧ Dp K H x (.tuple (d :: r)) ∧ (∀ e ∈ d :: r, NdA e) ∧ (PyData.eqv d clN = true → Cls 2 r) ∧ r.length ≤ 200 ∧ ∀ v H', Same H H' → Dp K H' v (.tuple [.tuple (splitM (d :: r)).1, .tuple (splitM (d :: r)).2]) → Q v H'
def sp_check_goal (K : PySem.W.Frag) : Sp := fun vs H Q E => ∃ (x : V) (d : PyData) (r : List PyData), vs = [x] ∧ Dp K H x (.tuple (d :: r)) ∧ NdA d ∧ (isG d = true → ∀ H', Same H H' → Q .non H') ∧ (isG d = false → ∀ H', Same H H' → E (ndC K) Option.none H')
def sp_goals_of (K : PySem.W.Frag) : Sp := fun vs H Q E => ∃ (x : V) (ds : List PyData) (rows : List (List PyData)) (m : Nat), vs = [x] ∧ Dp K H x (.tuple ds) ∧ (∀ d ∈ ds, NdA d) ∧ Flat rows ds ∧ Cls m ds ∧ ds.length ≤ 200 ∧ rows.length ≤ 200 ∧
  (goodM rows = true → ∀ r ys H', Same H H' → H r = Option.none → H' r = some (.lst ys) → DpAll K H' ys ((goalsM rows).map PyData.tuple) → Q (.ref r) H') ∧ (goodM rows = false → ∀ H', Same H H' → E (ndC K) Option.none H')
def sp_head_and_goals (K : PySem.W.Frag) : Sp := fun vs H Q E => ∃ (x : V) (d : PyData) (r : List PyData) (rows : List (List PyData)) (m : Nat), vs = [x] ∧ Dp K H x (.tuple (d :: r)) ∧ (∀ e ∈ d :: r, NdA e) ∧ (PyData.eqv d clN = true → Cls 2 r) ∧ r.length < 200 ∧ (splitM (d :: r)).1 ≠ [] ∧ Flat rows (splitM (d :: r)).2 ∧ Cls m (splitM (d :: r)).2 ∧ rows.length ≤ 200 ∧
  ((isGr (splitM (d :: r)).1 && goodM rows) = true → ∀ p hv g ys H', Same H H' → H g = Option.none → H' p = some (.tup [hv, .ref g]) → Dp K H' hv (.tuple (splitM (d :: r)).1) → H' g = some (.lst ys) → DpAll K H' ys ((goalsM rows).map PyData.tuple) → p ≠ g → Q (.ref p) H') ∧ ((isGr (splitM (d :: r)).1 && goodM rows) = false → ∀ H', Same H H' → E (ndC K) Option.none H')
def sp__law_leaf (K : PySem.W.Frag) : Sp := fun vs H Q _ => ∃ (s l : Addr) (wd : Int), vs = [.ref s, .int wd] ∧ Stm H s l ∧ 0 < wd ∧ wd ≤ 1000 ∧ ∀ v d H', NdA d → arN d = 0 → But s H H' → Stm H' s l → Frs K H H' v [d] → Q v H'
def sp__law_argument (K : PySem.W.Frag) : Sp := fun vs H Q _ => ∃ (s l : Addr) (wd : Int), vs = [.ref s, .int wd] ∧ Stm H s l ∧ 0 < wd ∧ wd ≤ 1000 ∧ ∀ v ds H', (∀ d ∈ ds, NdA d) → Cls 1 ds → ds.length ≤ 3 → But s H H' → Stm H' s l → Frs K H H' v ds → Q v H'
def sp__law_atom_of (K : PySem.W.Frag) : Sp := fun vs H Q _ => ∃ (s l : Addr) (wd : Int), vs = [.ref s, .int wd] ∧ Stm H s l ∧ 0 < wd ∧ wd ≤ 1000 ∧ ∀ v ds H', OkR ds → isGr ds = true → But s H H' → Stm H' s l → Frs K H H' v ds → Q v H'
/-! ### a law's own unify -/
theorem sub1_cons (a : PyData) (l : List PyData) : ∃ t, sub1 (a :: l) = a :: t := by
  unfold sub1
  rw [tk_cons (by decide), Nat.add_comm, List.take_succ_cons]
  exact ⟨_, rfl⟩
theorem sub1_var {a : PyData} {l : List PyData} (ha : NdA a) (h : isVarN a = true) : sub1 (a :: l) = [a] := by
  rw [var_vN ha h, sub_var]
theorem FndA.same' {K : PySem.W.Frag} {H H' : Hp} {d : Addr} {F : Tab} (h : FndA K H d F) (n : TabN F) (s : Same H H') : FndA K H' d F := by
  obtain ⟨kvs, e, t⟩ := h.at_
  exact ⟨kvs, s _ _ e, tab_same s n t⟩
theorem eg_tab {B : Nat} {k : Nat} {L R : List PyData} {T : Tab} {s : Res} (h : Eg B k L R T s) : Sol L R T → ∀ T', s = .tab T' → TabT T' ∧ (T'.map (·.1)).Nodup := by
  induction h with
  | done L T => intro S T' e; cases e; exact ⟨S.t, S.nd⟩
  | clash _ _ => intro _ _ e; cases e
  | occ _ _ _ => intro _ _ e; cases e
  | big _ _ _ _ => intro _ _ e; cases e
  | step _ h1 h2 _ _ ih => intro S T' e; exact ih (S.next (bind_ok S.l S.r h1 h2)) T' e
theorem tab_small {B : Nat} {k : Nat} {L R : List PyData} {T : Tab} {s : Res} (h : Eg B k L R T s) : Sol L R T → ∀ T', s = .tab T' → T'.length = T.length + k := by
  induction h with
  | done L T => intro S T' e; cases e; rfl
  | clash _ _ => intro _ _ e; cases e
  | occ _ _ _ => intro _ _ e; cases e
  | big _ _ _ _ => intro _ _ e; cases e
  | step _ h1 h2 _ _ ih =>
    intro S T' e
    rw [ih (S.next (bind_ok S.l S.r h1 h2)) T' e]
    unfold up1
    rw [List.length_append, List.length_map, List.length_singleton]
    omega
def halfT (f : List PyData → List PyData) (T : Tab) (i : Nat) : Tab := ((T.take i).map fun q => (q.1, f q.2)) ++ T.drop i
theorem half_step {f : List PyData → List PyData} {T : Tab} {i : Nat} {q : Int × List PyData} (nd : (T.map (·.1)).Nodup) (h : T[i]? = some q) : (halfT f T i).map (fun x => if x.1 = q.1 then (x.1, f q.2) else x) = halfT f T (i + 1) := by
  obtain ⟨hi, e⟩ := List.getElem?_eq_some_iff.mp h
  have eT : T = T.take i ++ q :: T.drop (i + 1) := by rw [← e, ← List.drop_eq_getElem_cons hi, List.take_append_drop]
  have ed : T.drop i = q :: T.drop (i + 1) := by rw [List.drop_eq_getElem_cons hi, e]
  have et : T.take (i + 1) = T.take i ++ [q] := by rw [List.take_add_one, h]; rfl
  have nA : ∀ x ∈ T.take i, x.1 ≠ q.1 := fun x hx w => by
    rw [eT, List.map_append, List.map_cons] at nd
    have := (List.nodup_append.mp nd).2.2 x.1 (List.mem_map.mpr ⟨x, hx, rfl⟩) q.1 (.head _)
    exact this w
  have nB : ∀ x ∈ T.drop (i + 1), x.1 ≠ q.1 := fun x hx w => by
    rw [eT, List.map_append, List.map_cons] at nd
    have := (List.nodup_cons.mp (List.nodup_append.mp nd).2.1).1
    exact this (by rw [← w]; exact List.mem_map.mpr ⟨x, hx, rfl⟩)
  unfold halfT
  rw [ed, et, List.map_append, List.map_map, List.map_cons, if_pos rfl, List.map_append, List.append_assoc]
  congr 1
  · refine List.map_congr_left fun x hx => ?_
    show (if x.1 = q.1 then _ else _) = _
    rw [if_neg (nA x hx)]
  · show _ = [(q.1, f q.2)] ++ _
    rw [show (T.drop (i + 1)).map (fun x => if x.1 = q.1 then (x.1, f q.2) else x) = T.drop (i + 1) from by
      rw [show T.drop (i + 1) = (T.drop (i + 1)).map id from (List.map_id _).symm]
      rw [List.map_map]
      refine List.map_congr_left fun x hx => ?_
      show (if x.1 = q.1 then _ else _) = _
      rw [if_neg (nB x hx)]]
    rfl
theorem half_keys (f : List PyData → List PyData) (T : Tab) (i : Nat) : (halfT f T i).map (·.1) = T.map (·.1) := by
  unfold halfT
  rw [List.map_append, List.map_map]
  show ((T.take i).map (·.1)) ++ _ = _
  rw [← List.map_append, List.take_append_drop]
theorem half_get {f : List PyData → List PyData} {T : Tab} {i : Nat} {q : Int × List PyData} (h : T[i]? = some q) : (halfT f T i)[i]? = some q := by
  unfold halfT
  have hi := (List.getElem?_eq_some_iff.mp h).1
  rw [List.getElem?_append_right (by rw [List.length_map, List.length_take]; omega), List.length_map, List.length_take, Nat.min_eq_left (by omega), Nat.sub_self, List.getElem?_drop]
  exact h
theorem half_all (f : List PyData → List PyData) (T : Tab) : halfT f T T.length = T.map fun q => (q.1, f q.2) := by
  unfold halfT
  rw [List.take_length, List.drop_length, List.append_nil]
theorem half_mem {f : List PyData → List PyData} {T : Tab} {i : Nat} {x : Int × List PyData} (h : x ∈ halfT f T i) : x ∈ T ∨ ∃ q ∈ T, x = (q.1, f q.2) := by
  rcases List.mem_append.mp h with h | h
  · obtain ⟨q, hq, e⟩ := List.mem_map.mp h
    exact .inr ⟨q, List.mem_of_mem_take hq, e.symm⟩
  · exact .inl (List.mem_of_mem_drop h)
theorem len_appM {n : Int} {v ds : List PyData} (h1 : v.length ≤ 1000) (h2 : ds.length ≤ 1000) (hd : ∀ d ∈ ds, NdA d) : (appM [(n, v)] ds).length ≤ 2000000 := by
  have e := len_bind (n := n) (v := v) hd
  have c := cnt_le n ds
  have : (cntN n ds : Int) * ((v.length : Int) - 1) ≤ 1000 * 1000 := by
    rcases Int.le_total 0 ((v.length : Int) - 1) with w | w
    · exact Int.mul_le_mul (by omega) (by omega) w (by decide)
    · exact Int.le_trans (Int.mul_nonpos_of_nonneg_of_nonpos (by omega) w) (by decide)
  omega
def dueQ (K : PySem.W.Frag) (H : Hp) (Q : VK) : Res → Prop
  | .non => ∀ H', Same H H' → Q .non H'
  | .big => ∀ H', Same H H' → Q (.str "large") H'
  | .tab T => ∀ d H', Same H H' → H d = Option.none → FndA K H' d T → Q (.ref d) H'
theorem drw {K : PySem.W.Frag} {H : Hp} {Q : VK} {E : XK} {s l : Addr} {n : Int} (S : Stm H s l) (h0 : 0 < n) (h1 : n ≤ 10 ^ 41) (q : ∀ r H', 0 ≤ r → r < n → But s H H' → Stm H' s l → Q (.int r) H') : sp__law_draw K ([V.ref s, .int n] ++ []) H Q E := ⟨s, l, n, rfl, S, h0, nine (by omega) h1, q⟩
theorem eg_small {B : Nat} {k : Nat} {L R : List PyData} {T : Tab} {s : Res} (h : Eg B k L R T s) : Sol L R T → L.length ≤ B → R.length ≤ B → ∀ T', s = .tab T' → ∀ q ∈ T', q.2.length ≤ B := by
  induction h with
  | done L T => intro S l r T' e; cases e; exact fun q hq => (S.inf q hq).elim (fun w => Nat.le_trans w.length_le l) (fun w => Nat.le_trans w.length_le r)
  | clash _ _ => intro _ _ _ _ e; cases e
  | occ _ _ _ => intro _ _ _ _ e; cases e
  | big _ _ _ _ => intro _ _ _ _ e; cases e
  | step _ h1 h2 h3 _ ih => intro S _ _ T' e; exact ih (S.next (bind_ok S.l S.r h1 h2)) (by omega) (by omega) T' e
theorem app_le {B : Nat} {T : Tab} (hB : 1 ≤ B) (h : ∀ q ∈ T, q.2.length ≤ B) : ∀ ds : List PyData, (appM T ds).length ≤ ds.length * B
  | [] => by rw [appM_nil]; exact Nat.zero_le _
  | d :: r => by
    have ih := app_le hB h r
    have one : (appN T d).length ≤ B := by
      by_cases v : isVarN d = true
      · unfold appN
        rw [if_pos v]
        cases e : valT T (numN d) with
        | none => exact hB
        | some w =>
          obtain ⟨q, hq, rfl⟩ := valT_mem e
          exact h q hq
      · rw [appN_non v]
        exact hB
    rw [appM_cons, List.length_append, List.length_cons, Nat.add_mul]
    omega
/-! ### lists of terms, renumbered together -/
def gN (f : Int) (ds : List PyData) (n : Int) : Int := f + ((nums ds).idxOf n : Nat)
def renT (f : Int) (ts : List (List PyData)) : List (List PyData) := ts.map fun t => t.map (mapD (gN f ts.flatten))
theorem renT_flat (f : Int) (ts : List (List PyData)) : renM f ts.flatten = (renT f ts).flatten := by
  unfold renM renT gN
  rw [← List.map_flatten]
def NdT (ts : List (List PyData)) : Prop := ∀ t ∈ ts, ∀ d ∈ t, NdA d
theorem NdT.flat {ts : List (List PyData)} (h : NdT ts) : ∀ d ∈ ts.flatten, NdA d := fun d hd => by
  obtain ⟨t, ht, hd⟩ := List.mem_flatten.mp hd
  exact h t ht d hd
theorem NdT.noL {ts : List (List PyData)} (h : NdT ts) : noLA (ts.map PyData.tuple) = true := noLA_of fun e he => by
  obtain ⟨t, ht, rfl⟩ := List.mem_map.mp he
  exact tup_noL (h t ht)
theorem renT_len (f : Int) (ts : List (List PyData)) : (renT f ts).length = ts.length := List.length_map _
theorem renT_at {f : Int} {ts : List (List PyData)} {i : Nat} {t : List PyData} (h : ts[i]? = some t) : (renT f ts)[i]? = some (t.map (mapD (gN f ts.flatten))) := by
  unfold renT
  rw [List.getElem?_map, h]
  rfl
theorem gN_pos {f : Int} (h : 0 ≤ f) (ds : List PyData) (n : Int) : 0 ≤ gN f ds n := by unfold gN; omega
theorem renT_nd {f : Int} {ts : List (List PyData)} (h : NdT ts) (hf : 0 ≤ f) : NdT (renT f ts) := fun t ht d hd => by
  obtain ⟨u, hu, rfl⟩ := List.mem_map.mp ht
  obtain ⟨e, he, rfl⟩ := List.mem_map.mp hd
  exact mapD_nd (h u hu e he) (gN_pos hf _)
theorem mapD_noL {g : Int → Int} {d : PyData} (h : NdA d) : noL (mapD g d) = true := by
  unfold mapD
  split
  · simp [noL, noLA]
  · exact nd_noL h
theorem renT_noL1 {g : Int → Int} {t : List PyData} (h : ∀ d ∈ t, NdA d) : noL (.tuple (t.map (mapD g))) = true := by
  have : noLA (t.map (mapD g)) = true := noLA_of fun e he => by
    obtain ⟨d, hd, rfl⟩ := List.mem_map.mp he
    exact mapD_noL (h d hd)
  simpa [noL] using this
theorem renT_noL {g : Int → Int} {ts : List (List PyData)} (h : NdT ts) : noLA ((ts.map fun t => t.map (mapD g)).map PyData.tuple) = true := noLA_of fun e he => by
  obtain ⟨u, hu, rfl⟩ := List.mem_map.mp he
  obtain ⟨t, ht, rfl⟩ := List.mem_map.mp hu
  exact renT_noL1 (h t ht)
def szT (ts : List (List PyData)) : Nat := ts.flatten.length
theorem take_flat (ts : List (List PyData)) (i : Nat) : (ts.take i).flatten = ts.flatten.take (szT (ts.take i)) := by
  have e : ts.flatten = (ts.take i).flatten ++ (ts.drop i).flatten := by rw [← List.flatten_append, List.take_append_drop]
  unfold szT
  rw [e, List.take_left]
theorem cut_flat {ts : List (List PyData)} {i : Nat} {t : List PyData} (h : ts[i]? = some t) : (ts.flatten.drop (szT (ts.take i))).take t.length = t := by
  obtain ⟨hi, rfl⟩ := List.getElem?_eq_some_iff.mp h
  have e : ts.flatten = (ts.take i).flatten ++ (ts[i] ++ (ts.drop (i + 1)).flatten) := by
    rw [← List.flatten_cons, ← List.drop_eq_getElem_cons hi, ← List.flatten_append, List.take_append_drop]
  unfold szT
  rw [e, List.drop_left, List.take_left]
theorem szT_succ {ts : List (List PyData)} {i : Nat} {t : List PyData} (h : ts[i]? = some t) : szT (ts.take (i + 1)) = szT (ts.take i) + t.length := by
  unfold szT
  rw [List.take_add_one, h, List.flatten_append, List.length_append]
  simp
theorem szT_le (ts : List (List PyData)) (i : Nat) : szT (ts.take i) ≤ szT ts := by
  unfold szT
  rw [take_flat, List.length_take]
  exact Nat.min_le_right _ _
theorem szT_mul {m : Nat} {ts : List (List PyData)} (h : ∀ t ∈ ts, t.length ≤ 200) (l : ts.length ≤ m) (hm : m ≤ 500 := by decide) : szT ts ≤ 100000 := by
  · have : ∀ ts : List (List PyData), (∀ t ∈ ts, t.length ≤ 200) → ts.flatten.length ≤ 200 * ts.length := by
      intro ts
      induction ts with
      | nil => intro _; exact Nat.le_refl _
      | cons t r ih =>
        intro h
        have h1 := h t (.head _)
        have h2 := ih fun x hx => h x (.tail _ hx)
        rw [List.flatten_cons, List.length_append, List.length_cons]
        omega
    have := this ts h
    unfold szT
    omega
/-- the next number that is free -/
def nxN (m : Int) (d : PyData) : Int := if isVarN d = true then max m (numN d + 1) else m
def nxt (ds : List PyData) : Int := ds.foldl nxN 0
theorem nx_take {ds : List PyData} {i : Nat} {d : PyData} (h : ds[i]? = some d) : nxt (ds.take (i + 1)) = nxN (nxt (ds.take i)) d := by
  unfold nxt
  rw [List.take_add_one, h, List.foldl_append]
  rfl
theorem nx_fold : ∀ (ds : List PyData) (m : Int), (∀ d ∈ ds, NdA d) → 0 ≤ m → m ≤ ds.foldl nxN m ∧ (∀ d ∈ ds, isVarN d = true → numN d + 1 ≤ ds.foldl nxN m) ∧ (ds.foldl nxN m = m ∨ ∃ d ∈ ds, isVarN d = true ∧ ds.foldl nxN m = numN d + 1)
  | [], m, _, _ => ⟨Int.le_refl _, (fun d hd => nomatch hd), .inl rfl⟩
  | d :: r, m, nd, h => by
    have h2 : m ≤ nxN m d ∧ (isVarN d = true → numN d + 1 ≤ nxN m d) ∧ (nxN m d = m ∨ (isVarN d = true ∧ nxN m d = numN d + 1)) := by
      unfold nxN
      by_cases v : isVarN d = true
      · rw [if_pos v]
        refine ⟨by omega, fun _ => by omega, ?_⟩
        rcases Int.le_total m (numN d + 1) with z | z
        · exact .inr ⟨v, by omega⟩
        · exact .inl (by omega)
      · rw [if_neg v]
        exact ⟨Int.le_refl _, fun z => absurd z v, .inl rfl⟩
    obtain ⟨a1, a2, a3⟩ := h2
    obtain ⟨b1, b2, b3⟩ := nx_fold r (nxN m d) (fun x hx => nd x (.tail _ hx)) (by omega)
    rw [List.foldl_cons]
    refine ⟨by omega, fun x hx v => ?_, ?_⟩
    · rcases List.mem_cons.mp hx with rfl | hx
      · have := a2 v
        omega
      · exact b2 x hx v
    · rcases b3 with e | ⟨x, hx, v, e⟩
      · rcases a3 with e2 | ⟨v, e2⟩
        · exact .inl (by rw [e, e2])
        · exact .inr ⟨d, .head _, v, by rw [e, e2]⟩
      · exact .inr ⟨x, .tail _ hx, v, e⟩
theorem nxt_pos {ds : List PyData} (h : ∀ d ∈ ds, NdA d) : 0 ≤ nxt ds := (nx_fold ds 0 h (Int.le_refl _)).1
/-- the numbers that max is asked of -/
def nxL (ds : List PyData) : List Int := ds.filterMap fun d => if isVarN d = true then some (numN d + 1) else none
theorem nxL_max {ds : List PyData} (h : ∀ d ∈ ds, NdA d) {m : Int} (h1 : m ∈ nxL ds) (h2 : ∀ y ∈ nxL ds, y ≤ m) : m = nxt ds := by
  obtain ⟨_, b2, b3⟩ := nx_fold ds 0 h (Int.le_refl _)
  obtain ⟨d, hd, e⟩ := List.mem_filterMap.mp h1
  split at e
  case isFalse => cases e
  rename_i v
  cases e
  have l1 := b2 d hd v
  have n0 : 0 ≤ numN d := by
    obtain ⟨n, n0, rfl⟩ := var_num (h d hd) v
    exact n0
  rcases b3 with e | ⟨x, hx, vx, e⟩
  · rw [e] at l1
    omega
  · have := h2 (numN x + 1) (List.mem_filterMap.mpr ⟨x, hx, by rw [if_pos vx]⟩)
    unfold nxt
    omega
theorem nxL_none {ds : List PyData} (h : ∀ d ∈ ds, NdA d) (e : nxL ds = []) : nxt ds = 0 := by
  obtain ⟨_, _, b3⟩ := nx_fold ds 0 h (Int.le_refl _)
  rcases b3 with e2 | ⟨x, hx, vx, _⟩
  · exact e2
  · have : numN x + 1 ∈ nxL ds := List.mem_filterMap.mpr ⟨x, hx, by rw [if_pos vx]⟩
    rw [e] at this
    cases this
theorem nxL_app (a b : List PyData) : nxL (a ++ b) = nxL a ++ nxL b := List.filterMap_append
theorem nxL_len (ds : List PyData) : (nxL ds).length ≤ ds.length := List.length_filterMap_le _ _
theorem flat_take {ts : List (List PyData)} {i : Nat} {t : List PyData} (h : ts[i]? = some t) : (ts.take (i + 1)).flatten = (ts.take i).flatten ++ t := by
  rw [List.take_add_one, h, List.flatten_append]
  simp
theorem g_lc2 {wi wi1 : TI} {g g1 : TG} {tt tt1 : TT} {te : TE} {vs vs1 : List Nat} {σ : L2.St} {H : Hp} {Q : VK} (h : wi σ H fun J H1 => ∀ D, H1 D = Option.none → ∃ W : Nat → Nat → Hp → Prop, (∃ m, W 0 m (upd H1 D (.lst []))) ∧ ∀ i m H, W i m H →
  (J.stop i H ∧ Q (.ref D) H) ∨ (J.go i H ∧ ∃ Nx : Hp → Prop, (∀ H', Nx H' → ∃ m', m' < m ∧ W (i + 1) m' H') ∧ ∀ x H', J.yld i H x H' → g x (wipe σ vs) H' fun σ2 H2 => wipe σ2 vs = wipe σ vs ∧ tt σ2 H2 fun b H3 =>
    if b = true then wi1 σ2 H3 fun J1 H4 => ∃ W1 : Nat → Nat → Hp → Prop, (∃ m, W1 0 m H4) ∧ ∀ j k H, W1 j k H →
      (J1.stop j H ∧ Nx H) ∨ (J1.go j H ∧ ∃ Nx1 : Hp → Prop, (∀ H', Nx1 H' → ∃ k', k' < k ∧ W1 (j + 1) k' H') ∧ ∀ x H', J1.yld j H x H' → g1 x (wipe σ2 vs1) H' fun σ3 H5 => wipe σ3 vs1 = wipe σ2 vs1 ∧ tt1 σ3 H5 fun b H6 =>
        if b = true then te σ3 H6 fun y H7 => ∃ acc, H7 D = some (.lst acc) ∧ acc.length < sizeLine ∧ Nx1 (upd H7 D (.lst (acc ++ [y]))) else Nx1 H6)
    else Nx H3)) : tLc2 wi g tt wi1 g1 tt1 te vs vs1 σ H Q := h
/-! ### the promises of resolution, first half -/
def sp_renumber (K : PySem.W.Frag) : Sp := fun vs H Q _ => ∃ (x : V) (ds : List PyData) (f : Int), vs = [x, .int f] ∧ Dp K H x (.tuple ds) ∧ (∀ d ∈ ds, NdA d) ∧ ds.length ≤ 100000 ∧ ∀ v H', Same H H' → Dp K H' v (.tuple (renM f ds)) → Q v H'
def TsA (K : PySem.W.Frag) (H : Hp) (a : Addr) (ts : List (List PyData)) : Prop := ∃ xs, SqL K H a xs ∧ DpAll K H xs (ts.map PyData.tuple)
theorem TsA.same {K : PySem.W.Frag} {H H' : Hp} {a : Addr} {ts : List (List PyData)} (h : TsA K H a ts) (s : Same H H') : TsA K H' a ts := by
  obtain ⟨xs, h1, h2⟩ := h
  exact ⟨xs, same_sqL s h1, dp_sameAll s _ _ h2⟩
def sp_renumber_together (K : PySem.W.Frag) : Sp := fun vs H Q _ => ∃ (a : Addr) (ts : List (List PyData)) (f : Int), vs = [.ref a, .int f] ∧ TsA K H a ts ∧ NdT ts ∧ szT ts ≤ 100000 ∧ ts.length ≤ 1000 ∧ ∀ r H' ys, Same H H' → H r = Option.none → H' r = some (.lst ys) → DpAll K H' ys ((renT f ts).map PyData.tuple) → Q (.ref r) H'
def sp_next_number (K : PySem.W.Frag) : Sp := fun vs H Q _ => ∃ (a : Addr) (ts : List (List PyData)), vs = [.ref a] ∧ TsA K H a ts ∧ NdT ts ∧ szT ts ≤ 100000 ∧ ts.length ≤ 1000 ∧ ∀ H', Same H H' → Q (.int (nxt ts.flatten)) H'
def sp_renamed (K : PySem.W.Frag) : Sp := fun vs H Q _ => ∃ (c g : Addr) (hv : V) (hd : List PyData) (gs : List (List PyData)) (f : Int), vs = [.ref c, .int f] ∧ SqT K H c [hv, .ref g] ∧ Dp K H hv (.tuple hd) ∧ TsA K H g gs ∧ NdT (hd :: gs) ∧ szT (hd :: gs) ≤ 100000 ∧ gs.length ≤ 900 ∧
  ∀ p r v H', Same H H' → H r = Option.none → H' p = some (.tup [v, .ref r]) → Dp K H' v (.tuple (hd.map (mapD (gN f (hd :: gs).flatten)))) → (∃ ys, H' r = some (.lst ys) ∧ DpAll K H' ys ((renT f (hd :: gs)).tail.map PyData.tuple)) → Q (.ref p) H'
def sp_check_size (K : PySem.W.Frag) : Sp := fun vs H Q E => ∃ (n m : Int), vs = [.int n, .int m] ∧ m = 200 ∧ (n ≤ m → ∀ H', Same H H' → Q .non H') ∧ (m < n → ∀ H', Same H H' → E (.ref (clsA K "TooLarge")) Option.none H')

/-- the terms of the next row of goals -/
def nextT (T : Tab) (q : List PyData) (gs : List (List PyData)) (p : Nat) (os : List (List PyData)) : List (List PyData) := (q :: (gs.take p ++ os ++ gs.drop (p + 1))).map (appM T)
def wide (ts : List (List PyData)) : Prop := ∃ t ∈ ts, 200 < t.length
def rowM (q : List PyData) (gs : List (List PyData)) (hd : List PyData) (os : List (List PyData)) : List (List PyData) := renT (nxt (q :: gs).flatten) (hd :: os)
def resQ (K : PySem.W.Frag) (H : Hp) (Q : VK) (E : XK) (q : List PyData) (gs : List (List PyData)) (p : Nat) (os : List (List PyData)) : Res → Prop
  | .non => ∀ H', Same H H' → Q .non H'
  | .big => ∀ H', Same H H' → E (.ref (clsA K "TooLarge")) Option.none H'
  | .tab T => (wide (nextT T q gs p os) → ∀ H', Same H H' → E (.ref (clsA K "TooLarge")) Option.none H') ∧
    (¬ wide (nextT T q gs p os) → ∀ c v r ys H', Same H H' → H r = Option.none → H' c = some (.tup [v, .ref r]) → Dp K H' v (.tuple ((renT 0 (nextT T q gs p os)).headD [])) → H' r = some (.lst ys) → DpAll K H' ys ((renT 0 (nextT T q gs p os)).tail.map PyData.tuple) → Q (.ref c) H')
structure ResI (q : List PyData) (gs : List (List PyData)) (p : Nat) (hd : List PyData) (os : List (List PyData)) (g h : List PyData) (k : Nat) (s : Res) : Prop where
  at_ : gs[p]? = some g
  nd : NdT (q :: gs)
  ndr : NdT (hd :: os)
  sz : ∀ t ∈ (q :: gs) ++ (hd :: os), t.length ≤ 200
  lg : gs.length ≤ 440
  lo : os.length ≤ 30
  tg : Tms 1 g
  th : Tms 1 h
  hh : (rowM q gs hd os).head? = some h
  eg : Eg (max 200 (max g.length h.length)) k g h [] s
  k1 : k ≤ 2000
  gv : ∀ d, g.head? = some d → isVarN d = false
  hv : ∀ d, hd.head? = some d → isVarN d = false
theorem rowM_head {q : List PyData} {gs : List (List PyData)} {hd : List PyData} {os : List (List PyData)} : (rowM q gs hd os).head? = some (hd.map (mapD (gN (nxt (q :: gs).flatten) (hd :: os).flatten))) := rfl
theorem eg_clash {B k : Nat} {a b : PyData} {l r : List PyData} {T : Tab} {s : Res} (h : Eg B k (a :: l) (b :: r) T s) (ne : a ≠ b) (va : isVarN a = false) (vb : isVarN b = false) : s = .non := by
  rcases eg_dif (p := []) h ne rfl rfl with ⟨_, e⟩ | ⟨n, v, e, _⟩
  · exact e
  · rw [bind_C (by unfold toA; rw [va]; rfl) vb] at e
    cases e
theorem ResI.ndOwn {q : List PyData} {gs : List (List PyData)} {p : Nat} {hd : List PyData} {os : List (List PyData)} {g h : List PyData} {k : Nat} {s : Res} (I : ResI q gs p hd os g h k s) : NdT (rowM q gs hd os) := renT_nd I.ndr (nxt_pos I.nd.flat)
theorem ResI.ndAll {q : List PyData} {gs : List (List PyData)} {p : Nat} {hd : List PyData} {os : List (List PyData)} {g h : List PyData} {k : Nat} {s : Res} (I : ResI q gs p hd os g h k s) : NdT (q :: (gs.take p ++ (rowM q gs hd os).tail ++ gs.drop (p + 1))) := fun t ht => by
  rcases List.mem_cons.mp ht with rfl | ht
  · exact I.nd _ (.head _)
  rcases List.mem_append.mp ht with ht | ht
  · rcases List.mem_append.mp ht with ht | ht
    · exact I.nd _ (.tail _ (List.mem_of_mem_take ht))
    · exact I.ndOwn _ (List.mem_of_mem_tail ht)
  · exact I.nd _ (.tail _ (List.mem_of_mem_drop ht))
theorem ResI.lenAll {q : List PyData} {gs : List (List PyData)} {p : Nat} {hd : List PyData} {os : List (List PyData)} {g h : List PyData} {k : Nat} {s : Res} (I : ResI q gs p hd os g h k s) : (q :: (gs.take p ++ (rowM q gs hd os).tail ++ gs.drop (p + 1))).length ≤ 480 ∧ ∀ t ∈ q :: (gs.take p ++ (rowM q gs hd os).tail ++ gs.drop (p + 1)), t.length ≤ 200 := by
  refine ⟨?_, fun t ht => ?_⟩
  · have h1 := I.lg
    have h2 := I.lo
    have h3 : (rowM q gs hd os).tail.length = os.length := by unfold rowM; rw [List.length_tail, renT_len]; rfl
    rw [List.length_cons, List.length_append, List.length_append, List.length_take, List.length_drop, h3]
    omega
  · rcases List.mem_cons.mp ht with rfl | ht
    · exact I.sz _ (.head _)
    rcases List.mem_append.mp ht with ht | ht
    · rcases List.mem_append.mp ht with ht | ht
      · exact I.sz _ (List.mem_append_left _ (.tail _ (List.mem_of_mem_take ht)))
      · have ht := List.mem_of_mem_tail ht
        obtain ⟨u, hu, rfl⟩ := List.mem_map.mp ht
        rw [List.length_map]
        exact I.sz _ (List.mem_append_right _ hu)
    · exact I.sz _ (List.mem_append_left _ (.tail _ (List.mem_of_mem_drop ht)))
def sp_resolved (K : PySem.W.Frag) : Sp := fun vs H Q E => ∃ (x : V) (q : List PyData) (a : Addr) (gs : List (List PyData)) (p : Nat) (c b : Addr) (hv : V) (hd : List PyData) (os : List (List PyData)) (g h : List PyData) (k : Nat) (s : Res), vs = [x, .ref a, .int p, .ref c] ∧ Dp K H x (.tuple q) ∧ TsA K H a gs ∧ SqT K H c [hv, .ref b] ∧ Dp K H hv (.tuple hd) ∧ TsA K H b os ∧ ResI q gs p hd os g h k s ∧ resQ K H Q E q gs p (rowM q gs hd os).tail s
def GoalD (ds : List PyData) : Prop := ∃ d r, ds = d :: r ∧ NdA d ∧ isG d = true
def sp_resolve (K : PySem.W.Frag) : Sp := fun vs H Q E => ∃ (x : V) (q : List PyData) (a : Addr) (gs : List (List PyData)) (p : Nat) (y : V) (d : PyData) (r : List PyData) (rows : List (List PyData)) (m : Nat) (g h : List PyData) (k : Nat) (s : Res), vs = [x, .ref a, .int p, y] ∧ Dp K H x (.tuple q) ∧ GoalD q ∧ TsA K H a gs ∧ (∀ g ∈ gs, GoalD g) ∧
  Dp K H y (.tuple (d :: r)) ∧ (∀ e ∈ d :: r, NdA e) ∧ (PyData.eqv d clN = true → Cls 2 r) ∧ r.length < 200 ∧ (splitM (d :: r)).1 ≠ [] ∧ Flat rows (splitM (d :: r)).2 ∧ Cls m (splitM (d :: r)).2 ∧ rows.length ≤ 200 ∧ isGr (splitM (d :: r)).1 = true ∧ goodM rows = true ∧
  ResI q gs p (splitM (d :: r)).1 (goalsM rows) g h k s ∧ resQ K H Q E q gs p (rowM q gs (splitM (d :: r)).1 (goalsM rows)).tail s
/-! ### the law's own readings: parts, tables, numbers -/
theorem tk_row : ∀ {row rest : List PyData} {m : Nat}, Cls m row → tk m (row ++ rest) = row.length
  | [], rest, m, h => by
    have h : m = 0 := h
    subst h
    rw [List.nil_append, tk_zero]
    rfl
  | d :: row, rest, m, h => by
    rw [List.cons_append, tk_cons h.1, tk_row h.2, List.length_cons]
    omega
theorem rows_cls : ∀ {rows : List (List PyData)} {rest : List (List PyData)} {row : List PyData}, (∀ r ∈ row :: rest, Cls 1 r ∧ ∀ d ∈ r, NdA d) → Cls (rest.length + 1) ((row :: rest).flatten)
  | rows, [], row, h => by
    rw [List.flatten_cons, List.flatten_nil, List.append_nil]
    exact (h row List.mem_cons_self).1
  | rows, r :: rest, row, h => by
    rw [List.flatten_cons]
    have ih := rows_cls (rows := rows) (rest := rest) (row := r) fun x hx => h x (List.mem_cons_of_mem _ hx)
    have := cls_app row _ 1 (rest.length + 1) (h row List.mem_cons_self).1 ih
    rw [show (r :: rest).length + 1 = 1 + (rest.length + 1) by rw [List.length_cons]; omega]
    exact this
theorem sym_num {d : PyData} (h : NdA d) (v : isSymN d = true) : ∃ y n, d = .tuple [.str "f", .str y, .int n] ∧ 0 ≤ n := by
  obtain ⟨wd, nn⟩ := h
  cases nn with
  | i n h1 h2 => cases v
  | v n h1 h2 => exact absurd (show false = true from v) (by decide)
  | f y n h1 h2 h3 => exact ⟨y, n, rfl, by omega⟩
theorem sym_zero {d : PyData} (h : NdA d) (v : isSymN d = false) : arN d = 0 := by
  obtain ⟨wd, nn⟩ := h
  cases nn with
  | i n h1 h2 => rfl
  | v n h1 h2 => rfl
  | f y n h1 h2 h3 => exact absurd v (by show ¬ (true = false); decide)
def tbl (f : Int) (acc : List Int) : Tab := acc.map fun n => (n, [vN (f + (acc.idxOf n : Nat))])
theorem tbl_keys (f : Int) (acc : List Int) : (tbl f acc).map (·.1) = acc := by
  unfold tbl
  rw [List.map_map]
  exact List.map_id' acc
theorem tbl_snoc (f : Int) {acc : List Int} {n : Int} (h : n ∉ acc) : tbl f (acc ++ [n]) = tbl f acc ++ [(n, [vN (f + (acc.length : Nat))])] := by
  unfold tbl
  rw [List.map_append]
  congr 1
  · exact List.map_congr_left fun m hm => by rw [List.idxOf_append, if_pos hm]
  · rw [List.map_singleton, List.idxOf_append, if_neg h]
    simp
theorem tbl_len (f : Int) (acc : List Int) : (tbl f acc).length = acc.length := List.length_map _
theorem tbl_in {f : Int} {acc : List Int} {n : Int} (nd : acc.Nodup) (h : n ∈ acc) : valT (tbl f acc) n = some [vN (f + (acc.idxOf n : Nat))] :=
  valT_at (q := (n, [vN (f + (acc.idxOf n : Nat))])) (by rw [tbl_keys]; exact nd) (List.mem_map.mpr ⟨n, h, rfl⟩)
theorem tbl_out {f : Int} {acc : List Int} {n : Int} (h : n ∉ acc) : valT (tbl f acc) n = none := valT_notin (by rw [tbl_keys]; exact h)
theorem tbl_app {f : Int} {acc : List Int} (na : acc.Nodup) : ∀ {ds : List PyData}, (∀ d ∈ ds, NdA d) → (∀ d ∈ ds, isVarN d = true → numN d ∈ acc) → appM (tbl f acc) ds = ds.map (mapD fun n => f + (acc.idxOf n : Nat))
  | [], _, _ => rfl
  | d :: r, h, h2 => by
    rw [appM_cons, List.map_cons, tbl_app na (fun x hx => h x (.tail _ hx)) fun x hx => h2 x (.tail _ hx)]
    by_cases v : isVarN d = true
    · obtain ⟨n, rfl⟩ := var_form (h d (.head _)) v
      rw [appN_in (n := n) (tbl_in na (h2 _ (.head _) v))]
      rfl
    · rw [appN_non v]
      show [d] ++ _ = mapD _ d :: _
      unfold mapD
      rw [if_neg v]
      rfl
theorem tbl_tm {f : Int} (hf : 0 ≤ f) (acc : List Int) : TabT (tbl f acc) := fun q hq => by
  obtain ⟨n, _, rfl⟩ := List.mem_map.mp hq
  refine ⟨⟨by decide, rfl⟩, fun d hd => ?_⟩
  rw [List.mem_singleton.mp hd]
  exact ⟨f + (acc.idxOf n : Nat) + 1, .v _ (by omega) (by omega)⟩
theorem nums_app (a b : List PyData) : nums (a ++ b) = b.foldl numS (nums a) := by unfold nums; rw [List.foldl_append]
theorem nums_one (a : List PyData) (d : PyData) : nums (a ++ [d]) = numS (nums a) d := by rw [nums_app]; rfl
theorem nums_allI {ds : List PyData} {d : PyData} (h : d ∈ ds) (v : isVarN d = true) : numN d ∈ nums ds := by
  obtain ⟨i, hi⟩ := List.getElem?_of_mem h
  exact mem_pre (nums_mem hi v)
theorem tbl_row {f : Int} {ts : List (List PyData)} {i : Nat} {t : List PyData} (nd : NdT ts) (h : ts[i]? = some t) : appM (tbl f (nums (ts.take (i + 1)).flatten)) t = t.map (mapD (gN f ts.flatten)) := by
  have e := take_flat ts (i + 1)
  rw [tbl_app (nums_nodup _) (nd t (List.mem_of_getElem? h))]
  · refine List.map_congr_left fun d hd => ?_
    unfold mapD
    by_cases v : isVarN d = true
    · rw [if_pos v, if_pos v]
      have hm : numN d ∈ nums (ts.take (i + 1)).flatten := nums_allI (by rw [flat_take h]; exact List.mem_append_right _ hd) v
      unfold gN
      rw [e] at hm ⊢
      rw [idx_pre hm]
    · rw [if_neg v, if_neg v]
  · intro d hd v
    exact nums_allI (by rw [flat_take h]; exact List.mem_append_right _ hd) v
theorem nxt_snoc (a : List PyData) (d : PyData) : nxt (a ++ [d]) = nxN (nxt a) d := by unfold nxt; rw [List.foldl_append]; rfl
/-! ### the promises of the law's own readings -/
def sp__law_is_variable (K : PySem.W.Frag) : Sp := sp_is_variable K
def sp__law_end (K : PySem.W.Frag) : Sp := sp_end_of K
def sp__law_parts (K : PySem.W.Frag) : Sp := fun vs H Q _ => ∃ (x : V) (d0 : PyData) (rows : List (List PyData)), vs = [x] ∧ Dp K H x (.tuple (d0 :: rows.flatten)) ∧ NdA d0 ∧ (∀ row ∈ rows, Cls 1 row ∧ ∀ d ∈ row, NdA d) ∧ rows.length ≤ 9 ∧ rows.flatten.length ≤ 900 ∧ ∀ r ys H', Same H H' → H r = Option.none → H' r = some (.lst ys) → DpAll K H' ys (rows.map PyData.tuple) → Q (.ref r) H'
def sp__law_put (K : PySem.W.Frag) : Sp := fun vs H Q _ => ∃ (p : Addr) (F : Tab) (x : V) (ds : List PyData), vs = [.ref p, x] ∧ FndA K H p F ∧ TabN F ∧ Dp K H x (.tuple ds) ∧ (∀ d ∈ ds, NdA d) ∧ (appM F ds).length ≤ 2000000 ∧ ∀ v H', Same H H' → Dp K H' v (.tuple (appM F ds)) → Q v H'
def sp__law_numbered (K : PySem.W.Frag) : Sp := fun vs H Q _ => ∃ (a : Addr) (ts : List (List PyData)) (f : Int), vs = [.ref a, .int f] ∧ TsA K H a ts ∧ NdT ts ∧ 0 ≤ f ∧ szT ts ≤ 100000 ∧ ts.length ≤ 1000 ∧ ∀ r H' ys, Same H H' → H r = Option.none → H' r = some (.lst ys) → DpAll K H' ys ((renT f ts).map PyData.tuple) → Q (.ref r) H'
def sp__law_fresh (K : PySem.W.Frag) : Sp := fun vs H Q _ => ∃ (a : Addr) (ts : List (List PyData)), vs = [.ref a] ∧ TsA K H a ts ∧ NdT ts ∧ szT ts ≤ 100000 ∧ ts.length ≤ 1000 ∧ ∀ H', Same H H' → Q (.int (nxt ts.flatten)) H'
theorem bindM_eq (a b : PyData) (l r : List PyData) : bindM (a :: l) (b :: r) = if isVarN a = true then (if isVarN b = true then some (if numN b < numN a then (numN a, varN (numN b)) else (numN b, varN (numN a))) else some (numN a, sub1 (b :: r))) else if isVarN b = true then some (numN b, sub1 (a :: l)) else none := rfl
def bndQ (K : PySem.W.Frag) (H : Hp) (Q : VK) : Option (Int × List PyData) → Prop
  | none => ∀ H', Same H H' → Q .non H'
  | some (n, v) => (vN n ∈ v → ∀ H', Same H H' → Q .non H') ∧ (vN n ∉ v → ∀ c w H', Same H H' → H' c = some (.tup [.int n, w]) → Dp K H' w (.tuple v) → Q (.ref c) H')
def sp__law_bound (K : PySem.W.Frag) : Sp := fun vs H Q _ => ∃ (x y : V) (p l r : List PyData) (a b : PyData) (k j : Nat), vs = [x, y, .int (p.length : Nat)] ∧ Dp K H x (.tuple (p ++ a :: l)) ∧ Dp K H y (.tuple (p ++ b :: r)) ∧ (∀ d ∈ p ++ a :: l, NdA d) ∧ (∀ d ∈ p ++ b :: r, NdA d) ∧ Tms (k + 1) (a :: l) ∧ Tms (j + 1) (b :: r) ∧ a ≠ b ∧ bndQ K H Q (bindM (a :: l) (b :: r))
def sp__law_unify (K : PySem.W.Frag) : Sp := fun vs H Q E => ∃ (x y : V) (L R : List PyData) (k : Nat) (s : Res), vs = [x, y] ∧ Dp K H x (.tuple L) ∧ Dp K H y (.tuple R) ∧ Tms 1 L ∧ Tms 1 R ∧ L.length ≤ 1000 ∧ R.length ≤ 1000 ∧
  Eg (max 200 (max L.length R.length)) k L R [] s ∧ k ≤ 2000 ∧ dueQ K H Q s
/-! ### lists of mutable addresses -/
noncomputable def hidL (L : List Addr) (H : Hp) : Hp := fun x => @ite _ (x ∈ L) (Classical.propDecidable _) Option.none (H x)
theorem hidL_out {L : List Addr} {H : Hp} {x : Addr} (h : x ∉ L) : hidL L H x = H x := if_neg h
theorem hidL_in {L : List Addr} {H : Hp} {x : Addr} (h : x ∈ L) : hidL L H x = Option.none := if_pos h
theorem hidL_some {L : List Addr} {H : Hp} {x : Addr} {o : HO} (h : hidL L H x = some o) : x ∉ L ∧ H x = some o := by
  by_cases c : x ∈ L
  · rw [hidL_in c] at h
    cases h
  · rw [hidL_out c] at h
    exact ⟨c, h⟩
theorem hidL_same {L : List Addr} {H : Hp} : Same (hidL L H) H := fun _ _ h => (hidL_some h).2
/-- only these objects are changed -/
def ButM (L : List Addr) (H H' : Hp) : Prop := ∀ x o, x ∉ L → H x = some o → H' x = some o
/-- the new list of mutable addresses: what is added is new -/
def NewL (H : Hp) (L L' : List Addr) : Prop := ∀ x, x ∈ L' → x ∈ L ∨ H x = Option.none
theorem NewL.refl {H : Hp} {L : List Addr} : NewL H L L := fun _ h => .inl h
theorem ButM.refl {H : Hp} {L : List Addr} : ButM L H H := fun _ _ _ h => h
theorem ButM.of {H H' : Hp} {L : List Addr} (s : Same H H') : ButM L H H' := fun x o _ h => s x o h
theorem ButM.trans {H H1 H2 : Hp} {L L1 : List Addr} (a : ButM L H H1) (n : NewL H L L1) (b : ButM L1 H1 H2) : ButM L H H2 := fun x o nx h => b x o (fun z => by
  rcases n x z with c | c
  · exact nx c
  · rw [c] at h; cases h) (a x o nx h)
theorem ButM.put {H H1 : Hp} {L : List Addr} {p : Addr} {o : HO} (a : ButM L H H1) (m : p ∈ L) : ButM L H (upd H1 p o) := fun x u nx h => by
  rw [upd_ne (fun z => nx (by rw [z]; exact m))]
  exact a x u nx h
theorem ButM.new {H H1 : Hp} {L : List Addr} {p : Addr} {o : HO} (a : ButM L H H1) (n : H1 p = Option.none) : ButM L H (upd H1 p o) := fun x u nx h => same_upd n x u (a x u nx h)
theorem hidL_mono {H H' : Hp} {L L' : List Addr} (n : NewL H L L') (b : ButM L H H') : Same (hidL L H) (hidL L' H') := fun x o h => by
  obtain ⟨h1, h2⟩ := hidL_some h
  rw [hidL_out (fun z => by
    rcases n x z with c | c
    · exact h1 c
    · rw [c] at h2; cases h2)]
  exact b x o h1 h2
theorem hidL_put {H : Hp} {L : List Addr} {p : Addr} {o : HO} (m : p ∈ L) : hidL L (upd H p o) = hidL L H := by
  funext x
  by_cases c : x ∈ L
  · rw [hidL_in c, hidL_in c]
  · rw [hidL_out c, hidL_out c, upd_ne (fun z => c (by rw [z]; exact m))]
theorem g_chain {r r' : R2} {ta tb tc : TE} {σ : L2.St} {H : Hp} {Q : VK} (h : ta σ H fun x H1 => tb σ H1 fun y H2 => r x y H2 fun z H3 => ∃ k, z = .bl k ∧ (if k = true then tc σ H3 fun w' H4 => r' y w' H4 Q else Q (.bl false) H3)) : tChain r r' ta tb tc σ H Q := h
/-! ### the state of a database -/
structure DCl where
  n : Nat
  v : V
  nm : Str
  ar : Int
  ds : List PyData
structure DRow where
  nm : Str
  ar : Int
  ns : List Nat
  ad : Addr
structure DCa where
  n : Nat
  t : Addr
  ad : Addr
  ns : List Nat
  er : Bool
structure DB where
  gen : Nat
  nn : Nat
  nc : Nat
  cl : List DCl
  bi : List (Nat × Nat)
  de : List (Nat × Nat)
  ro : List DRow
  ca : List DCa
/-- where its objects lie -/
structure DAd where
  p : Addr
  dx : Addr
  c : Addr
  b : Addr
  d : Addr
  r : Addr
  g : Addr
  k : Addr
def DAd.L (A : DAd) (S : DB) : List Addr := [A.p, A.c, A.b, A.d, A.r, A.g, A.k] ++ (S.ro.map (·.ad) ++ S.ca.map (·.ad))
def intN (l : List Nat) : List V := l.map fun n => V.int ((n : Nat) : Int)
def kN (n : Nat) : L2.Key := Sum.inl ((n : Nat) : Int)
def kI (nm : Str) (ar : Int) : List L2.Key := [Sum.inr nm, Sum.inl ar]
def clE (x : DCl) : L2.Key × V := (kN x.n, x.v)
def prE (x : Nat × Nat) : L2.Key × V := (kN x.1, V.int ((x.2 : Nat) : Int))
def roE (x : DRow) : List L2.Key × V := (kI x.nm x.ar, V.ref x.ad)
def caE (x : DCa) : L2.Key × V := (kN x.n, V.ref x.t)
def clD (x : DCl) : PyData := .tuple [.tuple [.str x.nm, .int x.ar], .tuple x.ds]
structure Db (K : PySem.W.Frag) (H : Hp) (A : DAd) (S : DB) : Prop where
  ob : H A.p = some (.ins (clsA K "Database") A.dx (fs_Database (.int (S.gen : Nat)) (.ref A.c) (.ref A.b) (.ref A.d) (.ref A.r) (.ref A.g) (.ref A.k) (.int (S.nn : Nat)) (.int (S.nc : Nat))))
  ec : H A.c = some (.dK (S.cl.map clE))
  eb : H A.b = some (.dK (S.bi.map prE))
  ed : H A.d = some (.dK (S.de.map prE))
  er : H A.r = some (.dT (S.ro.map roE))
  eg : H A.g = some (.dT [])
  ek : H A.k = some (.dK (S.ca.map caE))
  dc : ∀ x ∈ S.cl, Dp K (hidL (A.L S) H) x.v (clD x)
  lr : ∀ x ∈ S.ro, H x.ad = some (.lst (intN x.ns))
  lc : ∀ x ∈ S.ca, hidL (A.L S) H x.t = some (.tup [.ref x.ad, .bl x.er]) ∧ H x.ad = some (.lst (intN x.ns))
  nd : (A.L S).Nodup
theorem valV_map {α κ : Type} [DecidableEq κ] (l : List α) (f : α → κ) (g : α → V) (k : κ) : valV (l.map fun x => (f x, g x)) k = (l.find? fun x => decide (f x = k)).map g := by
  induction l with
  | nil => rfl
  | cons a r ih =>
    unfold valV at ih ⊢
    rw [List.map_cons, List.find?_cons, List.find?_cons]
    by_cases c : f a = k
    · rw [decide_eq_true c]
      rfl
    · rw [decide_eq_false c]
      exact ih
theorem putK_new {κ : Type} [DecidableEq κ] {kvs : List (κ × V)} {k : κ} {v : V} (h : valV kvs k = none) : putK kvs k v = kvs ++ [(k, v)] := by
  have e : (kvs.any fun kv => decide (kv.1 = k)) = false := by
    rw [List.any_eq_false]
    intro x hx z
    unfold valV at h
    rw [Option.map_eq_none_iff, List.find?_eq_none] at h
    exact h x hx z
  unfold putK
  rw [e]
  rfl
theorem kN_inj {a b : Nat} : kN a = kN b ↔ a = b := ⟨fun h => by have := Sum.inl.inj h; omega, fun h => by rw [h]⟩
theorem kI_inj {a b : Str} {m n : Int} : kI a m = kI b n ↔ a = b ∧ m = n := ⟨fun h => by
  unfold kI at h
  injection h with h1 h2
  injection h2 with h3 _
  exact ⟨Sum.inr.inj h1, Sum.inl.inj h3⟩, fun ⟨h1, h2⟩ => by rw [h1, h2]⟩
def DB.clAt (S : DB) (n : Nat) : Option DCl := S.cl.find? fun x => decide (x.n = n)
def DB.biAt (S : DB) (n : Nat) : Option Nat := (S.bi.find? fun x => decide (x.1 = n)).map (·.2)
def DB.deAt (S : DB) (n : Nat) : Option Nat := (S.de.find? fun x => decide (x.1 = n)).map (·.2)
def DB.roAt (S : DB) (nm : Str) (ar : Int) : Option DRow := S.ro.find? fun x => decide (x.nm = nm ∧ x.ar = ar)
def DB.caAt (S : DB) (n : Nat) : Option DCa := S.ca.find? fun x => decide (x.n = n)
def DB.rowOf (S : DB) (nm : Str) (ar : Int) : List Nat := ((S.roAt nm ar).map (·.ns)).getD []
def DB.has (S : DB) (n : Nat) : Bool := (S.clAt n).isSome && !(S.deAt n).isSome
theorem find_k {α : Type} (l : List α) (f : α → Nat) (n : Nat) : (l.find? fun x => decide (kN (f x) = kN n)) = l.find? fun x => decide (f x = n) := by
  congr 1
  funext x
  exact decide_eq_decide.mpr kN_inj
theorem val_cl (S : DB) (n : Nat) : valV (S.cl.map clE) (kN n) = (S.clAt n).map (·.v) := by
  have := valV_map S.cl (fun x => kN x.n) (·.v) (kN n)
  rw [find_k] at this
  exact this
theorem val_pr (l : List (Nat × Nat)) (n : Nat) : valV (l.map prE) (kN n) = ((l.find? fun x => decide (x.1 = n)).map (·.2)).map fun m => V.int ((m : Nat) : Int) := by
  have := valV_map l (fun x => kN x.1) (fun x => V.int ((x.2 : Nat) : Int)) (kN n)
  rw [find_k] at this
  rw [Option.map_map]
  exact this
theorem val_ro (S : DB) (nm : Str) (ar : Int) : valV (S.ro.map roE) (kI nm ar) = (S.roAt nm ar).map fun x => V.ref x.ad := by
  have := valV_map S.ro (fun x => kI x.nm x.ar) (fun x => V.ref x.ad) (kI nm ar)
  have e : (S.ro.find? fun x => decide (kI x.nm x.ar = kI nm ar)) = S.roAt nm ar := by
    unfold DB.roAt
    congr 1
    funext x
    exact decide_eq_decide.mpr kI_inj
  rw [e] at this
  exact this
theorem val_ca (S : DB) (n : Nat) : valV (S.ca.map caE) (kN n) = (S.caAt n).map fun x => V.ref x.t := by
  have := valV_map S.ca (fun x => kN x.n) (fun x => V.ref x.t) (kN n)
  rw [find_k] at this
  exact this
theorem Db.mem {K : PySem.W.Frag} {H : Hp} {A : DAd} {S : DB} (_ : Db K H A S) : A.p ∈ A.L S ∧ A.c ∈ A.L S ∧ A.b ∈ A.L S ∧ A.d ∈ A.L S ∧ A.r ∈ A.L S ∧ A.g ∈ A.L S ∧ A.k ∈ A.L S := by
  unfold DAd.L
  simp
theorem ro_mem {A : DAd} {S : DB} {x : DRow} (h : x ∈ S.ro) : x.ad ∈ A.L S := List.mem_append_right _ (List.mem_append_left _ (List.mem_map.mpr ⟨x, h, rfl⟩))
theorem ca_mem {A : DAd} {S : DB} {x : DCa} (h : x ∈ S.ca) : x.ad ∈ A.L S := List.mem_append_right _ (List.mem_append_right _ (List.mem_map.mpr ⟨x, h, rfl⟩))
structure DbNe (A : DAd) : Prop where
  pc : A.p ≠ A.c
  pb : A.p ≠ A.b
  pd : A.p ≠ A.d
  pr : A.p ≠ A.r
  pg : A.p ≠ A.g
  pk : A.p ≠ A.k
  cb : A.c ≠ A.b
  cd : A.c ≠ A.d
  cr : A.c ≠ A.r
  cg : A.c ≠ A.g
  ck : A.c ≠ A.k
  bd : A.b ≠ A.d
  br : A.b ≠ A.r
  bg : A.b ≠ A.g
  bk : A.b ≠ A.k
  dr : A.d ≠ A.r
  dg : A.d ≠ A.g
  dk : A.d ≠ A.k
  rg : A.r ≠ A.g
  rk : A.r ≠ A.k
  gk : A.g ≠ A.k
theorem Db.ne {K : PySem.W.Frag} {H : Hp} {A : DAd} {S : DB} (D : Db K H A S) : DbNe A := by
  have n := D.nd
  unfold DAd.L at n
  have n := (List.nodup_append.mp n).1
  simp only [List.nodup_cons, List.mem_cons, List.not_mem_nil, or_false, not_or] at n
  obtain ⟨⟨a1, a2, a3, a4, a5, a6⟩, ⟨b1, b2, b3, b4, b5⟩, ⟨c1, c2, c3, c4⟩, ⟨d1, d2, d3⟩, ⟨e1, e2⟩, f1, _⟩ := n
  exact ⟨a1, a2, a3, a4, a5, a6, b1, b2, b3, b4, b5, c1, c2, c3, c4, d1, d2, d3, e1, e2, f1⟩
/-- other objects are changed -/
theorem Db.keep {K : PySem.W.Frag} {H H' : Hp} {A : DAd} {S : DB} (D : Db K H A S) (s : Same H H') : Db K H' A S := by
  have hs : Same (hidL (A.L S) H) (hidL (A.L S) H') := hidL_mono NewL.refl (ButM.of s)
  exact ⟨s _ _ D.ob, s _ _ D.ec, s _ _ D.eb, s _ _ D.ed, s _ _ D.er, s _ _ D.eg, s _ _ D.ek, fun x hx => dp_same hs _ _ (D.dc x hx), fun x hx => s _ _ (D.lr x hx), fun x hx => ⟨hs _ _ (D.lc x hx).1, s _ _ (D.lc x hx).2⟩, D.nd⟩
/-! ### what the methods do -/
def DB.erase (S : DB) (n : Nat) : DB := { S with gen := S.gen + 1, de := S.de ++ [(n, S.gen + 1)] }
def setRow (l : List DRow) (a : Addr) (ns : List Nat) : List DRow := l.map fun x => if x.ad = a then { x with ns := ns } else x
def DB.rowPut (S : DB) (first : Bool) (nm : Str) (ar : Int) (a : Addr) : List DRow := match S.roAt nm ar with
  | some x => setRow S.ro x.ad (if first then S.nn :: x.ns else x.ns ++ [S.nn])
  | none => S.ro ++ [⟨nm, ar, [S.nn], a⟩]
def DB.add (S : DB) (first : Bool) (nm : Str) (ar : Int) (ds : List PyData) (v : V) (a : Addr) : DB :=
  { S with gen := S.gen + 1, nn := S.nn + 1, cl := S.cl ++ [⟨S.nn, v, nm, ar, ds⟩], bi := S.bi ++ [(S.nn, S.gen + 1)], ro := S.rowPut first nm ar a }
def DB.live (S : DB) (n : Nat) : Bool := decide ((S.biAt n).getD 0 ≤ S.gen) && decide (S.gen < (S.deAt n).getD (S.gen + 1))
def DB.dsOf (S : DB) (n : Nat) : List PyData := ((S.clAt n).map (·.ds)).getD []
def DB.pairOf (S : DB) (n : Nat) : PyData := .tuple [.int ((n : Nat) : Int), .tuple (S.dsOf n)]
def DB.look (S : DB) (nm : Str) (ar : Int) : List PyData := ((S.rowOf nm ar).filter S.live).map S.pairOf
def DB.opened (S : DB) (nm : Str) (ar : Int) (er : Bool) (t a : Addr) : DB := { S with nc := S.nc + 1, ca := S.ca ++ [⟨S.nc, t, a, (S.rowOf nm ar).reverse.filter S.has, er⟩] }
/-- the numbers from the end on: the first that is given -/
def popF (S : DB) (er : Bool) : List Nat → Option Nat × List Nat
  | [] => (none, [])
  | n :: r => if (!er || S.has n) = true then (some n, r) else popF S er r
def setCa (l : List DCa) (a : Addr) (ns : List Nat) : List DCa := l.map fun x => if x.ad = a then { x with ns := ns } else x
def DB.next (S : DB) (c : DCa) : Option Nat × DB := match popF S c.er c.ns.reverse with
  | (some n, r) => (some n, { S with ca := setCa S.ca c.ad r.reverse })
  | (none, _) => (none, { S with ca := S.ca.filter fun x => !decide (x.n = c.n) })
/-! ### one object of a database is changed -/
section
variable {K : PySem.W.Frag} {H : Hp} {A : DAd} {S : DB}
theorem Db.ro_ne (D : Db K H A S) {x : DRow} (h : x ∈ S.ro) : x.ad ≠ A.p ∧ x.ad ≠ A.c ∧ x.ad ≠ A.b ∧ x.ad ≠ A.d ∧ x.ad ≠ A.r ∧ x.ad ≠ A.g ∧ x.ad ≠ A.k := by
  have e := D.lr x h
  refine ⟨fun z => ?_, fun z => ?_, fun z => ?_, fun z => ?_, fun z => ?_, fun z => ?_, fun z => ?_⟩
  · rw [z, D.ob] at e; cases e
  · rw [z, D.ec] at e; cases e
  · rw [z, D.eb] at e; cases e
  · rw [z, D.ed] at e; cases e
  · rw [z, D.er] at e; cases e
  · rw [z, D.eg] at e; cases e
  · rw [z, D.ek] at e; cases e
theorem Db.ca_ne (D : Db K H A S) {x : DCa} (h : x ∈ S.ca) : x.ad ≠ A.p ∧ x.ad ≠ A.c ∧ x.ad ≠ A.b ∧ x.ad ≠ A.d ∧ x.ad ≠ A.r ∧ x.ad ≠ A.g ∧ x.ad ≠ A.k := by
  have e := (D.lc x h).2
  refine ⟨fun z => ?_, fun z => ?_, fun z => ?_, fun z => ?_, fun z => ?_, fun z => ?_, fun z => ?_⟩
  · rw [z, D.ob] at e; cases e
  · rw [z, D.ec] at e; cases e
  · rw [z, D.eb] at e; cases e
  · rw [z, D.ed] at e; cases e
  · rw [z, D.er] at e; cases e
  · rw [z, D.eg] at e; cases e
  · rw [z, D.ek] at e; cases e
theorem Db.fld (D : Db K H A S) (g nn nc : Nat) : Db K (upd H A.p (.ins (clsA K "Database") A.dx (fs_Database (.int (g : Nat)) (.ref A.c) (.ref A.b) (.ref A.d) (.ref A.r) (.ref A.g) (.ref A.k) (.int (nn : Nat)) (.int (nc : Nat))))) A { S with gen := g, nn := nn, nc := nc } := by
  have n := D.ne
  have m := D.mem.1
  refine ⟨upd_same, ?_, ?_, ?_, ?_, ?_, ?_, fun x hx => ?_, fun x hx => ?_, fun x hx => ⟨?_, ?_⟩, D.nd⟩
  · rw [upd_ne n.pc.symm]; exact D.ec
  · rw [upd_ne n.pb.symm]; exact D.eb
  · rw [upd_ne n.pd.symm]; exact D.ed
  · rw [upd_ne n.pr.symm]; exact D.er
  · rw [upd_ne n.pg.symm]; exact D.eg
  · rw [upd_ne n.pk.symm]; exact D.ek
  · show Dp K (hidL (A.L S) _) _ _
    rw [hidL_put m]; exact D.dc x hx
  · rw [upd_ne (D.ro_ne hx).1]; exact D.lr x hx
  · show hidL (A.L S) _ _ = _
    rw [hidL_put m]; exact (D.lc x hx).1
  · rw [upd_ne (D.ca_ne hx).1]; exact (D.lc x hx).2
theorem Db.putC (D : Db K H A S) (x : DCl) (dx : Dp K (hidL (A.L S) H) x.v (clD x)) : Db K (upd H A.c (.dK ((S.cl ++ [x]).map clE))) A { S with cl := S.cl ++ [x] } := by
  have n := D.ne
  have m := D.mem.2.1
  refine ⟨?_, upd_same, ?_, ?_, ?_, ?_, ?_, fun y hy => ?_, fun y hy => ?_, fun y hy => ⟨?_, ?_⟩, D.nd⟩
  · rw [upd_ne n.pc]; exact D.ob
  · rw [upd_ne n.cb.symm]; exact D.eb
  · rw [upd_ne n.cd.symm]; exact D.ed
  · rw [upd_ne n.cr.symm]; exact D.er
  · rw [upd_ne n.cg.symm]; exact D.eg
  · rw [upd_ne n.ck.symm]; exact D.ek
  · show Dp K (hidL (A.L S) _) _ _
    rw [hidL_put m]
    rcases List.mem_append.mp hy with hy | hy
    · exact D.dc y hy
    · rw [List.mem_singleton.mp hy]; exact dx
  · rw [upd_ne (D.ro_ne hy).2.1]; exact D.lr y hy
  · show hidL (A.L S) _ _ = _
    rw [hidL_put m]; exact (D.lc y hy).1
  · rw [upd_ne (D.ca_ne hy).2.1]; exact (D.lc y hy).2
theorem Db.putB (D : Db K H A S) (l : List (Nat × Nat)) : Db K (upd H A.b (.dK (l.map prE))) A { S with bi := l } := by
  have n := D.ne
  have m := D.mem.2.2.1
  refine ⟨?_, ?_, upd_same, ?_, ?_, ?_, ?_, fun y hy => ?_, fun y hy => ?_, fun y hy => ⟨?_, ?_⟩, D.nd⟩
  · rw [upd_ne n.pb]; exact D.ob
  · rw [upd_ne n.cb]; exact D.ec
  · rw [upd_ne n.bd.symm]; exact D.ed
  · rw [upd_ne n.br.symm]; exact D.er
  · rw [upd_ne n.bg.symm]; exact D.eg
  · rw [upd_ne n.bk.symm]; exact D.ek
  · show Dp K (hidL (A.L S) _) _ _
    rw [hidL_put m]; exact D.dc y hy
  · rw [upd_ne (D.ro_ne hy).2.2.1]; exact D.lr y hy
  · show hidL (A.L S) _ _ = _
    rw [hidL_put m]; exact (D.lc y hy).1
  · rw [upd_ne (D.ca_ne hy).2.2.1]; exact (D.lc y hy).2
theorem Db.putD (D : Db K H A S) (l : List (Nat × Nat)) : Db K (upd H A.d (.dK (l.map prE))) A { S with de := l } := by
  have n := D.ne
  have m := D.mem.2.2.2.1
  refine ⟨?_, ?_, ?_, upd_same, ?_, ?_, ?_, fun y hy => ?_, fun y hy => ?_, fun y hy => ⟨?_, ?_⟩, D.nd⟩
  · rw [upd_ne n.pd]; exact D.ob
  · rw [upd_ne n.cd]; exact D.ec
  · rw [upd_ne n.bd]; exact D.eb
  · rw [upd_ne n.dr.symm]; exact D.er
  · rw [upd_ne n.dg.symm]; exact D.eg
  · rw [upd_ne n.dk.symm]; exact D.ek
  · show Dp K (hidL (A.L S) _) _ _
    rw [hidL_put m]; exact D.dc y hy
  · rw [upd_ne (D.ro_ne hy).2.2.2.1]; exact D.lr y hy
  · show hidL (A.L S) _ _ = _
    rw [hidL_put m]; exact (D.lc y hy).1
  · rw [upd_ne (D.ca_ne hy).2.2.2.1]; exact (D.lc y hy).2
theorem Db.there (D : Db K H A S) {z : Addr} (hz : z ∈ A.L S) : ∃ o, H z = some o := by
  unfold DAd.L at hz
  rcases List.mem_append.mp hz with hz | hz
  · simp only [List.mem_cons, List.not_mem_nil, or_false] at hz
    rcases hz with rfl | rfl | rfl | rfl | rfl | rfl | rfl
    · exact ⟨_, D.ob⟩
    · exact ⟨_, D.ec⟩
    · exact ⟨_, D.eb⟩
    · exact ⟨_, D.ed⟩
    · exact ⟨_, D.er⟩
    · exact ⟨_, D.eg⟩
    · exact ⟨_, D.ek⟩
  · rcases List.mem_append.mp hz with hz | hz
    · obtain ⟨x, hx, rfl⟩ := List.mem_map.mp hz
      exact ⟨_, D.lr x hx⟩
    · obtain ⟨x, hx, rfl⟩ := List.mem_map.mp hz
      exact ⟨_, (D.lc x hx).2⟩
/-- none of these is a tuple -/
def noTups (H : Hp) (L : List Addr) : Prop := ∀ x ∈ L, ∀ xs, H x ≠ some (.tup xs) ∧ ∀ o, H x ≠ some (.frz o (.tup xs))
theorem sqT_hidL {L : List Addr} (nt : noTups H L) {b : Addr} {xs : List V} (h : SqT K H b xs) : SqT K (hidL L H) b xs := by
  rcases h with (h | ⟨u, h⟩) | h
  · exact .inl (.inl (by rw [hidL_out (fun z => (nt b z xs).1 h)]; exact h))
  · exact .inl (.inr ⟨u, by rw [hidL_out (fun z => (nt b z xs).2 u h)]; exact h⟩)
  · exact .inr h
theorem hidL_dpN {L : List Addr} (nt : noTups H L) {v : V} {d : PyData} (n : noL d = true) (h : Dp K H v d) : Dp K (hidL L H) v d := dp_map (fun _ _ q => sqT_hidL nt q) _ _ n h
theorem Db.noTups (D : Db K H A S) : My.noTups H (A.L S) := fun x hx xs => by
  have key : ∀ {o : HO}, H x = some o → (∀ xs, o ≠ .tup xs) → (∀ u xs, o ≠ .frz u (.tup xs)) → H x ≠ some (.tup xs) ∧ ∀ u, H x ≠ some (.frz u (.tup xs)) := fun {o} h a b => ⟨fun z => a xs (Option.some.inj (h.symm.trans z)), fun u z => b u xs (Option.some.inj (h.symm.trans z))⟩
  unfold DAd.L at hx
  rcases List.mem_append.mp hx with hx | hx
  · simp only [List.mem_cons, List.not_mem_nil, or_false] at hx
    rcases hx with rfl | rfl | rfl | rfl | rfl | rfl | rfl
    · exact key D.ob (fun _ z => by cases z) (fun _ _ z => by cases z)
    · exact key D.ec (fun _ z => by cases z) (fun _ _ z => by cases z)
    · exact key D.eb (fun _ z => by cases z) (fun _ _ z => by cases z)
    · exact key D.ed (fun _ z => by cases z) (fun _ _ z => by cases z)
    · exact key D.er (fun _ z => by cases z) (fun _ _ z => by cases z)
    · exact key D.eg (fun _ z => by cases z) (fun _ _ z => by cases z)
    · exact key D.ek (fun _ z => by cases z) (fun _ _ z => by cases z)
  · rcases List.mem_append.mp hx with hx | hx
    · obtain ⟨y, hy, rfl⟩ := List.mem_map.mp hx
      exact key (D.lr y hy) (fun _ z => by cases z) (fun _ _ z => by cases z)
    · obtain ⟨y, hy, rfl⟩ := List.mem_map.mp hx
      exact key (D.lc y hy).2 (fun _ z => by cases z) (fun _ _ z => by cases z)
theorem setRow_ad (l : List DRow) (a : Addr) (ns : List Nat) : (setRow l a ns).map (·.ad) = l.map (·.ad) := by
  unfold setRow
  rw [List.map_map]
  refine List.map_congr_left fun x _ => ?_
  show (if x.ad = a then { x with ns := ns } else x).ad = x.ad
  split <;> rfl
theorem setRow_roE (l : List DRow) (a : Addr) (ns : List Nat) : (setRow l a ns).map roE = l.map roE := by
  unfold setRow
  rw [List.map_map]
  refine List.map_congr_left fun x _ => ?_
  show roE (if x.ad = a then { x with ns := ns } else x) = roE x
  split <;> rfl
theorem setCa_ad (l : List DCa) (a : Addr) (ns : List Nat) : (setCa l a ns).map (·.ad) = l.map (·.ad) := by
  unfold setCa
  rw [List.map_map]
  refine List.map_congr_left fun x _ => ?_
  show (if x.ad = a then { x with ns := ns } else x).ad = x.ad
  split <;> rfl
theorem setCa_caE (l : List DCa) (a : Addr) (ns : List Nat) : (setCa l a ns).map caE = l.map caE := by
  unfold setCa
  rw [List.map_map]
  refine List.map_congr_left fun x _ => ?_
  show caE (if x.ad = a then { x with ns := ns } else x) = caE x
  split <;> rfl
theorem Db.ro_ca (D : Db K H A S) {x : DRow} {y : DCa} (hx : x ∈ S.ro) (hy : y ∈ S.ca) : x.ad ≠ y.ad := by
  have n := D.nd
  unfold DAd.L at n
  have n := (List.nodup_append.mp (List.nodup_append.mp n).2.1).2.2
  exact n _ (List.mem_map.mpr ⟨x, hx, rfl⟩) _ (List.mem_map.mpr ⟨y, hy, rfl⟩)
theorem Db.rowL (D : Db K H A S) {x : DRow} (hx : x ∈ S.ro) (ns : List Nat) : Db K (upd H x.ad (.lst (intN ns))) A { S with ro := setRow S.ro x.ad ns } := by
  obtain ⟨n1, n2, n3, n4, n5, n6, n7⟩ := D.ro_ne hx
  have m := ro_mem (A := A) hx
  have eL : A.L { S with ro := setRow S.ro x.ad ns } = A.L S := by unfold DAd.L; rw [setRow_ad]
  refine ⟨?_, ?_, ?_, ?_, ?_, ?_, ?_, fun y hy => ?_, fun y hy => ?_, fun y hy => ⟨?_, ?_⟩, by rw [eL]; exact D.nd⟩
  · rw [upd_ne n1.symm]; exact D.ob
  · rw [upd_ne n2.symm]; exact D.ec
  · rw [upd_ne n3.symm]; exact D.eb
  · rw [upd_ne n4.symm]; exact D.ed
  · rw [upd_ne n5.symm, setRow_roE]; exact D.er
  · rw [upd_ne n6.symm]; exact D.eg
  · rw [upd_ne n7.symm]; exact D.ek
  · rw [eL, hidL_put m]; exact D.dc y hy
  · have hy : y ∈ setRow S.ro x.ad ns := hy
    unfold setRow at hy
    obtain ⟨z, hz, rfl⟩ := List.mem_map.mp hy
    by_cases c : z.ad = x.ad
    · rw [if_pos c]
      show (upd H x.ad _) z.ad = _
      rw [c]
      exact upd_same
    · rw [if_neg c, upd_ne c]
      exact D.lr z hz
  · rw [eL, hidL_put m]; exact (D.lc y hy).1
  · rw [upd_ne (D.ro_ca hx hy).symm]; exact (D.lc y hy).2
theorem Db.caL (D : Db K H A S) {x : DCa} (hx : x ∈ S.ca) (ns : List Nat) : Db K (upd H x.ad (.lst (intN ns))) A { S with ca := setCa S.ca x.ad ns } := by
  obtain ⟨n1, n2, n3, n4, n5, n6, n7⟩ := D.ca_ne hx
  have m := ca_mem (A := A) hx
  have eL : A.L { S with ca := setCa S.ca x.ad ns } = A.L S := by unfold DAd.L; rw [setCa_ad]
  refine ⟨?_, ?_, ?_, ?_, ?_, ?_, ?_, fun y hy => ?_, fun y hy => ?_, fun y hy => ?_, by rw [eL]; exact D.nd⟩
  · rw [upd_ne n1.symm]; exact D.ob
  · rw [upd_ne n2.symm]; exact D.ec
  · rw [upd_ne n3.symm]; exact D.eb
  · rw [upd_ne n4.symm]; exact D.ed
  · rw [upd_ne n5.symm]; exact D.er
  · rw [upd_ne n6.symm]; exact D.eg
  · rw [upd_ne n7.symm, setCa_caE]; exact D.ek
  · rw [eL, hidL_put m]; exact D.dc y hy
  · rw [upd_ne (D.ro_ca hy hx)]; exact D.lr y hy
  · have hy : y ∈ setCa S.ca x.ad ns := hy
    unfold setCa at hy
    obtain ⟨z, hz, rfl⟩ := List.mem_map.mp hy
    rw [eL, hidL_put m]
    by_cases c : z.ad = x.ad
    · rw [if_pos c]
      refine ⟨(D.lc z hz).1, ?_⟩
      show (upd H x.ad _) z.ad = _
      rw [c]
      exact upd_same
    · rw [if_neg c, upd_ne c]
      exact D.lc z hz
theorem Db.newRow {H0 : Hp} (D : Db K H0 A S) {a : Addr} (s : Same H0 H) (na : H0 a = Option.none) (nm : Str) (ar : Int) (ea : H a = some (.lst [])) :
    Db K (upd H A.r (.dT ((S.ro ++ [(⟨nm, ar, [], a⟩ : DRow)]).map roE))) A { S with ro := S.ro ++ [⟨nm, ar, [], a⟩] } := by
  have n := D.ne
  have m := D.mem.2.2.2.2.1
  have D1 := D.keep s
  have eL : ∀ z, z ∈ A.L { S with ro := S.ro ++ [⟨nm, ar, [], a⟩] } ↔ z ∈ A.L S ∨ z = a := fun z => by
    unfold DAd.L
    simp only [List.map_append, List.mem_append, List.map_cons, List.map_nil, List.mem_cons, List.not_mem_nil, or_false]
    constructor
    · rintro (h | (h | h) | h)
      · exact .inl (.inl h)
      · exact .inl (.inr (.inl h))
      · exact .inr h
      · exact .inl (.inr (.inr h))
    · rintro ((h | h | h) | h)
      · exact .inl h
      · exact .inr (.inl (.inl h))
      · exact .inr (.inr h)
      · exact .inr (.inl (.inr h))
  have hs : Same (hidL (A.L S) H0) (hidL (A.L { S with ro := S.ro ++ [⟨nm, ar, [], a⟩] }) (upd H A.r (.dT ((S.ro ++ [(⟨nm, ar, [], a⟩ : DRow)]).map roE)))) := hidL_mono (fun z hz => by
    rcases (eL z).mp hz with h | h
    · exact .inl h
    · exact .inr (by rw [h]; exact na)) ((ButM.of s).put m)
  have nA : ∀ {z : Addr} {o : HO}, H0 z = some o → z ≠ a := fun {z o} h c => by rw [c, na] at h; cases h
  have nar : a ≠ A.r := (nA D.er).symm
  refine ⟨?_, ?_, ?_, ?_, upd_same, ?_, ?_, fun y hy => ?_, fun y hy => ?_, fun y hy => ⟨?_, ?_⟩, ?_⟩
  · rw [upd_ne n.pr]; exact D1.ob
  · rw [upd_ne n.cr]; exact D1.ec
  · rw [upd_ne n.br]; exact D1.eb
  · rw [upd_ne n.dr]; exact D1.ed
  · rw [upd_ne n.rg.symm]; exact D1.eg
  · rw [upd_ne n.rk.symm]; exact D1.ek
  · exact dp_same hs _ _ (D.dc y hy)
  · rcases List.mem_append.mp hy with hy | hy
    · rw [upd_ne (D.ro_ne hy).2.2.2.2.1]; exact D1.lr y hy
    · rw [List.mem_singleton.mp hy]
      show (upd H A.r _) a = _
      rw [upd_ne nar]
      exact ea
  · exact hs _ _ (D.lc y hy).1
  · rw [upd_ne (D.ca_ne hy).2.2.2.2.1]; exact D1.lc y hy |>.2
  · have nd := D.nd
    unfold DAd.L at nd ⊢
    obtain ⟨k1, k2, k3⟩ := List.nodup_append.mp nd
    obtain ⟨k4, k5, k6⟩ := List.nodup_append.mp k2
    have a1 : ∀ x ∈ S.ro, x.ad ≠ a := fun x hx => nA (D.lr x hx)
    have a2 : ∀ x ∈ S.ca, x.ad ≠ a := fun x hx => nA (D.lc x hx).2
    have a3 : ∀ z ∈ [A.p, A.c, A.b, A.d, A.r, A.g, A.k], z ≠ a := fun z hz => by
      simp only [List.mem_cons, List.not_mem_nil, or_false] at hz
      rcases hz with rfl | rfl | rfl | rfl | rfl | rfl | rfl
      · exact nA D.ob
      · exact nA D.ec
      · exact nA D.eb
      · exact nA D.ed
      · exact nA D.er
      · exact nA D.eg
      · exact nA D.ek
    rw [List.map_append, List.map_cons, List.map_nil]
    refine List.nodup_append.mpr ⟨k1, List.nodup_append.mpr ⟨List.nodup_append.mpr ⟨k4, by simp, fun x hx y hy => ?_⟩, k5, fun x hx y hy => ?_⟩, fun x hx y hy => ?_⟩
    · rw [List.mem_singleton.mp hy]
      obtain ⟨z, hz, rfl⟩ := List.mem_map.mp hx
      exact a1 z hz
    · rcases List.mem_append.mp hx with hx | hx
      · exact k6 x hx y hy
      · rw [List.mem_singleton.mp hx]
        obtain ⟨z, hz, rfl⟩ := List.mem_map.mp hy
        exact (a2 z hz).symm
    · rcases List.mem_append.mp hy with hy | hy
      · rcases List.mem_append.mp hy with hy | hy
        · exact k3 x hx y (List.mem_append_left _ hy)
        · rw [List.mem_singleton.mp hy]
          exact a3 x hx
      · exact k3 x hx y (List.mem_append_right _ hy)
theorem Db.newCa {H0 : Hp} (D : Db K H0 A S) {a t : Addr} (s : Same H0 H) (na : H0 a = Option.none) (nt : H0 t = Option.none) (n' : Nat) (ns : List Nat) (er : Bool) (ea : H a = some (.lst (intN ns))) (et : H t = some (.tup [.ref a, .bl er])) :
    Db K (upd H A.k (.dK ((S.ca ++ [(⟨n', t, a, ns, er⟩ : DCa)]).map caE))) A { S with ca := S.ca ++ [⟨n', t, a, ns, er⟩] } := by
  have n := D.ne
  have m := D.mem.2.2.2.2.2.2
  have D1 := D.keep s
  have eL : ∀ z, z ∈ A.L { S with ca := S.ca ++ [⟨n', t, a, ns, er⟩] } ↔ z ∈ A.L S ∨ z = a := fun z => by
    unfold DAd.L
    simp only [List.map_append, List.mem_append, List.map_cons, List.map_nil, List.mem_cons, List.not_mem_nil, or_false, or_assoc]
  have nA : ∀ {z : Addr} {o : HO}, H0 z = some o → z ≠ a := fun {z o} h c => by rw [c, na] at h; cases h
  have hs : Same (hidL (A.L S) H0) (hidL (A.L { S with ca := S.ca ++ [⟨n', t, a, ns, er⟩] }) (upd H A.k (.dK ((S.ca ++ [(⟨n', t, a, ns, er⟩ : DCa)]).map caE)))) := hidL_mono (fun z hz => by
    rcases (eL z).mp hz with h | h
    · exact .inl h
    · exact .inr (by rw [h]; exact na)) ((ButM.of s).put m)
  have nak : a ≠ A.k := (nA D.ek).symm
  have tk : t ≠ A.k := fun c => by have e := D.ek; rw [← c, nt] at e; cases e
  have ta : t ≠ a := fun c => by rw [c, ea] at et; cases et
  have tL : t ∉ A.L { S with ca := S.ca ++ [⟨n', t, a, ns, er⟩] } := fun z => by
    rcases (eL t).mp z with h | h
    · have : ∀ z ∈ A.L S, ∃ o, H0 z = some o := fun z hz => by
        unfold DAd.L at hz
        rcases List.mem_append.mp hz with hz | hz
        · simp only [List.mem_cons, List.not_mem_nil, or_false] at hz
          rcases hz with rfl | rfl | rfl | rfl | rfl | rfl | rfl
          · exact ⟨_, D.ob⟩
          · exact ⟨_, D.ec⟩
          · exact ⟨_, D.eb⟩
          · exact ⟨_, D.ed⟩
          · exact ⟨_, D.er⟩
          · exact ⟨_, D.eg⟩
          · exact ⟨_, D.ek⟩
        · rcases List.mem_append.mp hz with hz | hz
          · obtain ⟨x, hx, rfl⟩ := List.mem_map.mp hz
            exact ⟨_, D.lr x hx⟩
          · obtain ⟨x, hx, rfl⟩ := List.mem_map.mp hz
            exact ⟨_, (D.lc x hx).2⟩
      obtain ⟨o, ho⟩ := this t h
      rw [nt] at ho
      cases ho
    · exact ta h
  refine ⟨?_, ?_, ?_, ?_, ?_, ?_, upd_same, fun y hy => ?_, fun y hy => ?_, fun y hy => ?_, ?_⟩
  · rw [upd_ne n.pk]; exact D1.ob
  · rw [upd_ne n.ck]; exact D1.ec
  · rw [upd_ne n.bk]; exact D1.eb
  · rw [upd_ne n.dk]; exact D1.ed
  · rw [upd_ne n.rk]; exact D1.er
  · rw [upd_ne n.gk]; exact D1.eg
  · exact dp_same hs _ _ (D.dc y hy)
  · rw [upd_ne (D.ro_ne hy).2.2.2.2.2.2]; exact D1.lr y hy
  · rcases List.mem_append.mp hy with hy | hy
    · refine ⟨hs _ _ (D.lc y hy).1, ?_⟩
      rw [upd_ne (D.ca_ne hy).2.2.2.2.2.2]; exact (D1.lc y hy).2
    · rw [List.mem_singleton.mp hy]
      refine ⟨?_, ?_⟩
      · show hidL _ _ t = _
        rw [hidL_out tL, upd_ne tk]
        exact et
      · show (upd H A.k _) a = _
        rw [upd_ne nak]
        exact ea
  · have nd := D.nd
    unfold DAd.L at nd ⊢
    obtain ⟨k1, k2, k3⟩ := List.nodup_append.mp nd
    obtain ⟨k4, k5, k6⟩ := List.nodup_append.mp k2
    have a1 : ∀ x ∈ S.ro, x.ad ≠ a := fun x hx => nA (D.lr x hx)
    have a2 : ∀ x ∈ S.ca, x.ad ≠ a := fun x hx => nA (D.lc x hx).2
    have a3 : ∀ z ∈ [A.p, A.c, A.b, A.d, A.r, A.g, A.k], z ≠ a := fun z hz => by
      simp only [List.mem_cons, List.not_mem_nil, or_false] at hz
      rcases hz with rfl | rfl | rfl | rfl | rfl | rfl | rfl
      · exact nA D.ob
      · exact nA D.ec
      · exact nA D.eb
      · exact nA D.ed
      · exact nA D.er
      · exact nA D.eg
      · exact nA D.ek
    rw [List.map_append, List.map_cons, List.map_nil]
    refine List.nodup_append.mpr ⟨k1, List.nodup_append.mpr ⟨k4, List.nodup_append.mpr ⟨k5, by simp, fun x hx y hy => ?_⟩, fun x hx y hy => ?_⟩, fun x hx y hy => ?_⟩
    · rw [List.mem_singleton.mp hy]
      obtain ⟨z, hz, rfl⟩ := List.mem_map.mp hx
      exact a2 z hz
    · rcases List.mem_append.mp hy with hy | hy
      · exact k6 x hx y hy
      · rw [List.mem_singleton.mp hy]
        obtain ⟨z, hz, rfl⟩ := List.mem_map.mp hx
        exact a1 z hz
    · rcases List.mem_append.mp hy with hy | hy
      · exact k3 x hx y (List.mem_append_left _ hy)
      · rcases List.mem_append.mp hy with hy | hy
        · exact k3 x hx y (List.mem_append_right _ hy)
        · rw [List.mem_singleton.mp hy]
          exact a3 x hx
theorem Db.delCa (D : Db K H A S) (p : DCa → Bool) : Db K (upd H A.k (.dK ((S.ca.filter p).map caE))) A { S with ca := S.ca.filter p } := by
  have n := D.ne
  have m := D.mem.2.2.2.2.2.2
  have sub : ∀ z, z ∈ A.L { S with ca := S.ca.filter p } → z ∈ A.L S := fun z hz => by
    unfold DAd.L at hz ⊢
    rcases List.mem_append.mp hz with hz | hz
    · exact List.mem_append_left _ hz
    · refine List.mem_append_right _ ?_
      rcases List.mem_append.mp hz with hz | hz
      · exact List.mem_append_left _ hz
      · obtain ⟨x, hx, rfl⟩ := List.mem_map.mp hz
        exact List.mem_append_right _ (List.mem_map.mpr ⟨x, (List.mem_filter.mp hx).1, rfl⟩)
  have hs : Same (hidL (A.L S) H) (hidL (A.L { S with ca := S.ca.filter p }) (upd H A.k (.dK ((S.ca.filter p).map caE)))) := hidL_mono (fun z hz => .inl (sub z hz)) (ButM.refl.put m)
  refine ⟨?_, ?_, ?_, ?_, ?_, ?_, upd_same, fun y hy => ?_, fun y hy => ?_, fun y hy => ?_, ?_⟩
  · rw [upd_ne n.pk]; exact D.ob
  · rw [upd_ne n.ck]; exact D.ec
  · rw [upd_ne n.bk]; exact D.eb
  · rw [upd_ne n.dk]; exact D.ed
  · rw [upd_ne n.rk]; exact D.er
  · rw [upd_ne n.gk]; exact D.eg
  · exact dp_same hs _ _ (D.dc y hy)
  · rw [upd_ne (D.ro_ne hy).2.2.2.2.2.2]; exact D.lr y hy
  · have hy := (List.mem_filter.mp hy).1
    refine ⟨hs _ _ (D.lc y hy).1, ?_⟩
    rw [upd_ne (D.ca_ne hy).2.2.2.2.2.2]; exact (D.lc y hy).2
  · have nd := D.nd
    unfold DAd.L at nd ⊢
    refine nd.sublist (List.Sublist.append (List.Sublist.refl _) (List.Sublist.append (List.Sublist.refl _) ?_))
    exact (List.filter_sublist).map _
end
abbrev dbO (K : PySem.W.Frag) (A : DAd) (g nn nc : Int) : HO := .ins (clsA K "Database") A.dx (fs_Database (.int g) (.ref A.c) (.ref A.b) (.ref A.d) (.ref A.r) (.ref A.g) (.ref A.k) (.int nn) (.int nc))
theorem put_new {l : List (Nat × Nat)} {n m : Nat} (h : (l.find? fun x => decide (x.1 = n)) = none) : putK (l.map prE) (kN n) (.int ((m : Nat) : Int)) = (l ++ [(n, m)]).map prE := by
  rw [putK_new (by rw [val_pr, h]; rfl), List.map_append]
  rfl
theorem lt_size {n : Nat} (h : n ≤ 100000) : n < sizeLine := Nat.lt_of_le_of_lt h (by decide)
theorem find_lt {α : Type} {l : List α} {f : α → Nat} {n : Nat} (h : ∀ x ∈ l, f x < n) : (l.find? fun x => decide (f x = n)) = none := List.find?_eq_none.mpr fun x hx z => by
  have := h x hx
  have := of_decide_eq_true z
  omega
theorem DAd.same (A : DAd) (S : DB) (g nn nc : Nat) (cl : List DCl) (bi de : List (Nat × Nat)) : A.L ⟨g, nn, nc, cl, bi, de, S.ro, S.ca⟩ = A.L S := rfl
theorem setRow_last {l : List DRow} {nm : Str} {ar : Int} {a : Addr} (ns : List Nat) (h : ∀ x ∈ l, x.ad ≠ a) : setRow (l ++ [⟨nm, ar, [], a⟩]) a ns = l ++ [⟨nm, ar, ns, a⟩] := by
  unfold setRow
  rw [List.map_append]
  congr 1
  · refine (List.map_congr_left fun x hx => if_neg (h x hx)).trans ?_
    exact List.map_id _
  · show [if a = a then _ else _] = _
    rw [if_pos rfl]
theorem decide_natle {a b : Nat} : decide (((a : Nat) : Int) ≤ ((b : Nat) : Int)) = decide (a ≤ b) := by
  by_cases c : a ≤ b
  · rw [decide_eq_true c, decide_eq_true (by omega)]
  · rw [decide_eq_false c, decide_eq_false (by omega)]
theorem decide_natlt {a b : Nat} : decide (((a : Nat) : Int) < ((b : Nat) : Int)) = decide (a < b) := by
  by_cases c : a < b
  · rw [decide_eq_true c, decide_eq_true (by omega)]
  · rw [decide_eq_false c, decide_eq_false (by omega)]
theorem nodup_inj {α β : Type} {f : α → β} : ∀ {l : List α}, (l.map f).Nodup → ∀ {x y : α}, x ∈ l → y ∈ l → f x = f y → x = y
  | a :: l, n, x, y, hx, hy, e => by
    rw [List.map_cons, List.nodup_cons] at n
    rcases List.mem_cons.mp hx with h1 | h1
    · rcases List.mem_cons.mp hy with h2 | h2
      · rw [h1, h2]
      · exact absurd (show f a ∈ l.map f from List.mem_map.mpr ⟨y, h2, by rw [← e, h1]⟩) n.1
    · rcases List.mem_cons.mp hy with h2 | h2
      · exact absurd (show f a ∈ l.map f from List.mem_map.mpr ⟨x, h1, by rw [e, h2]⟩) n.1
      · exact nodup_inj n.2 h1 h2 e
theorem Db.ca_inj {K : PySem.W.Frag} {H : Hp} {A : DAd} {S : DB} (D : Db K H A S) {x y : DCa} (hx : x ∈ S.ca) (hy : y ∈ S.ca) (e : x.ad = y.ad) : x = y := by
  have n := D.nd
  unfold DAd.L at n
  exact nodup_inj (List.nodup_append.mp (List.nodup_append.mp n).2.1).2.1 hx hy e
theorem Db.ro_inj {K : PySem.W.Frag} {H : Hp} {A : DAd} {S : DB} (D : Db K H A S) {x y : DRow} (hx : x ∈ S.ro) (hy : y ∈ S.ro) (e : x.ad = y.ad) : x = y := by
  have n := D.nd
  unfold DAd.L at n
  exact nodup_inj (List.nodup_append.mp (List.nodup_append.mp n).2.1).1 hx hy e
theorem setCa_self {l : List DCa} {a : Addr} {ns : List Nat} (h : ∀ x ∈ l, x.ad = a → x.ns = ns) : setCa l a ns = l := by
  unfold setCa
  refine (List.map_congr_left fun x hx => ?_).trans (List.map_id _)
  show (if x.ad = a then { x with ns := ns } else x) = x
  split
  · next c => rw [← h x hx c]
  · rfl
theorem setCa_setCa {l : List DCa} {a : Addr} {m n : List Nat} : setCa (setCa l a m) a n = setCa l a n := by
  unfold setCa
  rw [List.map_map]
  refine List.map_congr_left fun x _ => ?_
  show (if (if x.ad = a then { x with ns := m } else x).ad = a then { (if x.ad = a then { x with ns := m } else x) with ns := n } else (if x.ad = a then { x with ns := m } else x)) = if x.ad = a then { x with ns := n } else x
  by_cases c : x.ad = a
  · simp [c]
  · simp [c]
theorem setCa_filter {l : List DCa} {a : Addr} {ns : List Nat} {p : DCa → Bool} (h : ∀ x ∈ l, x.ad = a → p x = false) (hp : ∀ x : DCa, p { x with ns := ns } = p x) : (setCa l a ns).filter p = l.filter p := by
  unfold setCa
  induction l with
  | nil => rfl
  | cons x l ih =>
    have ih := ih fun y hy => h y (.tail _ hy)
    rw [List.map_cons, List.filter_cons, List.filter_cons, ih]
    by_cases c : x.ad = a
    · rw [if_pos c, hp, h x (.head _) c]
      rfl
    · rw [if_neg c]
theorem dropK_ca (l : List DCa) (n : Nat) : dropK (l.map caE) (kN n) = (l.filter fun x => !decide (x.n = n)).map caE := by
  unfold dropK
  rw [List.filter_map]
  congr 1
  congr 1
  funext x
  show _ = !decide (x.n = n)
  by_cases c : x.n = n
  · rw [decide_eq_true c]
    simp [caE, c]
  · rw [decide_eq_false c]
    have : ¬ kN x.n = kN n := fun z => c (kN_inj.mp z)
    simp [caE, this]
/-- numbers that are used are known -/
structure DOk (S : DB) : Prop where
  cl : ∀ x ∈ S.cl, x.n < S.nn
  bi : ∀ x ∈ S.bi, x.1 < S.nn
  de : ∀ x ∈ S.de, x.1 < S.nn
  ca : ∀ x ∈ S.ca, x.n < S.nc
  ro : ∀ x ∈ S.ro, ∀ n ∈ x.ns, (S.clAt n).isSome = true ∧ (S.biAt n).isSome = true
  cn : ∀ x ∈ S.ca, ∀ n ∈ x.ns, (S.clAt n).isSome = true
  sz : S.cl.length ≤ 100000 ∧ S.bi.length ≤ 100000 ∧ S.de.length ≤ 100000 ∧ S.ro.length ≤ 100000 ∧ S.ca.length ≤ 100000 ∧ ∀ x ∈ S.ro, x.ns.length ≤ 100000
/-- a clause that may be stored -/
structure ClaOk (d : PyData) (r : List PyData) (nm : Str) (ar : Int) : Prop where
  nd : ∀ e ∈ d :: r, NdA e
  two : PyData.eqv d clN = true → Cls 2 r
  len : (d :: r).length ≤ 200
  hd : ∃ tl, (splitM (d :: r)).1 = nodeF nm ar :: tl
  ctl : (nm, ar) ∉ CTL
  bin : (nm, ar) ∉ BIN
  ok : okName nm = true
def sp_head_and_body (K : PySem.W.Frag) : Sp := fun vs H Q _ => ∃ (x : V) (d : PyData) (r : List PyData) (nm : Str) (ar : Int), vs = [x] ∧ Dp K H x (.tuple (d :: r)) ∧ ClaOk d r nm ar ∧
  ∀ p hv bv H', Same H H' → H' p = some (.tup [hv, bv]) → Dp K H' hv (.tuple (splitM (d :: r)).1) → Q (.ref p) H'
def sp_Database___init__ (K : PySem.W.Frag) : Sp := fun vs H Q _ => ∃ (p dx : Addr), vs = [.ref p] ∧ H p = some (.ins (clsA K "Database") dx []) ∧
  ∀ A H', A.p = p → ButM [p] H H' → (∀ x ∈ A.L ⟨0, 0, 0, [], [], [], [], []⟩, x = p ∨ H x = Option.none) → Db K H' A ⟨0, 0, 0, [], [], [], [], []⟩ → Q .non H'
def sp_Database__exists (K : PySem.W.Frag) : Sp := fun vs H Q _ => ∃ (A : DAd) (S : DB) (n : Nat), vs = [.ref A.p, .int (n : Nat)] ∧ Db K H A S ∧ Q (.bl (S.has n)) H
def sp_Database_erase (K : PySem.W.Frag) : Sp := fun vs H Q _ => ∃ (A : DAd) (S : DB) (n : Nat), vs = [.ref A.p, .int (n : Nat)] ∧ Db K H A S ∧ DOk S ∧
  (S.has n = false → Q (.bl false) H) ∧ (S.has n = true → ∀ H', ButM (A.L S) H H' → Db K H' A (S.erase n) → Q (.bl true) H')
def sp_Database_add (K : PySem.W.Frag) : Sp := fun vs H Q _ => ∃ (A : DAd) (S : DB) (x : V) (d : PyData) (r : List PyData) (nm : Str) (ar : Int) (first : Bool), vs = [.ref A.p, x, .bl first] ∧ Db K H A S ∧ DOk S ∧ Dp K (hidL (A.L S) H) x (.tuple (d :: r)) ∧ ClaOk d r nm ar ∧
  ∀ v a H', H a = Option.none → ButM (A.L S) H H' → Db K H' A (S.add first nm ar (renM 0 (d :: r)) v a) → Q (.int (S.nn : Nat)) H'
def sp_Database_clauses (K : PySem.W.Frag) : Sp := fun vs H Q _ => ∃ (A : DAd) (S : DB) (nm : Str) (ar : Int), vs = [.ref A.p, .str nm, .int ar, .non] ∧ Db K H A S ∧ DOk S ∧
  ∀ r zs H', Same H H' → H r = Option.none → H' r = some (.lst zs) → DpAll K (hidL (A.L S) H') zs (S.look nm ar) → Q (.ref r) H'
def sp_Database_open_call (K : PySem.W.Frag) : Sp := fun vs H Q _ => ∃ (A : DAd) (S : DB) (nm : Str) (ar : Int) (er : Bool), vs = [.ref A.p, .str nm, .int ar, .bl er] ∧ Db K H A S ∧ DOk S ∧
  ∀ t a H', H a = Option.none → ButM (A.L S) H H' → Db K H' A (S.opened nm ar er t a) → Q (.int (S.nc : Nat)) H'
def sp_Database__left (K : PySem.W.Frag) : Sp := fun vs H Q _ => ∃ (A : DAd) (S : DB) (n : Nat) (c : DCa), vs = [.ref A.p, .int (n : Nat)] ∧ Db K H A S ∧ S.caAt n = some c ∧ Q (.ref c.t) H
def sp_Database_next_clause (K : PySem.W.Frag) : Sp := fun vs H Q _ => ∃ (A : DAd) (S : DB) (n : Nat) (c : DCa), vs = [.ref A.p, .int (n : Nat)] ∧ Db K H A S ∧ DOk S ∧ S.caAt n = some c ∧
  ∀ v H', ButM (A.L S) H H' → Db K H' A (S.next c).2 → (match (S.next c).1 with | none => v = .non | some m => Dp K (hidL (A.L S) H') v (S.pairOf m)) → Q v H'
/-! ### the law's model of a database -/
structure MRow where
  ad : Addr
  v : V
  ds : List PyData
  nm : Str
  ar : Int
  b : Nat
  dth : Option Nat
structure MCa where
  ad : Addr
  na : Addr
  ns : List Nat
  op : Bool
structure MO where
  g : Nat
  rows : List MRow
  oa : Addr
  ord : List Nat
  cas : List MCa
structure MAd where
  m : Addr
  R : Addr
  C : Addr
  G : Addr
def MAd.L (B : MAd) (M : MO) : List Addr := [B.m, B.R, B.C, B.G] ++ (M.rows.map (·.ad) ++ M.cas.map (·.ad))
/-- lists that are read alone -/
def MO.I (M : MO) : List Addr := M.oa :: M.cas.map (·.na)
def dthV : Option Nat → V
  | none => .non
  | some d => .int ((d : Nat) : Int)
def moD (B : MAd) (M : MO) : List (L2.Key × V) := [(Sum.inr "generation", .int ((M.g : Nat) : Int)), (Sum.inr "rows", .ref B.R), (Sum.inr "order", .ref M.oa), (Sum.inr "calls", .ref B.C), (Sum.inr "gone", .ref B.G)]
def rowO (x : MRow) : HO := .lst [x.v, .int ((x.b : Nat) : Int), dthV x.dth]
def mcaO (x : MCa) : HO := .lst [.ref x.na, .bl false, .bl x.op]
structure Mo (K : PySem.W.Frag) (H : Hp) (B : MAd) (M : MO) : Prop where
  em : H B.m = some (.dK (moD B M))
  eR : H B.R = some (.lst (M.rows.map fun x => V.ref x.ad))
  eC : H B.C = some (.lst (M.cas.map fun x => V.ref x.ad))
  eG : H B.G = some (.lst [])
  eO : H M.oa = some (.lst (intN M.ord))
  rw : ∀ x ∈ M.rows, H x.ad = some (rowO x)
  dv : ∀ x ∈ M.rows, Dp K H x.v (.tuple x.ds) ∧ ∀ d ∈ x.ds, NdA d
  ca : ∀ x ∈ M.cas, H x.ad = some (mcaO x) ∧ H x.na = some (.lst (intN x.ns))
  nd : (B.L M).Nodup
  di : ∀ x ∈ M.I, x ∉ B.L M
theorem dp_butM {K : PySem.W.Frag} {H H' : Hp} {L : List Addr} (nt : noTups H L) (b : ButM L H H') {v : V} {d : PyData} (n : noL d = true) (h : Dp K H v d) : Dp K H' v d :=
  dp_map (fun c xs q => by
    rcases q with (q | ⟨u, q⟩) | q
    · exact .inl (.inl (b _ _ (fun z => (nt c z xs).1 q) q))
    · exact .inl (.inr ⟨u, b _ _ (fun z => (nt c z xs).2 u q) q⟩)
    · exact .inr q) _ _ n h
theorem Mo.there {K : PySem.W.Frag} {H : Hp} {B : MAd} {M : MO} (W : Mo K H B M) {z : Addr} (hz : z ∈ B.L M ++ M.I) : ∃ o, H z = some o ∧ (∀ xs, o ≠ .tup xs) ∧ ∀ u xs, o ≠ .frz u (.tup xs) := by
  rcases List.mem_append.mp hz with hz | hz
  · unfold MAd.L at hz
    rcases List.mem_append.mp hz with hz | hz
    · simp only [List.mem_cons, List.not_mem_nil, or_false] at hz
      rcases hz with rfl | rfl | rfl | rfl
      · exact ⟨_, W.em, (fun _ z => by cases z), (fun _ _ z => by cases z)⟩
      · exact ⟨_, W.eR, (fun _ z => by cases z), (fun _ _ z => by cases z)⟩
      · exact ⟨_, W.eC, (fun _ z => by cases z), (fun _ _ z => by cases z)⟩
      · exact ⟨_, W.eG, (fun _ z => by cases z), (fun _ _ z => by cases z)⟩
    · rcases List.mem_append.mp hz with hz | hz
      · obtain ⟨x, hx, rfl⟩ := List.mem_map.mp hz
        exact ⟨_, W.rw x hx, (fun _ z => by cases z), (fun _ _ z => by cases z)⟩
      · obtain ⟨x, hx, rfl⟩ := List.mem_map.mp hz
        exact ⟨_, (W.ca x hx).1, (fun _ z => by cases z), (fun _ _ z => by cases z)⟩
  · rcases List.mem_cons.mp hz with rfl | hz
    · exact ⟨_, W.eO, (fun _ z => by cases z), (fun _ _ z => by cases z)⟩
    · obtain ⟨x, hx, rfl⟩ := List.mem_map.mp hz
      exact ⟨_, (W.ca x hx).2, (fun _ z => by cases z), (fun _ _ z => by cases z)⟩
theorem Mo.noTups {K : PySem.W.Frag} {H : Hp} {B : MAd} {M : MO} (W : Mo K H B M) : My.noTups H (B.L M) := fun x hx xs => by
  obtain ⟨o, ho, a, b⟩ := W.there (List.mem_append_left _ hx)
  exact ⟨fun z => a xs (Option.some.inj (ho.symm.trans z)), fun u z => b u xs (Option.some.inj (ho.symm.trans z))⟩
theorem mo_top {B : MAd} {M : MO} : B.m ∈ B.L M ∧ B.R ∈ B.L M ∧ B.C ∈ B.L M ∧ B.G ∈ B.L M := by
  unfold MAd.L
  simp
theorem mo_row {B : MAd} {M : MO} {x : MRow} (h : x ∈ M.rows) : x.ad ∈ B.L M := List.mem_append_right _ (List.mem_append_left _ (List.mem_map.mpr ⟨x, h, rfl⟩))
theorem mo_ca {B : MAd} {M : MO} {x : MCa} (h : x ∈ M.cas) : x.ad ∈ B.L M := List.mem_append_right _ (List.mem_append_right _ (List.mem_map.mpr ⟨x, h, rfl⟩))
theorem mo_oa {M : MO} : M.oa ∈ M.I := .head _
theorem mo_na {M : MO} {x : MCa} (h : x ∈ M.cas) : x.na ∈ M.I := .tail _ (List.mem_map.mpr ⟨x, h, rfl⟩)
/-- what is changed lies elsewhere -/
theorem Mo.frame {K : PySem.W.Frag} {H H' : Hp} {B : MAd} {M : MO} {L : List Addr} (W : Mo K H B M) (nt : My.noTups H L) (b : ButM L H H') (dj : ∀ x ∈ B.L M ++ M.I, x ∉ L) : Mo K H' B M := by
  have g : ∀ {x : Addr} {o : HO}, x ∈ B.L M → H x = some o → H' x = some o := fun {x o} hx h => b x o (dj x (List.mem_append_left _ hx)) h
  have gI : ∀ {x : Addr} {o : HO}, x ∈ M.I → H x = some o → H' x = some o := fun {x o} hx h => b x o (dj x (List.mem_append_right _ hx)) h
  obtain ⟨t1, t2, t3, t4⟩ := mo_top (B := B) (M := M)
  exact ⟨g t1 W.em, g t2 W.eR, g t3 W.eC, g t4 W.eG, gI mo_oa W.eO, fun x hx => g (mo_row hx) (W.rw x hx),
    fun x hx => ⟨dp_butM nt b (tup_noL (W.dv x hx).2) (W.dv x hx).1, (W.dv x hx).2⟩, fun x hx => ⟨g (mo_ca hx) (W.ca x hx).1, gI (mo_na hx) (W.ca x hx).2⟩, W.nd, W.di⟩
structure MoNe (B : MAd) : Prop where
  mR : B.m ≠ B.R
  mC : B.m ≠ B.C
  mG : B.m ≠ B.G
  RC : B.R ≠ B.C
  RG : B.R ≠ B.G
  CG : B.C ≠ B.G
theorem Mo.ne {K : PySem.W.Frag} {H : Hp} {B : MAd} {M : MO} (W : Mo K H B M) : MoNe B := by
  have n := W.nd
  unfold MAd.L at n
  have n := (List.nodup_append.mp n).1
  simp only [List.nodup_cons, List.mem_cons, List.not_mem_nil, or_false, not_or] at n
  obtain ⟨⟨a1, a2, a3⟩, ⟨b1, b2⟩, c1, _⟩ := n
  exact ⟨a1, a2, a3, b1, b2, c1⟩
theorem Mo.row_ne {K : PySem.W.Frag} {H : Hp} {B : MAd} {M : MO} (W : Mo K H B M) {x : MRow} (hx : x ∈ M.rows) : x.ad ≠ B.m ∧ x.ad ≠ B.R ∧ x.ad ≠ B.C ∧ x.ad ≠ B.G := by
  have n := W.nd
  unfold MAd.L at n
  have n := (List.nodup_append.mp n).2.2
  have k := fun z hz => n z hz x.ad (List.mem_append_left _ (List.mem_map.mpr ⟨x, hx, rfl⟩))
  exact ⟨(k _ (by simp)).symm, (k _ (by simp)).symm, (k _ (by simp)).symm, (k _ (by simp)).symm⟩
theorem Mo.ca_ne {K : PySem.W.Frag} {H : Hp} {B : MAd} {M : MO} (W : Mo K H B M) {x : MCa} (hx : x ∈ M.cas) : x.ad ≠ B.m ∧ x.ad ≠ B.R ∧ x.ad ≠ B.C ∧ x.ad ≠ B.G := by
  have n := W.nd
  unfold MAd.L at n
  have n := (List.nodup_append.mp n).2.2
  have k := fun z hz => n z hz x.ad (List.mem_append_right _ (List.mem_map.mpr ⟨x, hx, rfl⟩))
  exact ⟨(k _ (by simp)).symm, (k _ (by simp)).symm, (k _ (by simp)).symm, (k _ (by simp)).symm⟩
theorem Mo.row_ca {K : PySem.W.Frag} {H : Hp} {B : MAd} {M : MO} (W : Mo K H B M) {x : MRow} {y : MCa} (hx : x ∈ M.rows) (hy : y ∈ M.cas) : x.ad ≠ y.ad := by
  have n := W.nd
  unfold MAd.L at n
  exact (List.nodup_append.mp (List.nodup_append.mp n).2.1).2.2 _ (List.mem_map.mpr ⟨x, hx, rfl⟩) _ (List.mem_map.mpr ⟨y, hy, rfl⟩)
theorem Mo.row_inj {K : PySem.W.Frag} {H : Hp} {B : MAd} {M : MO} (W : Mo K H B M) {x y : MRow} (hx : x ∈ M.rows) (hy : y ∈ M.rows) (e : x.ad = y.ad) : x = y := by
  have n := W.nd
  unfold MAd.L at n
  exact nodup_inj (List.nodup_append.mp (List.nodup_append.mp n).2.1).1 hx hy e
theorem Mo.ca_inj {K : PySem.W.Frag} {H : Hp} {B : MAd} {M : MO} (W : Mo K H B M) {x y : MCa} (hx : x ∈ M.cas) (hy : y ∈ M.cas) (e : x.ad = y.ad) : x = y := by
  have n := W.nd
  unfold MAd.L at n
  exact nodup_inj (List.nodup_append.mp (List.nodup_append.mp n).2.1).2.1 hx hy e
/-- a dict's own entry -/
theorem Mo.setG {K : PySem.W.Frag} {H : Hp} {B : MAd} {M : MO} (W : Mo K H B M) (g : Nat) : Mo K (upd H B.m (.dK (moD B { M with g := g }))) B { M with g := g } := by
  have n := W.ne
  obtain ⟨t1, t2, t3, t4⟩ := mo_top (B := B) (M := M)
  have nI : ∀ x ∈ M.I, x ≠ B.m := fun x hx z => W.di x hx (by rw [z]; exact t1)
  have nt : My.noTups H [B.m] := fun x hx => W.noTups x (by rw [List.mem_singleton.mp hx]; exact t1)
  refine ⟨upd_same, ?_, ?_, ?_, ?_, fun x hx => ?_, fun x hx => ⟨dp_butM nt (ButM.refl.put (List.mem_singleton.mpr rfl)) (tup_noL (W.dv x hx).2) (W.dv x hx).1, (W.dv x hx).2⟩, fun x hx => ⟨?_, ?_⟩, W.nd, W.di⟩
  · rw [upd_ne n.mR.symm]; exact W.eR
  · rw [upd_ne n.mC.symm]; exact W.eC
  · rw [upd_ne n.mG.symm]; exact W.eG
  · rw [upd_ne (nI _ mo_oa)]; exact W.eO
  · rw [upd_ne (W.row_ne hx).1]; exact W.rw x hx
  · rw [upd_ne (W.ca_ne hx).1]; exact (W.ca x hx).1
  · rw [upd_ne (nI _ (mo_na hx))]; exact (W.ca x hx).2
theorem Mo.setO {K : PySem.W.Frag} {H : Hp} {B : MAd} {M : MO} (W : Mo K H B M) {o : Addr} {l : List Nat} (eo : H o = some (.lst (intN l))) (no : o ∉ B.L M) : Mo K (upd H B.m (.dK (moD B { M with oa := o, ord := l }))) B { M with oa := o, ord := l } := by
  have n := W.ne
  obtain ⟨t1, t2, t3, t4⟩ := mo_top (B := B) (M := M)
  have nI : ∀ x ∈ M.I, x ≠ B.m := fun x hx z => W.di x hx (by rw [z]; exact t1)
  have nt : My.noTups H [B.m] := fun x hx => W.noTups x (by rw [List.mem_singleton.mp hx]; exact t1)
  refine ⟨upd_same, ?_, ?_, ?_, ?_, fun x hx => ?_, fun x hx => ⟨dp_butM nt (ButM.refl.put (List.mem_singleton.mpr rfl)) (tup_noL (W.dv x hx).2) (W.dv x hx).1, (W.dv x hx).2⟩, fun x hx => ⟨?_, ?_⟩, W.nd, fun x hx => ?_⟩
  · rw [upd_ne n.mR.symm]; exact W.eR
  · rw [upd_ne n.mC.symm]; exact W.eC
  · rw [upd_ne n.mG.symm]; exact W.eG
  · rw [upd_ne (show o ≠ B.m from fun z => no (by rw [z]; exact t1))]; exact eo
  · rw [upd_ne (W.row_ne hx).1]; exact W.rw x hx
  · rw [upd_ne (W.ca_ne hx).1]; exact (W.ca x hx).1
  · rw [upd_ne (nI _ (mo_na hx))]; exact (W.ca x hx).2
  · rcases List.mem_cons.mp hx with rfl | hx
    · exact no
    · exact W.di x (.tail _ hx)
theorem Mo.pushRow {K : PySem.W.Frag} {H0 H : Hp} {B : MAd} {M : MO} (W0 : Mo K H0 B M) (s : Same H0 H) (x : MRow) (na : H0 x.ad = Option.none) (ea : H x.ad = some (rowO x)) (dx : Dp K H x.v (.tuple x.ds)) (nx : ∀ d ∈ x.ds, NdA d) :
    Mo K (upd H B.R (.lst ((M.rows ++ [x]).map fun y => V.ref y.ad))) B { M with rows := M.rows ++ [x] } := by
  have W := W0.frame (L := []) (fun _ h => nomatch h) (ButM.of s) fun _ _ h => nomatch h
  have n := W.ne
  obtain ⟨t1, t2, t3, t4⟩ := mo_top (B := B) (M := M)
  have xL : x.ad ∉ B.L M := fun z => by
    obtain ⟨o, ho, _⟩ := W0.there (List.mem_append_left _ z)
    rw [na] at ho
    cases ho
  have xI : x.ad ∉ M.I := fun z => by
    obtain ⟨o, ho, _⟩ := W0.there (List.mem_append_right _ z)
    rw [na] at ho
    cases ho
  have nI : ∀ z ∈ M.I, z ≠ B.R := fun z hz c => W.di z hz (by rw [c]; exact t2)
  have nt : My.noTups H [B.R] := fun z hz => W.noTups z (by rw [List.mem_singleton.mp hz]; exact t2)
  have bp : ButM [B.R] H (upd H B.R (.lst ((M.rows ++ [x]).map fun y => V.ref y.ad))) := ButM.refl.put (List.mem_singleton.mpr rfl)
  have eL : (B.L { M with rows := M.rows ++ [x] }).Perm (x.ad :: B.L M) := by
    unfold MAd.L
    rw [List.map_append, List.append_assoc]
    exact (List.Perm.append_left _ List.perm_middle).trans List.perm_middle
  refine ⟨?_, upd_same, ?_, ?_, ?_, fun y hy => ?_, fun y hy => ?_, fun y hy => ⟨?_, ?_⟩, eL.nodup_iff.mpr (List.nodup_cons.mpr ⟨xL, W.nd⟩), fun y hy z => ?_⟩
  · rw [upd_ne n.mR]; exact W.em
  · rw [upd_ne n.RC.symm]; exact W.eC
  · rw [upd_ne n.RG.symm]; exact W.eG
  · rw [upd_ne (nI _ mo_oa)]; exact W.eO
  · rcases List.mem_append.mp hy with hy | hy
    · rw [upd_ne (W.row_ne hy).2.1]; exact W.rw y hy
    · rw [List.mem_singleton.mp hy, upd_ne (fun z => xL (by rw [z]; exact t2))]; exact ea
  · rcases List.mem_append.mp hy with hy | hy
    · exact ⟨dp_butM nt bp (tup_noL (W.dv y hy).2) (W.dv y hy).1, (W.dv y hy).2⟩
    · rw [List.mem_singleton.mp hy]; exact ⟨dp_butM nt bp (tup_noL nx) dx, nx⟩
  · rw [upd_ne (W.ca_ne hy).2.1]; exact (W.ca y hy).1
  · rw [upd_ne (nI _ (mo_na hy))]; exact (W.ca y hy).2
  · rcases List.mem_cons.mp (eL.mem_iff.mp z) with c | c
    · rw [c] at hy; exact xI hy
    · exact W.di y hy c
def setDth (l : List MRow) (a : Addr) (d : Nat) : List MRow := l.map fun x => if x.ad = a then { x with dth := some d } else x
theorem setDth_ad (l : List MRow) (a : Addr) (d : Nat) : (setDth l a d).map (·.ad) = l.map (·.ad) := by
  unfold setDth
  rw [List.map_map]
  refine List.map_congr_left fun x _ => ?_
  show (if x.ad = a then { x with dth := some d } else x).ad = x.ad
  split <;> rfl
theorem setDth_ref (l : List MRow) (a : Addr) (d : Nat) : ((setDth l a d).map fun y => V.ref y.ad) = l.map fun y => V.ref y.ad := by
  have := congrArg (List.map V.ref) (setDth_ad l a d)
  rw [List.map_map, List.map_map] at this
  exact this
theorem Mo.dthL {K : PySem.W.Frag} {H : Hp} {B : MAd} {M : MO} (W : Mo K H B M) {x : MRow} (hx : x ∈ M.rows) (d : Nat) : Mo K (upd H x.ad (rowO { x with dth := some d })) B { M with rows := setDth M.rows x.ad d } := by
  obtain ⟨n1, n2, n3, n4⟩ := W.row_ne hx
  have m := mo_row (B := B) hx
  have nI : ∀ z ∈ M.I, z ≠ x.ad := fun z hz c => W.di z hz (by rw [c]; exact m)
  have nt : My.noTups H [x.ad] := fun z hz => W.noTups z (by rw [List.mem_singleton.mp hz]; exact m)
  have bp : ButM [x.ad] H (upd H x.ad (rowO { x with dth := some d })) := ButM.refl.put (List.mem_singleton.mpr rfl)
  have eL : B.L { M with rows := setDth M.rows x.ad d } = B.L M := by unfold MAd.L; rw [setDth_ad]
  refine ⟨?_, ?_, ?_, ?_, ?_, fun y hy => ?_, fun y hy => ?_, fun y hy => ⟨?_, ?_⟩, by rw [eL]; exact W.nd, by rw [eL]; exact W.di⟩
  · rw [upd_ne n1.symm]; exact W.em
  · rw [upd_ne n2.symm, setDth_ref]; exact W.eR
  · rw [upd_ne n3.symm]; exact W.eC
  · rw [upd_ne n4.symm]; exact W.eG
  · rw [upd_ne (nI _ mo_oa)]; exact W.eO
  · have hy : y ∈ setDth M.rows x.ad d := hy
    unfold setDth at hy
    obtain ⟨z, hz, rfl⟩ := List.mem_map.mp hy
    by_cases c : z.ad = x.ad
    · rw [if_pos c, W.row_inj hz hx c]
      exact upd_same
    · rw [if_neg c, upd_ne c]
      exact W.rw z hz
  · have hy : y ∈ setDth M.rows x.ad d := hy
    unfold setDth at hy
    obtain ⟨z, hz, rfl⟩ := List.mem_map.mp hy
    have h1 := W.dv z hz
    have h2 : Dp K (upd H x.ad (rowO { x with dth := some d })) z.v (.tuple z.ds) := dp_butM nt bp (tup_noL h1.2) h1.1
    by_cases c : z.ad = x.ad
    · rw [if_pos c]; exact ⟨h2, h1.2⟩
    · rw [if_neg c]; exact ⟨h2, h1.2⟩
  · rw [upd_ne (W.row_ca hx hy).symm]; exact (W.ca y hy).1
  · rw [upd_ne (nI _ (mo_na hy))]; exact (W.ca y hy).2
theorem Mo.pushCa {K : PySem.W.Frag} {H0 H : Hp} {B : MAd} {M : MO} (W0 : Mo K H0 B M) (s : Same H0 H) (x : MCa) (na : H0 x.ad = Option.none) (nn : H0 x.na = Option.none) (ne : x.na ≠ x.ad) (ea : H x.ad = some (mcaO x)) (en : H x.na = some (.lst (intN x.ns))) :
    Mo K (upd H B.C (.lst ((M.cas ++ [x]).map fun y => V.ref y.ad))) B { M with cas := M.cas ++ [x] } := by
  have W := W0.frame (L := []) (fun _ h => nomatch h) (ButM.of s) fun _ _ h => nomatch h
  have n := W.ne
  obtain ⟨t1, t2, t3, t4⟩ := mo_top (B := B) (M := M)
  have fr : ∀ {z : Addr}, H0 z = Option.none → z ∉ B.L M ++ M.I := fun {z} hz c => by
    obtain ⟨o, ho, _⟩ := W0.there c
    rw [hz] at ho
    cases ho
  have fr2 : ∀ {z : Addr}, H0 z = Option.none → z ∉ B.L M ∧ z ∉ M.I := fun {z} hz => ⟨fun c => fr hz (List.mem_append_left _ c), fun c => fr hz (List.mem_append_right _ c)⟩
  obtain ⟨xL, xI⟩ := fr2 na
  obtain ⟨yL, yI⟩ := fr2 nn
  have nI : ∀ z ∈ M.I, z ≠ B.C := fun z hz c => W.di z hz (by rw [c]; exact t3)
  have nt : My.noTups H [B.C] := fun z hz => W.noTups z (by rw [List.mem_singleton.mp hz]; exact t3)
  have bp : ButM [B.C] H (upd H B.C (.lst ((M.cas ++ [x]).map fun y => V.ref y.ad))) := ButM.refl.put (List.mem_singleton.mpr rfl)
  have eL : (B.L { M with cas := M.cas ++ [x] }).Perm (x.ad :: B.L M) := by
    unfold MAd.L
    rw [List.map_append, ← List.append_assoc (M.rows.map _), ← List.append_assoc [B.m, B.R, B.C, B.G]]
    exact List.perm_append_singleton _ _
  refine ⟨?_, ?_, upd_same, ?_, ?_, fun y hy => ?_, fun y hy => ⟨dp_butM nt bp (tup_noL (W.dv y hy).2) (W.dv y hy).1, (W.dv y hy).2⟩, fun y hy => ?_, eL.nodup_iff.mpr (List.nodup_cons.mpr ⟨xL, W.nd⟩), fun y hy z => ?_⟩
  · rw [upd_ne n.mC]; exact W.em
  · rw [upd_ne n.RC]; exact W.eR
  · rw [upd_ne n.CG.symm]; exact W.eG
  · rw [upd_ne (nI _ mo_oa)]; exact W.eO
  · rw [upd_ne (W.row_ne hy).2.2.1]; exact W.rw y hy
  · rcases List.mem_append.mp hy with hy | hy
    · refine ⟨?_, ?_⟩
      · rw [upd_ne (W.ca_ne hy).2.2.1]; exact (W.ca y hy).1
      · rw [upd_ne (nI _ (mo_na hy))]; exact (W.ca y hy).2
    · rw [List.mem_singleton.mp hy]
      refine ⟨?_, ?_⟩
      · rw [upd_ne (fun z => xL (by rw [z]; exact t3))]; exact ea
      · rw [upd_ne (fun z => yL (by rw [z]; exact t3))]; exact en
  · have hyI : y ∈ M.I ∨ y = x.na := by
      rcases List.mem_cons.mp hy with h | h
      · exact .inl (by rw [h]; exact mo_oa)
      · rw [List.map_append] at h
        rcases List.mem_append.mp h with h | h
        · exact .inl (.tail _ h)
        · exact .inr (List.mem_singleton.mp h)
    rcases List.mem_cons.mp (eL.mem_iff.mp z) with c | c
    · rcases hyI with h | h
      · rw [c] at h; exact xI h
      · exact ne (h.symm.trans c)
    · rcases hyI with h | h
      · exact W.di y h c
      · rw [h] at c; exact yL c
def setMc (l : List MCa) (a : Addr) (f : MCa → MCa) : List MCa := l.map fun x => if x.ad = a then f x else x
theorem setMc_ad (l : List MCa) (a : Addr) (f : MCa → MCa) (hf : ∀ x, (f x).ad = x.ad) : (setMc l a f).map (·.ad) = l.map (·.ad) := by
  unfold setMc
  rw [List.map_map]
  refine List.map_congr_left fun x _ => ?_
  show (if x.ad = a then f x else x).ad = x.ad
  split
  · exact hf x
  · rfl
theorem Mo.mcL {K : PySem.W.Frag} {H : Hp} {B : MAd} {M : MO} (W : Mo K H B M) {x : MCa} (hx : x ∈ M.cas) (f : MCa → MCa) (hf : ∀ x, (f x).ad = x.ad) (en : H (f x).na = some (.lst (intN (f x).ns))) (nL : (f x).na ∉ B.L M) :
    Mo K (upd H x.ad (mcaO (f x))) B { M with cas := setMc M.cas x.ad f } := by
  obtain ⟨n1, n2, n3, n4⟩ := W.ca_ne hx
  have m := mo_ca (B := B) hx
  have nI : ∀ z ∈ M.I, z ≠ x.ad := fun z hz c => W.di z hz (by rw [c]; exact m)
  have nt : My.noTups H [x.ad] := fun z hz => W.noTups z (by rw [List.mem_singleton.mp hz]; exact m)
  have bp : ButM [x.ad] H (upd H x.ad (mcaO (f x))) := ButM.refl.put (List.mem_singleton.mpr rfl)
  have eL : B.L { M with cas := setMc M.cas x.ad f } = B.L M := by unfold MAd.L; rw [setMc_ad _ _ _ hf]
  have eR : ((setMc M.cas x.ad f).map fun y => V.ref y.ad) = M.cas.map fun y => V.ref y.ad := by
    have := congrArg (List.map V.ref) (setMc_ad M.cas x.ad f hf)
    rw [List.map_map, List.map_map] at this
    exact this
  refine ⟨?_, ?_, ?_, ?_, ?_, fun y hy => ?_, fun y hy => ⟨dp_butM nt bp (tup_noL (W.dv y hy).2) (W.dv y hy).1, (W.dv y hy).2⟩, fun y hy => ?_, by rw [eL]; exact W.nd, fun y hy => ?_⟩
  · rw [upd_ne n1.symm]; exact W.em
  · rw [upd_ne n2.symm]; exact W.eR
  · rw [upd_ne n3.symm, eR]; exact W.eC
  · rw [upd_ne n4.symm]; exact W.eG
  · rw [upd_ne (nI _ mo_oa)]; exact W.eO
  · rw [upd_ne (W.row_ca hy hx)]; exact W.rw y hy
  · have hy : y ∈ setMc M.cas x.ad f := hy
    unfold setMc at hy
    obtain ⟨z, hz, rfl⟩ := List.mem_map.mp hy
    by_cases c : z.ad = x.ad
    · rw [if_pos c, W.ca_inj hz hx c, hf]
      refine ⟨upd_same, ?_⟩
      rw [upd_ne (fun z => nL (by rw [z]; exact m))]
      exact en
    · rw [if_neg c]
      refine ⟨?_, ?_⟩
      · rw [upd_ne c]; exact (W.ca z hz).1
      · rw [upd_ne (nI _ (mo_na hz))]; exact (W.ca z hz).2
  · rw [eL]
    rcases List.mem_cons.mp hy with h | h
    · rw [h]; exact W.di _ mo_oa
    · obtain ⟨z, hz, rfl⟩ := List.mem_map.mp h
      have hz : z ∈ setMc M.cas x.ad f := hz
      unfold setMc at hz
      obtain ⟨w, hw, rfl⟩ := List.mem_map.mp hz
      by_cases c : w.ad = x.ad
      · rw [if_pos c, W.ca_inj hw hx c]; exact nL
      · rw [if_neg c]; exact W.di _ (mo_na hw)
theorem Mo.keep {K : PySem.W.Frag} {H H' : Hp} {B : MAd} {M : MO} (W : Mo K H B M) (s : Same H H') : Mo K H' B M := W.frame (L := []) (fun _ h => nomatch h) (ButM.of s) fun _ _ h => nomatch h
theorem Db.frame {K : PySem.W.Frag} {H H' : Hp} {A : DAd} {S : DB} {L : List Addr} (D : Db K H A S) (nd : ∀ x ∈ S.cl, ∀ d ∈ x.ds, NdA d) (nt : My.noTups H L) (b : ButM L H H') (dj : ∀ x ∈ A.L S, x ∉ L) : Db K H' A S := by
  have g : ∀ {x : Addr} {o : HO}, x ∈ A.L S → H x = some o → H' x = some o := fun {x o} hx h => b x o (dj x hx) h
  obtain ⟨m1, m2, m3, m4, m5, m6, m7⟩ := D.mem
  have b2 : ButM L (hidL (A.L S) H) (hidL (A.L S) H') := fun x o nx h => by
    obtain ⟨h1, h2⟩ := hidL_some h
    rw [hidL_out h1]
    exact b x o nx h2
  have nt2 : My.noTups (hidL (A.L S) H) L := fun x hx xs => ⟨fun z => (nt x hx xs).1 (hidL_some z).2, fun u z => (nt x hx xs).2 u (hidL_some z).2⟩
  refine ⟨g m1 D.ob, g m2 D.ec, g m3 D.eb, g m4 D.ed, g m5 D.er, g m6 D.eg, g m7 D.ek, fun x hx => ?_, fun x hx => g (ro_mem hx) (D.lr x hx), fun x hx => ⟨?_, g (ca_mem hx) (D.lc x hx).2⟩, D.nd⟩
  · refine dp_butM nt2 b2 ?_ (D.dc x hx)
    have := tup_noL (nd x hx)
    unfold clD
    simp only [noL, noLA] at this ⊢
    simp [this]
  · exact b2 _ _ (fun z => (nt2 _ z _).1 (D.lc x hx).1) (D.lc x hx).1
/-! the head of a clause -/
def HdIs (ds : List PyData) (nm : Str) (ar : Int) : Prop := NdA (nodeF nm ar) ∧ ((∃ r, ds = nodeF nm ar :: r ∧ PyData.eqv (nodeF nm ar) clN = false) ∨ ∃ r, ds = clN :: nodeF nm ar :: r)
def sp__law_head (K : PySem.W.Frag) : Sp := fun vs H Q _ => ∃ (x : V) (ds : List PyData) (nm : Str) (ar : Int), vs = [x] ∧ Dp K H x (.tuple ds) ∧ HdIs ds nm ar ∧ ∀ p H', Same H H' → H p = Option.none → H' p = some (.tup [.str nm, .int ar]) → Q (.ref p) H'
def sp__law_model (K : PySem.W.Frag) : Sp := fun vs H Q _ => vs = [] ∧ ∀ B M H', Same H H' → (∀ x ∈ B.L M ++ M.I, H x = Option.none) → M.g = 0 → M.rows = [] → M.ord = [] → M.cas = [] → Mo K H' B M → Q (.ref B.m) H'
def lvB (b t : Nat) (o : Option Nat) : Bool := decide (b ≤ t) && (match o with | none => true | some d => decide (t < d))
def sp__law_exists (K : PySem.W.Frag) : Sp := fun vs H Q _ => ∃ (a : Addr) (v : V) (b t : Nat) (o : Option Nat), vs = [.ref a, .int ((t : Nat) : Int)] ∧ H a = some (.lst [v, .int ((b : Nat) : Int), dthV o]) ∧ Q (.bl (lvB b t o)) H
def sp__law_stored (K : PySem.W.Frag) : Sp := fun vs H Q _ => ∃ (s l : Addr), vs = [.ref s] ∧ Stm H s l ∧ ∀ v d r nm ar H', ClaOk d r nm ar → HdIs (d :: r) nm ar → But s H H' → Stm H' s l → Dp K H' v (.tuple (d :: r)) → Q v H'
theorem kne {a b : Str} (h : (a == b) = false) : ¬ (Sum.inr a : L2.Key) = Sum.inr b := fun z => by
  have := Sum.inr.inj z
  rw [this] at h
  rw [beq_self_eq_true] at h
  cases h
section
variable {B : MAd} {M : MO}
theorem val_g : valV (moD B M) (Sum.inr "generation") = some (.int ((M.g : Nat) : Int)) := by simp [valV, moD]
theorem val_r : valV (moD B M) (Sum.inr "rows") = some (.ref B.R) := by
  simp [valV, moD, kne (a := "generation") (b := "rows") (by decide +kernel)]
theorem val_o : valV (moD B M) (Sum.inr "order") = some (.ref M.oa) := by
  simp [valV, moD, kne (a := "generation") (b := "order") (by decide +kernel), kne (a := "rows") (b := "order") (by decide +kernel)]
theorem val_c : valV (moD B M) (Sum.inr "calls") = some (.ref B.C) := by
  simp [valV, moD, kne (a := "generation") (b := "calls") (by decide +kernel), kne (a := "rows") (b := "calls") (by decide +kernel), kne (a := "order") (b := "calls") (by decide +kernel)]
theorem val_n : valV (moD B M) (Sum.inr "gone") = some (.ref B.G) := by
  simp [valV, moD, kne (a := "generation") (b := "gone") (by decide +kernel), kne (a := "rows") (b := "gone") (by decide +kernel), kne (a := "order") (b := "gone") (by decide +kernel), kne (a := "calls") (b := "gone") (by decide +kernel)]
theorem put_g (g : Nat) : putK (moD B M) (Sum.inr "generation") (.int ((g : Nat) : Int)) = moD B { M with g := g } := by
  simp [putK, moD, kne (a := "rows") (b := "generation") (by decide +kernel), kne (a := "order") (b := "generation") (by decide +kernel), kne (a := "calls") (b := "generation") (by decide +kernel), kne (a := "gone") (b := "generation") (by decide +kernel)]
theorem put_o (o : Addr) (l : List Nat) : putK (moD B M) (Sum.inr "order") (.ref o) = moD B { M with oa := o, ord := l } := by
  simp [putK, moD, kne (a := "rows") (b := "order") (by decide +kernel), kne (a := "generation") (b := "order") (by decide +kernel), kne (a := "calls") (b := "order") (by decide +kernel), kne (a := "gone") (b := "order") (by decide +kernel)]
theorem merge_mo {a b c d e : V} : mergeK [] [((Sum.inr "generation" : L2.Key), a), (Sum.inr "rows", b), (Sum.inr "order", c), (Sum.inr "calls", d), (Sum.inr "gone", e)] = [((Sum.inr "generation" : L2.Key), a), (Sum.inr "rows", b), (Sum.inr "order", c), (Sum.inr "calls", d), (Sum.inr "gone", e)] := by
  simp [mergeK, putK, kne (a := "generation") (b := "rows") (by decide +kernel), kne (a := "generation") (b := "order") (by decide +kernel), kne (a := "rows") (b := "order") (by decide +kernel), kne (a := "generation") (b := "calls") (by decide +kernel), kne (a := "rows") (b := "calls") (by decide +kernel), kne (a := "order") (b := "calls") (by decide +kernel),
    kne (a := "generation") (b := "gone") (by decide +kernel), kne (a := "rows") (b := "gone") (by decide +kernel), kne (a := "order") (b := "gone") (by decide +kernel), kne (a := "calls") (b := "gone") (by decide +kernel)]
end
/-! ### what the model does -/
def MO.add (M : MO) (nm : Str) (ar : Int) (ds : List PyData) (a : Addr) (v : V) (o : Addr) : MO := { M with g := M.g + 1, rows := M.rows ++ [⟨a, v, ds, nm, ar, M.g + 1, none⟩], oa := o, ord := M.ord ++ [M.rows.length] }
def MO.canErase (M : MO) (n : Nat) : Bool := match M.rows[n]? with
  | some x => x.dth.isNone
  | none => false
def MO.erase (M : MO) (n : Nat) : MO := match M.rows[n]? with
  | some x => { M with g := M.g + 1, rows := setDth M.rows x.ad (M.g + 1) }
  | none => M
def MRow.live (x : MRow) (t : Nat) : Bool := lvB x.b t x.dth
def MO.sel (M : MO) (nm : Str) (ar : Int) (n : Nat) : Bool := match M.rows[n]? with
  | some x => decide (x.nm = nm ∧ x.ar = ar) && x.live M.g
  | none => false
def MO.nums (M : MO) (nm : Str) (ar : Int) : List Nat := M.ord.filter (M.sel nm ar)
def MO.dsOf (M : MO) (n : Nat) : List PyData := ((M.rows[n]?).map (·.ds)).getD []
def MO.pairOf (M : MO) (n : Nat) : PyData := .tuple [.int ((n : Nat) : Int), .tuple (M.dsOf n)]
def MO.look (M : MO) (nm : Str) (ar : Int) : List PyData := (M.nums nm ar).map M.pairOf
structure MOk (M : MO) : Prop where
  ord : ∀ n ∈ M.ord, n < M.rows.length
  hd : ∀ x ∈ M.rows, HdIs x.ds x.nm x.ar
  so : M.ord.length ≤ 1000
  sr : M.rows.length ≤ 1000
  sc : M.cas.length ≤ 1000
  cn : ∀ c ∈ M.cas, ∀ n ∈ c.ns, n < M.rows.length
  cl : ∀ c ∈ M.cas, c.ns.length ≤ 1000
theorem ren_one (f : Int) (ds : List PyData) : renT f [ds] = [renM f ds] := by
  have h := renT_flat f [ds]
  have e : [ds].flatten = ds := by simp
  rw [e] at h
  rw [h]
  have l := renT_len f [ds]
  cases c : renT f [ds] with
  | nil => rw [c] at l; cases l
  | cons a r =>
    rw [c] at l
    cases r with
    | nil => simp
    | cons b r => simp at l
def sp__law_add (K : PySem.W.Frag) : Sp := fun vs H Q _ => ∃ (B : MAd) (M : MO) (x : V) (ds : List PyData) (nm : Str) (ar : Int), vs = [.ref B.m, x, .bl false] ∧ Mo K H B M ∧ MOk M ∧ Dp K H x (.tuple ds) ∧ (∀ d ∈ ds, NdA d) ∧ ds.length ≤ 200 ∧
  ∀ a v o H', H a = Option.none → H o = Option.none → ButM (B.L M) H H' → Mo K H' B (M.add nm ar (renM 0 ds) a v o) → Q (.int (M.rows.length : Nat)) H'
def sp__law_erase (K : PySem.W.Frag) : Sp := fun vs H Q _ => ∃ (B : MAd) (M : MO) (n : Nat), vs = [.ref B.m, .int (n : Nat)] ∧ Mo K H B M ∧ (M.canErase n = false → Q (.bl false) H) ∧ (M.canErase n = true → ∀ H', ButM (B.L M) H H' → Mo K H' B (M.erase n) → Q (.bl true) H')
def sp__law_clauses (K : PySem.W.Frag) : Sp := fun vs H Q _ => ∃ (B : MAd) (M : MO) (nm : Str) (ar : Int), vs = [.ref B.m, .str nm, .int ar, .int (M.g : Nat)] ∧ Mo K H B M ∧ MOk M ∧ okName nm = true ∧ 0 ≤ ar ∧ ar ≤ 8 ∧
  ∀ r zs H', Same H H' → H r = Option.none → H' r = some (.lst zs) → DpAll K H' zs (M.look nm ar) → Q (.ref r) H'
def sp__law_open (K : PySem.W.Frag) : Sp := fun vs H Q _ => ∃ (B : MAd) (M : MO) (nm : Str) (ar : Int), vs = [.ref B.m, .str nm, .int ar, .bl false] ∧ Mo K H B M ∧ MOk M ∧ okName nm = true ∧ 0 ≤ ar ∧ ar ≤ 8 ∧
  ∀ a na H', H a = Option.none → H na = Option.none → ButM (B.L M) H H' → Mo K H' B { M with cas := M.cas ++ [⟨a, na, M.nums nm ar, true⟩] } → Q (.int (M.cas.length : Nat)) H'
def sp__law_next (K : PySem.W.Frag) : Sp := fun vs H Q _ => ∃ (B : MAd) (M : MO) (n : Nat) (c : MCa), vs = [.ref B.m, .int (n : Nat)] ∧ Mo K H B M ∧ MOk M ∧ M.cas[n]? = some c ∧ c.op = true ∧
  (c.ns = [] → ∀ H', ButM (B.L M) H H' → Mo K H' B { M with cas := setMc M.cas c.ad fun x => { x with op := false } } → Q .non H') ∧
  ∀ m r, c.ns = m :: r → ∀ v na H', H na = Option.none → ButM (B.L M) H H' → Mo K H' B { M with cas := setMc M.cas c.ad fun x => { x with ns := r, na := na } } → Dp K H' v (M.pairOf m) → Q v H'
theorem freshM {L : List Addr} {H H' : Hp} {a : Addr} (b : ButM L H H') (nL : a ∉ L) (n : H' a = Option.none) : H a = Option.none := by
  cases e : H a with
  | none => rfl
  | some o =>
    have := b a o nL e
    rw [n] at this
    cases this
theorem Mo.out {K : PySem.W.Frag} {H : Hp} {B : MAd} {M : MO} (W : Mo K H B M) {a : Addr} (n : H a = Option.none) : a ∉ B.L M ∧ a ∉ M.I := by
  refine ⟨fun z => ?_, fun z => ?_⟩
  · obtain ⟨o, ho, _⟩ := W.there (List.mem_append_left _ z)
    rw [n] at ho
    cases ho
  · obtain ⟨o, ho, _⟩ := W.there (List.mem_append_right _ z)
    rw [n] at ho
    cases ho
theorem hdi_eqv {nm nm' : Str} {ar ar' : Int} : PyData.eqv (.tuple [.str nm, .int ar]) (.tuple [.str nm', .int ar']) = decide (nm = nm' ∧ ar = ar') := by
  by_cases h1 : nm = nm'
  · by_cases h2 : ar = ar'
    · simp [PyData.eqv, PyData.eqvAll, h1, h2]
    · simp [PyData.eqv, PyData.eqvAll, h1, h2]
  · simp [PyData.eqv, PyData.eqvAll, h1]
theorem nda_noLA3 {t : List PyData} (h : ∀ d ∈ t, NdA d) : noLA t = true := by
  have := tup_noL h
  simpa [noL] using this
theorem MO.pair_noL {K : PySem.W.Frag} {H : Hp} {B : MAd} {M : MO} (W : Mo K H B M) (n : Nat) : noL (M.pairOf n) = true := by
  have : noLA (M.dsOf n) = true := by
    unfold MO.dsOf
    cases e : M.rows[n]? with
    | none => rfl
    | some x => exact nda_noLA3 (W.dv x (List.mem_of_getElem? e)).2
  simp [MO.pairOf, noL, noLA, this]
theorem sh_na {nm : Str} {ar : Int} (h : okName nm = true) : SeqAt.shaped (.tuple [.str nm, .int ar]) = true := by
  have e := okName_cps h
  simp [SeqAt.shaped, PyData.canLay0, PyData.canLayAll0, PyData.depth, PyData.depthAll, e]
theorem hd_name {ds : List PyData} {nm : Str} {ar : Int} (h : HdIs ds nm ar) : okName nm = true := by
  obtain ⟨⟨wd, n⟩, _⟩ := h
  cases n with
  | f x n h1 h2 h3 => exact h1
/-! ### drawn clauses -/
def nmL : List (Str × Int) := [("p", 0), ("p", 1), ("pp", 1), ("p", 2), ("p_q", 0), ("p", 3), ("p", 8)]
def pdD (p : Str × Int) : PyData := .tuple [.str p.1, .int p.2]
structure NmOk (nm : Str) (ar : Int) : Prop where
  ok : okName nm = true
  ctl : (nm, ar) ∉ CTL
  bin : (nm, ar) ∉ BIN
  ne : PyData.eqv (nodeF nm ar) clN = false
  a0 : 0 ≤ ar
  a8 : ar ≤ 8
theorem nm_ok : ∀ p ∈ nmL, NmOk p.1 p.2 := fun p hp => by
  have h : nmL.all (fun p => okName p.1 && !decide (p ∈ CTL) && !decide (p ∈ BIN) && !PyData.eqv (nodeF p.1 p.2) clN && decide (0 ≤ p.2) && decide (p.2 ≤ 8)) = true := by decide +kernel
  have := List.all_eq_true.mp h p hp
  simp only [Bool.and_eq_true, Bool.not_eq_true', decide_eq_false_iff_not, decide_eq_true_eq] at this
  obtain ⟨⟨⟨⟨⟨h1, h2⟩, h3⟩, h4⟩, h5⟩, h6⟩ := this
  exact ⟨h1, h2, h3, h4, h5, h6⟩
theorem NmOk.nd {nm : Str} {ar : Int} (h : NmOk nm ar) : NdA (nodeF nm ar) := ⟨1, .f nm ar h.ok h.a0 h.a8⟩
theorem split_eq (d : PyData) (r : List PyData) : splitM (d :: r) = if PyData.eqv d clN = true then (r.take (tk 1 r), r.drop (tk 1 r)) else (d :: r, [trueN]) := rfl
theorem cla_fact {nm : Str} {ar : Int} {r : List PyData} (h : NmOk nm ar) (nd : ∀ d ∈ r, NdA d) (l : r.length ≤ 199) : ClaOk (nodeF nm ar) r nm ar ∧ HdIs (nodeF nm ar :: r) nm ar := by
  have nd2 : ∀ e ∈ nodeF nm ar :: r, NdA e := fun e he => by
    rcases List.mem_cons.mp he with rfl | he
    · exact h.nd
    · exact nd e he
  have two : PyData.eqv (nodeF nm ar) clN = true → Cls 2 r := fun z => by rw [h.ne] at z; cases z
  have hd : ∃ tl, (splitM (nodeF nm ar :: r)).1 = nodeF nm ar :: tl := ⟨r, by rw [split_eq, h.ne, if_neg Bool.false_ne_true]⟩
  exact ⟨⟨nd2, two, by rw [List.length_cons]; omega, hd, h.ctl, h.bin, h.ok⟩, h.nd, .inl ⟨r, rfl, h.ne⟩⟩
theorem cla_rule {nm : Str} {ar : Int} {r : List PyData} (h : NmOk nm ar) (nd : ∀ d ∈ r, NdA d) (c : Cls 2 (nodeF nm ar :: r)) (l : r.length ≤ 198) : ClaOk clN (nodeF nm ar :: r) nm ar ∧ HdIs (clN :: nodeF nm ar :: r) nm ar := by
  have nd2 : ∀ e ∈ clN :: nodeF nm ar :: r, NdA e := fun e he => by
    rcases List.mem_cons.mp he with rfl | he
    · exact cl_nd
    · rcases List.mem_cons.mp he with rfl | he
      · exact h.nd
      · exact nd e he
  have hd : ∃ tl, (splitM (clN :: nodeF nm ar :: r)).1 = nodeF nm ar :: tl := by
    rw [split_eq, nd_refl cl_nd, if_pos rfl, tk_cons (by decide), Nat.add_comm]
    exact ⟨_, rfl⟩
  exact ⟨⟨nd2, fun _ => c, by rw [List.length_cons, List.length_cons]; omega, hd, h.ctl, h.bin, h.ok⟩, h.nd, .inr ⟨r, rfl⟩⟩
theorem cls_same {d : PyData} (h : arN d = 1) : ∀ (n : Nat) {m : Nat} {l : List PyData}, 0 < m → Cls m l → Cls m (List.replicate n d ++ l)
  | 0, m, l, _, c => c
  | n + 1, m, l, p, c => ⟨p, by rw [h, Nat.sub_add_cancel p]; exact cls_same h n p c⟩
theorem cls_none : ∀ {l : List PyData} {m : Nat} {r : List PyData}, (∀ d ∈ l, arN d = 0) → Cls m r → Cls (m + l.length) (l ++ r)
  | [], m, r, _, c => c
  | d :: l, m, r, h, c => ⟨by rw [List.length_cons]; omega, by
    rw [h d (.head _), List.length_cons, Nat.add_zero, show m + (l.length + 1) - 1 = m + l.length by omega]
    exact cls_none (fun x hx => h x (.tail _ hx)) c⟩
theorem sN_nd1 : NdA (nodeF "s" 1) := ⟨1, .f "s" 1 (by decide +kernel) (by decide) (by decide)⟩
theorem aN_nd1 : NdA (nodeF "a" 0) := ⟨1, .f "a" 0 (by decide +kernel) (by decide) (by decide)⟩
theorem i_nd1 {n : Int} (a : 0 ≤ n) (b : n ≤ 10) : NdA (.int n) := ⟨1, .i n (by omega) (by omega)⟩
def tailL (n : Nat) : List PyData := List.replicate n (nodeF "s" 1) ++ [nodeF "a" 0, .int 3]
theorem tail_nd (n : Nat) : ∀ d ∈ tailL n, NdA d := fun d hd => by
  rcases List.mem_append.mp hd with hd | hd
  · rw [List.eq_of_mem_replicate hd]; exact sN_nd1
  · simp only [List.mem_cons, List.not_mem_nil, or_false] at hd
    rcases hd with rfl | rfl
    · exact aN_nd1
    · exact i_nd1 (by decide) (by decide)
theorem tail_len (n : Nat) : (tailL n).length = n + 2 := by unfold tailL; rw [List.length_append, List.length_replicate]; rfl
theorem p2_ok : NmOk "p" 2 := nm_ok ("p", 2) (by decide +kernel)
theorem long_ok : ClaOk (nodeF "p" 2) (tailL 197) "p" 2 ∧ HdIs (nodeF "p" 2 :: tailL 197) "p" 2 := cla_fact p2_ok (tail_nd 197) (by rw [tail_len]; decide)
theorem long2_ok : ClaOk clN (nodeF "p" 2 :: (tailL 195 ++ [trueN])) "p" 2 ∧ HdIs (clN :: nodeF "p" 2 :: (tailL 195 ++ [trueN])) "p" 2 := cla_rule p2_ok (fun d hd => by
  rcases List.mem_append.mp hd with hd | hd
  · exact tail_nd 195 d hd
  · rw [List.mem_singleton.mp hd]; exact ⟨1, .f "true" 0 (by decide +kernel) (by decide) (by decide)⟩) ⟨by decide, by
    unfold tailL
    rw [List.append_assoc]
    exact cls_same rfl 195 (by decide) ⟨by decide, by decide, by decide, rfl⟩⟩ (by rw [List.length_append, tail_len]; decide)
def bodyL : List (List PyData) := [[vN 3], [trueN], [.int 7], [nodeF "!" 0], [nodeF "," 2, nodeF "q" 0, nodeF ";" 2, nodeF "r" 1, vN 3, nodeF "p" 0]]
theorem body_ok : ∀ b ∈ bodyL, (∀ d ∈ b, NdA d) ∧ Cls 1 b ∧ b.length ≤ 6 := fun b hb => by
  unfold bodyL at hb
  have v3 : NdA (vN 3) := ⟨4, .v 3 (by decide) (by decide)⟩
  simp only [List.mem_cons, List.not_mem_nil, or_false] at hb
  rcases hb with rfl | rfl | rfl | rfl | rfl
  · exact ⟨fun d hd => by rw [List.mem_singleton.mp hd]; exact v3, ⟨by decide, rfl⟩, by decide⟩
  · exact ⟨fun d hd => by rw [List.mem_singleton.mp hd]; exact ⟨1, .f "true" 0 (by decide +kernel) (by decide) (by decide)⟩, ⟨by decide, rfl⟩, by decide⟩
  · exact ⟨fun d hd => by rw [List.mem_singleton.mp hd]; exact i_nd1 (by decide) (by decide), ⟨by decide, rfl⟩, by decide⟩
  · exact ⟨fun d hd => by rw [List.mem_singleton.mp hd]; exact ⟨1, .f "!" 0 (by decide +kernel) (by decide) (by decide)⟩, ⟨by decide, rfl⟩, by decide⟩
  · refine ⟨fun d hd => ?_, ⟨by decide, by decide, by decide, by decide, by decide, by decide, rfl⟩, by decide⟩
    simp only [List.mem_cons, List.not_mem_nil, or_false] at hd
    rcases hd with rfl | rfl | rfl | rfl | rfl | rfl
    · exact ⟨1, .f "," 2 (by decide +kernel) (by decide) (by decide)⟩
    · exact ⟨1, .f "q" 0 (by decide +kernel) (by decide) (by decide)⟩
    · exact ⟨1, .f ";" 2 (by decide +kernel) (by decide) (by decide)⟩
    · exact ⟨1, .f "r" 1 (by decide +kernel) (by decide) (by decide)⟩
    · exact v3
    · exact ⟨1, .f "p" 0 (by decide +kernel) (by decide) (by decide)⟩
theorem Stm.nts {H : Hp} {s l : Addr} (S : Stm H s l) : noTups H [s] := fun x hx xs => by
  obtain ⟨_, _, _, _, e, _⟩ := S.ex
  rw [List.mem_singleton.mp hx, e]
  exact ⟨(fun z => by cases z), (fun u z => by cases z)⟩
theorem but_M {s : Addr} {H H' : Hp} (b : But s H H') : ButM [s] H H' := fun x o nx h => b x o (fun z => nx (List.mem_singleton.mpr z)) h
theorem dp_butS {K : PySem.W.Frag} {H H' : Hp} {s l : Addr} (S : Stm H s l) (b : But s H H') {v : V} {d : PyData} (n : noL d = true) (h : Dp K H v d) : Dp K H' v d := dp_butM S.nts (but_M b) n h
theorem rep_dp1 {K : PySem.W.Frag} {H : Hp} {v : V} {d : PyData} (h : Dp K H v d) : ∀ n : Nat, DpAll K H (List.replicate n [v]).flatten (List.replicate n d)
  | 0 => .nil
  | n + 1 => .cons h (rep_dp1 h n)
theorem dpAll_butM {K : PySem.W.Frag} {H H' : Hp} {L : List Addr} (nt : noTups H L) (b : ButM L H H') {vs : List V} {ds : List PyData} (n : noLA ds = true) (h : DpAll K H vs ds) : DpAll K H' vs ds :=
  dp_mapAll (fun c xs q => by
    rcases q with (q | ⟨u, q⟩) | q
    · exact .inl (.inl (b _ _ (fun z => (nt c z xs).1 q) q))
    · exact .inl (.inr ⟨u, b _ _ (fun z => (nt c z xs).2 u q) q⟩)
    · exact .inr q) _ _ n h
theorem nts_lst {H : Hp} {N : Addr} {ws : List V} (e : H N = some (.lst ws)) : noTups H [N] := fun x hx xs => by
  rw [List.mem_singleton.mp hx, e]
  exact ⟨(fun z => by cases z), (fun u z => by cases z)⟩
theorem rule_of {nm : Str} {ar : Int} {ds b : List PyData} (h : NmOk nm ar) (nd : ∀ d ∈ ds, NdA d ∧ arN d = 0) (l : ds.length = ar.toNat) (hb : b ∈ bodyL) : ClaOk clN (nodeF nm ar :: (ds ++ b)) nm ar ∧ HdIs (clN :: nodeF nm ar :: (ds ++ b)) nm ar := by
  obtain ⟨b1, b2, b3⟩ := body_ok b hb
  have a8 := h.a8
  refine cla_rule h (fun d hd => ?_) ⟨by decide, ?_⟩ (by rw [List.length_append]; omega)
  · rcases List.mem_append.mp hd with hd | hd
    · exact (nd d hd).1
    · exact b1 d hd
  · have e : 2 - 1 + arN (nodeF nm ar) = 1 + ds.length := by rw [l]; rfl
    rw [e]
    exact cls_none (fun d hd => (nd d hd).2) b2
/-! ### a database and its model -/
def MO.indIs (M : MO) (nm : Str) (ar : Int) (n : Nat) : Bool := match M.rows[n]? with
  | some x => decide (x.nm = nm ∧ x.ar = ar)
  | none => false
structure Rel (S : DB) (M : MO) : Prop where
  gen : S.gen = M.g
  nn : S.nn = M.rows.length
  nc : S.nc = M.cas.length
  cl : ∀ n, (S.clAt n).map (fun x => (x.nm, x.ar, x.ds)) = (M.rows[n]?).map fun x => (x.nm, x.ar, x.ds)
  bi : ∀ n, S.biAt n = (M.rows[n]?).map (·.b)
  de : ∀ n, S.deAt n = (M.rows[n]?).bind (·.dth)
  ro : ∀ nm ar, S.rowOf nm ar = M.ord.filter (M.indIs nm ar)
  bl : ∀ (n : Nat) (x : MRow), M.rows[n]? = some x → x.b ≤ M.g ∧ ∀ d, x.dth = some d → d ≤ M.g
  ca : ∀ n, (S.caAt n).map (fun c => (c.ns.reverse, c.er)) = (M.cas[n]?).bind fun c => if c.op = true then some (c.ns, false) else none
theorem find_map {α : Type} (l : List α) (f : α → α) (p : α → Bool) (h : ∀ x, p (f x) = p x) : (l.map f).find? p = (l.find? p).map f := by
  induction l with
  | nil => rfl
  | cons a r ih =>
    rw [List.map_cons, List.find?_cons, List.find?_cons, h, ih]
    cases p a <;> rfl
theorem Rel.has {S : DB} {M : MO} (R : Rel S M) (n : Nat) : S.has n = M.canErase n := by
  have h1 := R.cl n
  have h2 := R.de n
  unfold DB.has MO.canErase
  rw [h2]
  cases h : M.rows[n]? with
  | none =>
    rw [h] at h1
    cases c : S.clAt n with
    | none => rfl
    | some x => rw [c] at h1; cases h1
  | some x =>
    rw [h] at h1
    cases c : S.clAt n with
    | none => rw [c] at h1; cases h1
    | some y =>
      show (true && !x.dth.isSome) = x.dth.isNone
      cases x.dth <;> rfl
theorem Rel.dsOf {S : DB} {M : MO} (R : Rel S M) (n : Nat) : S.dsOf n = M.dsOf n := by
  have h1 := congrArg (Option.map fun t : Str × Int × List PyData => t.2.2) (R.cl n)
  rw [Option.map_map, Option.map_map] at h1
  unfold DB.dsOf MO.dsOf
  have h1 : (S.clAt n).map (·.ds) = (M.rows[n]?).map (·.ds) := h1
  rw [h1]
theorem Rel.pairOf {S : DB} {M : MO} (R : Rel S M) (n : Nat) : S.pairOf n = M.pairOf n := by
  unfold DB.pairOf MO.pairOf
  rw [R.dsOf]
theorem Rel.live {S : DB} {M : MO} (R : Rel S M) {n : Nat} {x : MRow} (h : M.rows[n]? = some x) : S.live n = x.live M.g ∧ x.live M.g = M.canErase n := by
  have h2 := R.de n
  have h3 := R.bi n
  rw [h] at h2 h3
  obtain ⟨b1, b2⟩ := R.bl n x h
  have h2 : S.deAt n = x.dth := h2
  have h3 : S.biAt n = some x.b := h3
  have eb : decide (x.b ≤ M.g) = true := decide_eq_true b1
  have ce : M.canErase n = x.dth.isNone := by unfold MO.canErase; rw [h]
  have lv : x.live M.g = x.dth.isNone := by
    unfold MRow.live lvB
    rw [eb, Bool.true_and]
    cases hd : x.dth with
    | none => rfl
    | some d =>
      have := b2 d hd
      exact decide_eq_false (show ¬ M.g < d by omega)
  have ls : S.live n = x.dth.isNone := by
    unfold DB.live
    rw [h2, h3, R.gen]
    show (decide (x.b ≤ M.g) && decide (M.g < x.dth.getD (M.g + 1))) = _
    rw [eb, Bool.true_and]
    cases hd : x.dth with
    | none => exact decide_eq_true (Nat.lt_succ_self _)
    | some d =>
      have := b2 d hd
      exact decide_eq_false (show ¬ M.g < d by omega)
  exact ⟨ls.trans lv.symm, lv.trans ce.symm⟩
theorem Rel.sel {S : DB} {M : MO} (R : Rel S M) (nm : Str) (ar : Int) (n : Nat) : M.sel nm ar n = (M.indIs nm ar n && M.canErase n) := by
  unfold MO.sel MO.indIs
  cases h : M.rows[n]? with
  | none => rfl
  | some x =>
    show (decide (x.nm = nm ∧ x.ar = ar) && x.live M.g) = (decide (x.nm = nm ∧ x.ar = ar) && M.canErase n)
    rw [(R.live h).2]
theorem Rel.nums {S : DB} {M : MO} (R : Rel S M) (nm : Str) (ar : Int) : M.nums nm ar = (S.rowOf nm ar).filter S.has := by
  unfold MO.nums
  rw [R.ro, List.filter_filter]
  congr 1
  funext n
  rw [R.sel, R.has, Bool.and_comm]
theorem Rel.look {S : DB} {M : MO} (R : Rel S M) (O : MOk M) (nm : Str) (ar : Int) : S.look nm ar = M.look nm ar := by
  unfold DB.look MO.look MO.nums
  rw [R.ro, List.filter_filter]
  have e : M.ord.filter (fun a => S.live a && M.indIs nm ar a) = M.ord.filter (M.sel nm ar) := by
    refine List.filter_congr fun n hn => ?_
    have hl := O.ord n hn
    obtain ⟨x, hx⟩ : ∃ x, M.rows[n]? = some x := ⟨_, List.getElem?_eq_getElem hl⟩
    rw [R.sel, (R.live hx).1, (R.live hx).2, Bool.and_comm]
  rw [e]
  exact List.map_congr_left fun n _ => R.pairOf n
theorem find_end {α : Type} {l : List α} {p : α → Bool} {z : α} : (l ++ [z]).find? p = match l.find? p with
    | some x => some x
    | none => if p z = true then some z else none := by
  rw [List.find?_append]
  cases l.find? p with
  | some x => rfl
  | none =>
    show ([z].find? p) = _
    rw [List.find?_cons]
    cases p z <;> rfl
theorem get_end {α : Type} {l : List α} {z : α} {n : Nat} : (l ++ [z])[n]? = if n = l.length then some z else l[n]? := by
  by_cases c : n = l.length
  · rw [if_pos c, c, List.getElem?_append_right (Nat.le_refl _), Nat.sub_self]
    rfl
  · rw [if_neg c]
    by_cases d : n < l.length
    · rw [List.getElem?_append_left d]
    · rw [List.getElem?_eq_none (by rw [List.length_append, List.length_singleton]; omega), List.getElem?_eq_none (by omega)]
theorem Rel.add {K : PySem.W.Frag} {H : Hp} {A : DAd} {S : DB} {M : MO} (R : Rel S M) (D : Db K H A S) (O : DOk S) (OM : MOk M) (nm : Str) (ar : Int) (ds : List PyData) (v v' : V) (a a' o : Addr) : Rel (S.add false nm ar ds v a) (M.add nm ar ds a' v' o) := by
  have g0 := R.gen
  have n0 := R.nn
  have nr : M.rows[S.nn]? = none := List.getElem?_eq_none (by omega)
  refine ⟨by show S.gen + 1 = M.g + 1; omega, by show S.nn + 1 = (M.rows ++ [_]).length; rw [List.length_append, n0]; rfl, R.nc, fun n => ?_, fun n => ?_, fun n => ?_, fun nm' ar' => ?_, fun n x hx => ?_, R.ca⟩
  · have h := R.cl n
    show ((S.cl ++ [(⟨S.nn, v, nm, ar, ds⟩ : DCl)]).find? fun x => decide (x.n = n)).map _ = ((M.rows ++ [_])[n]?).map _
    rw [find_end, get_end, ← n0]
    have h : (S.cl.find? fun x => decide (x.n = n)).map (fun x => (x.nm, x.ar, x.ds)) = _ := h
    by_cases c : n = S.nn
    · subst c
      rw [nr] at h
      rw [if_pos rfl]
      cases e : (S.cl.find? fun x => decide (x.n = S.nn)) with
      | some y => rw [e] at h; cases h
      | none =>
        show Option.map _ (if decide (S.nn = S.nn) = true then _ else _) = _
        rw [decide_eq_true rfl, if_pos rfl]
        rfl
    · rw [if_neg c]
      cases e : (S.cl.find? fun x => decide (x.n = n)) with
      | some y => rw [e] at h; exact h
      | none =>
        rw [e] at h
        show Option.map _ (if decide (S.nn = n) = true then _ else _) = _
        rw [decide_eq_false (fun z => c z.symm), if_neg Bool.false_ne_true]
        exact h
  · have h := R.bi n
    show ((S.bi ++ [(S.nn, S.gen + 1)]).find? fun x => decide (x.1 = n)).map (·.2) = ((M.rows ++ [_])[n]?).map _
    rw [find_end, get_end, ← n0]
    have h : (S.bi.find? fun x => decide (x.1 = n)).map (·.2) = _ := h
    by_cases c : n = S.nn
    · subst c
      rw [nr] at h
      rw [if_pos rfl]
      cases e : (S.bi.find? fun x => decide (x.1 = S.nn)) with
      | some y => rw [e] at h; cases h
      | none =>
        show Option.map _ (if decide (S.nn = S.nn) = true then _ else _) = _
        rw [decide_eq_true rfl, if_pos rfl, g0]
        rfl
    · rw [if_neg c]
      cases e : (S.bi.find? fun x => decide (x.1 = n)) with
      | some y => rw [e] at h; exact h
      | none =>
        rw [e] at h
        show Option.map _ (if decide (S.nn = n) = true then _ else _) = _
        rw [decide_eq_false (fun z => c z.symm), if_neg Bool.false_ne_true]
        exact h
  · have h := R.de n
    show S.deAt n = ((M.rows ++ [_])[n]?).bind _
    rw [get_end, ← n0]
    by_cases c : n = S.nn
    · subst c
      rw [nr] at h
      rw [if_pos rfl, h]
      rfl
    · rw [if_neg c]
      exact h
  · have h := R.ro nm' ar'
    have eo : (M.add nm ar ds a' v' o).ord.filter ((M.add nm ar ds a' v' o).indIs nm' ar') = S.rowOf nm' ar' ++ (if nm = nm' ∧ ar = ar' then [S.nn] else []) := by
      rw [h]
      show (M.ord ++ [M.rows.length]).filter _ = _
      rw [List.filter_append]
      congr 1
      · refine List.filter_congr fun n hn => ?_
        have hl := OM.ord n hn
        unfold MO.indIs
        show (match (M.rows ++ [_])[n]? with | some x => _ | none => _) = _
        rw [get_end, if_neg (by omega)]
      · rw [← n0, List.filter_cons]
        have ei : (M.add nm ar ds a' v' o).indIs nm' ar' S.nn = decide (nm = nm' ∧ ar = ar') := by
          unfold MO.indIs
          show (match (M.rows ++ [_])[S.nn]? with | some x => _ | none => _) = _
          rw [get_end, if_pos n0]
        rw [ei]
        by_cases c : nm = nm' ∧ ar = ar'
        · rw [decide_eq_true c, if_pos rfl, if_pos c]; rfl
        · rw [decide_eq_false c, if_neg Bool.false_ne_true, if_neg c]; rfl
    rw [eo]
    unfold DB.rowOf
    show ((DB.roAt { S with ro := S.rowPut false nm ar a } nm' ar').map (·.ns)).getD [] = _
    unfold DB.rowPut
    cases hr : S.roAt nm ar with
    | none =>
      show ((((S.ro ++ [(⟨nm, ar, [S.nn], a⟩ : DRow)]).find? fun x => decide (x.nm = nm' ∧ x.ar = ar'))).map (·.ns)).getD [] = _
      rw [find_end]
      by_cases c : nm = nm' ∧ ar = ar'
      · obtain ⟨rfl, rfl⟩ := c
        have hr2 : (S.ro.find? fun x => decide (x.nm = nm ∧ x.ar = ar)) = none := hr
        unfold DB.roAt
        rw [hr2]
        simp
      · rw [if_neg c, List.append_nil]
        unfold DB.roAt
        cases (S.ro.find? fun x => decide (x.nm = nm' ∧ x.ar = ar')) with
        | some y => rfl
        | none => simp [c]
    | some y =>
      have my : y ∈ S.ro := List.mem_of_find?_eq_some hr
      have ky : y.nm = nm ∧ y.ar = ar := of_decide_eq_true (show decide (y.nm = nm ∧ y.ar = ar) = true from List.find?_some (p := fun x : DRow => decide (x.nm = nm ∧ x.ar = ar)) hr)
      show (((setRow S.ro y.ad (y.ns ++ [S.nn])).find? fun x => decide (x.nm = nm' ∧ x.ar = ar')).map (·.ns)).getD [] = _
      unfold setRow
      rw [find_map _ _ _ (fun x => by by_cases c : x.ad = y.ad <;> simp [c]), Option.map_map]
      by_cases c : nm = nm' ∧ ar = ar'
      · obtain ⟨rfl, rfl⟩ := c
        have hr2 : (S.ro.find? fun x => decide (x.nm = nm ∧ x.ar = ar)) = some y := hr
        rw [if_pos ⟨rfl, rfl⟩, hr, hr2]
        show (if y.ad = y.ad then _ else y : DRow).ns = _
        rw [if_pos rfl]
        rfl
      · rw [if_neg c, List.append_nil]
        unfold DB.roAt
        cases hz : (S.ro.find? fun x => decide (x.nm = nm' ∧ x.ar = ar')) with
        | none => rfl
        | some z =>
          have mz : z ∈ S.ro := List.mem_of_find?_eq_some hz
          have kz : z.nm = nm' ∧ z.ar = ar' := of_decide_eq_true (show decide (z.nm = nm' ∧ z.ar = ar') = true from List.find?_some (p := fun x : DRow => decide (x.nm = nm' ∧ x.ar = ar')) hz)
          have ne : ¬ z.ad = y.ad := fun e => by
            have := D.ro_inj mz my e
            subst this
            exact c ⟨ky.1.symm.trans kz.1, ky.2.symm.trans kz.2⟩
          show (if z.ad = y.ad then _ else z : DRow).ns = z.ns
          rw [if_neg ne]
  · have hx : (M.rows ++ [_])[n]? = some x := hx
    rw [get_end] at hx
    show x.b ≤ M.g + 1 ∧ ∀ d, x.dth = some d → d ≤ M.g + 1
    by_cases c : n = M.rows.length
    · rw [if_pos c] at hx
      cases hx
      exact ⟨Nat.le_refl _, fun d hd => by cases hd⟩
    · rw [if_neg c] at hx
      obtain ⟨b1, b2⟩ := R.bl n x hx
      exact ⟨by omega, fun d hd => by have := b2 d hd; omega⟩
theorem get_inj {α β : Type} {f : α → β} {l : List α} (nd : (l.map f).Nodup) {i j : Nat} {a b : α} (h1 : l[i]? = some a) (h2 : l[j]? = some b) (e : f a = f b) : i = j := by
  have hi := (List.getElem?_eq_some_iff.mp h1).1
  have k : (l.map f)[i]? = (l.map f)[j]? := by
    rw [List.getElem?_map, List.getElem?_map, h1, h2]
    exact congrArg some e
  have hi2 : i < (l.map f).length := by rw [List.length_map]; exact hi
  first | exact (List.getElem?_inj hi2 nd).mp k | exact List.getElem?_inj hi2 nd k
theorem Mo.rowNd {K : PySem.W.Frag} {H : Hp} {B : MAd} {M : MO} (W : Mo K H B M) : (M.rows.map (·.ad)).Nodup ∧ (M.cas.map (·.ad)).Nodup := by
  have n := W.nd
  unfold MAd.L at n
  have k := (List.nodup_append.mp (List.nodup_append.mp n).2.1)
  exact ⟨k.1, k.2.1⟩
theorem Rel.erase {K : PySem.W.Frag} {H : Hp} {B : MAd} {S : DB} {M : MO} (R : Rel S M) (W : Mo K H B M) {n : Nat} (h : M.canErase n = true) : Rel (S.erase n) (M.erase n) := by
  have g0 := R.gen
  obtain ⟨x, hx⟩ : ∃ x, M.rows[n]? = some x := by
    unfold MO.canErase at h
    cases hx : M.rows[n]? with
    | none => rw [hx] at h; cases h
    | some x => exact ⟨x, rfl⟩
  have hd : x.dth = none := by
    have ce : M.canErase n = x.dth.isNone := by unfold MO.canErase; rw [hx]
    rw [ce] at h
    cases e : x.dth with
    | none => rfl
    | some d => rw [e] at h; cases h
  have ee : M.erase n = { M with g := M.g + 1, rows := setDth M.rows x.ad (M.g + 1) } := by unfold MO.erase; rw [hx]
  have gt : ∀ k : Nat, (setDth M.rows x.ad (M.g + 1))[k]? = if k = n then some { x with dth := some (M.g + 1) } else M.rows[k]? := fun k => by
    unfold setDth
    rw [List.getElem?_map]
    by_cases c : k = n
    · rw [if_pos c, c, hx]
      exact congrArg some (if_pos rfl)
    · rw [if_neg c]
      cases hk : M.rows[k]? with
      | none => rfl
      | some y => exact congrArg some (if_neg fun e => c (get_inj W.rowNd.1 hk hx e))
  rw [ee]
  refine ⟨by show S.gen + 1 = M.g + 1; omega, by show S.nn = (setDth _ _ _).length; unfold setDth; rw [List.length_map]; exact R.nn, R.nc, fun k => ?_, fun k => ?_, fun k => ?_, fun nm ar => ?_, fun k y hy => ?_, R.ca⟩
  · show (S.clAt k).map _ = ((setDth M.rows x.ad (M.g + 1))[k]?).map _
    rw [gt, R.cl k]
    by_cases c : k = n
    · rw [if_pos c, c, hx]; rfl
    · rw [if_neg c]
  · show S.biAt k = ((setDth M.rows x.ad (M.g + 1))[k]?).map _
    rw [gt, R.bi k]
    by_cases c : k = n
    · rw [if_pos c, c, hx]; rfl
    · rw [if_neg c]
  · show ((S.de ++ [(n, S.gen + 1)]).find? fun x => decide (x.1 = k)).map (·.2) = ((setDth M.rows x.ad (M.g + 1))[k]?).bind _
    have hk := R.de k
    have hk : (S.de.find? fun x => decide (x.1 = k)).map (·.2) = _ := hk
    rw [gt, find_end]
    by_cases c : k = n
    · subst c
      rw [hx] at hk
      have hk : (S.de.find? fun x => decide (x.1 = k)).map (·.2) = x.dth := hk
      rw [hd] at hk
      rw [if_pos rfl]
      cases e : (S.de.find? fun x => decide (x.1 = k)) with
      | some z => rw [e] at hk; cases hk
      | none => simp [g0]
    · rw [if_neg c, ← hk]
      cases e : (S.de.find? fun x => decide (x.1 = k)) with
      | some z => rfl
      | none =>
        have : ¬ n = k := fun z => c z.symm
        simp [this]
  · show S.rowOf nm ar = M.ord.filter _
    rw [R.ro]
    refine List.filter_congr fun k _ => ?_
    unfold MO.indIs
    show _ = (match (setDth M.rows x.ad (M.g + 1))[k]? with | some x => _ | none => _)
    rw [gt]
    by_cases c : k = n
    · rw [if_pos c, c, hx]
    · rw [if_neg c]
  · have hy : (setDth M.rows x.ad (M.g + 1))[k]? = some y := hy
    rw [gt] at hy
    show y.b ≤ M.g + 1 ∧ ∀ d, y.dth = some d → d ≤ M.g + 1
    by_cases c : k = n
    · rw [if_pos c] at hy
      cases hy
      obtain ⟨b1, _⟩ := R.bl n x hx
      exact ⟨Nat.le_succ_of_le b1, fun d hd => by cases hd; exact Nat.le_refl _⟩
    · rw [if_neg c] at hy
      obtain ⟨b1, b2⟩ := R.bl k y hy
      exact ⟨by omega, fun d hd => by have := b2 d hd; omega⟩
theorem Rel.opened {S : DB} {M : MO} (R : Rel S M) (O : DOk S) (nm : Str) (ar : Int) (t a a' na : Addr) : Rel (S.opened nm ar false t a) { M with cas := M.cas ++ [⟨a', na, M.nums nm ar, true⟩] } := by
  have c0 := R.nc
  refine ⟨R.gen, R.nn, by show S.nc + 1 = (M.cas ++ [_]).length; rw [List.length_append, c0]; rfl, R.cl, R.bi, R.de, R.ro, R.bl, fun n => ?_⟩
  have h := R.ca n
  have h : (S.ca.find? fun x => decide (x.n = n)).map (fun c => (c.ns.reverse, c.er)) = _ := h
  show ((S.ca ++ [(⟨S.nc, t, a, (S.rowOf nm ar).reverse.filter S.has, false⟩ : DCa)]).find? fun x => decide (x.n = n)).map _ = ((M.cas ++ [_])[n]?).bind _
  rw [find_end, get_end, ← c0]
  by_cases c : n = S.nc
  · subst c
    have hl : M.cas[S.nc]? = none := List.getElem?_eq_none (by omega)
    rw [hl] at h
    rw [if_pos rfl]
    cases e : (S.ca.find? fun x => decide (x.n = S.nc)) with
    | some y => rw [e] at h; cases h
    | none =>
      have er : ((S.rowOf nm ar).reverse.filter S.has).reverse = M.nums nm ar := by rw [R.nums, List.filter_reverse, List.reverse_reverse]
      simp
      exact (R.nums nm ar).symm
  · rw [if_neg c, ← h]
    cases e : (S.ca.find? fun x => decide (x.n = n)) with
    | some y => rfl
    | none =>
      have : ¬ S.nc = n := fun z => c z.symm
      simp [this]
theorem Rel.next {K : PySem.W.Frag} {H H2 : Hp} {A : DAd} {B : MAd} {S : DB} {M : MO} (R : Rel S M) (D : Db K H A S) (W : Mo K H2 B M) {n : Nat} {c : MCa} (hc : M.cas[n]? = some c) (op : c.op = true) : ∃ d, S.caAt n = some d ∧ d.er = false ∧ d.ns.reverse = c.ns ∧
    (c.ns = [] → (S.next d).1 = none ∧ Rel (S.next d).2 { M with cas := setMc M.cas c.ad fun x => { x with op := false } }) ∧
    ∀ m r na, c.ns = m :: r → (S.next d).1 = some m ∧ Rel (S.next d).2 { M with cas := setMc M.cas c.ad fun x => { x with ns := r, na := na } } := by
  have h := R.ca n
  rw [hc] at h
  have h : (S.caAt n).map (fun c => (c.ns.reverse, c.er)) = some (c.ns, false) := by rw [h]; show (if c.op = true then _ else _) = _; rw [if_pos op]
  cases hd : S.caAt n with
  | none => rw [hd] at h; cases h
  | some d =>
  rw [hd] at h
  have h := Option.some.inj h
  have h1 : d.ns.reverse = c.ns := congrArg Prod.fst h
  have h2 : d.er = false := congrArg Prod.snd h
  have md : d ∈ S.ca := List.mem_of_find?_eq_some hd
  have kd : d.n = n := of_decide_eq_true (show decide (d.n = n) = true from List.find?_some (p := fun x : DCa => decide (x.n = n)) hd)
  have gt : ∀ (f : MCa → MCa) (k : Nat), (setMc M.cas c.ad f)[k]? = if k = n then some (f c) else M.cas[k]? := fun f k => by
    unfold setMc
    rw [List.getElem?_map]
    by_cases e : k = n
    · rw [if_pos e, e, hc]
      exact congrArg some (if_pos rfl)
    · rw [if_neg e]
      cases hk : M.cas[k]? with
      | none => rfl
      | some y => exact congrArg some (if_neg fun z => e (get_inj W.rowNd.2 hk hc z))
  have lenc : ∀ f : MCa → MCa, (setMc M.cas c.ad f).length = M.cas.length := fun f => by unfold setMc; rw [List.length_map]
  refine ⟨d, rfl, h2, h1, fun hn => ?_, fun m r na hn => ?_⟩
  · have en : S.next d = (none, { S with ca := S.ca.filter fun x => !decide (x.n = d.n) }) := by
      unfold DB.next
      rw [h1, hn]
      rfl
    rw [en]
    refine ⟨rfl, R.gen, R.nn, by rw [lenc]; exact R.nc, R.cl, R.bi, R.de, R.ro, R.bl, fun k => ?_⟩
    have hk := R.ca k
    have hk : (S.ca.find? fun x => decide (x.n = k)).map (fun c => (c.ns.reverse, c.er)) = _ := hk
    show ((S.ca.filter fun x => !decide (x.n = d.n)).find? fun x => decide (x.n = k)).map _ = ((setMc M.cas c.ad _)[k]?).bind _
    rw [gt, List.find?_filter, kd]
    by_cases e : k = n
    · rw [if_pos e]
      have : (S.ca.find? fun a => decide ((!decide (a.n = n)) = true ∧ decide (a.n = k) = true)) = none := List.find?_eq_none.mpr fun x _ => by
        rw [e]
        simp
      rw [this]
      rfl
    · rw [if_neg e, ← hk]
      congr 1
      congr 1
      funext x
      by_cases z : x.n = k
      · have : ¬ x.n = n := fun w => e (z.symm.trans w)
        simp [z, this, e]
      · simp [z]
  · have en : S.next d = (some m, { S with ca := setCa S.ca d.ad r.reverse }) := by
      unfold DB.next
      rw [h1, hn, h2]
      rfl
    rw [en]
    refine ⟨rfl, R.gen, R.nn, by rw [lenc]; exact R.nc, R.cl, R.bi, R.de, R.ro, R.bl, fun k => ?_⟩
    have hk := R.ca k
    have hk : (S.ca.find? fun x => decide (x.n = k)).map (fun c => (c.ns.reverse, c.er)) = _ := hk
    show ((setCa S.ca d.ad r.reverse).find? fun x => decide (x.n = k)).map _ = ((setMc M.cas c.ad _)[k]?).bind _
    rw [gt]
    unfold setCa
    rw [find_map _ _ _ (fun x => by by_cases c : x.ad = d.ad <;> simp [c])]
    by_cases e : k = n
    · subst e
      rw [if_pos rfl]
      have hd2 : (S.ca.find? fun x => decide (x.n = k)) = some d := hd
      rw [hd2]
      simp [op, h2]
    · rw [if_neg e, ← hk]
      cases hz : (S.ca.find? fun x => decide (x.n = k)) with
      | none => rfl
      | some z =>
        have mz : z ∈ S.ca := List.mem_of_find?_eq_some hz
        have kz : z.n = k := of_decide_eq_true (show decide (z.n = k) = true from List.find?_some (p := fun x : DCa => decide (x.n = k)) hz)
        have ne : ¬ z.ad = d.ad := fun w => by
          have := D.ca_inj mz md w
          subst this
          exact e (kz.symm.trans kd)
        simp [ne]
/-! ### sizes and known numbers -/
structure DK (S : DB) (k : Nat) : Prop where
  cl : ∀ x ∈ S.cl, x.n < S.nn
  bi : ∀ x ∈ S.bi, x.1 < S.nn
  de : ∀ x ∈ S.de, x.1 < S.nn
  ca : ∀ x ∈ S.ca, x.n < S.nc
  ro : ∀ x ∈ S.ro, ∀ n ∈ x.ns, (S.clAt n).isSome = true ∧ (S.biAt n).isSome = true
  cn : ∀ x ∈ S.ca, ∀ n ∈ x.ns, (S.clAt n).isSome = true
  sz : S.cl.length ≤ k ∧ S.bi.length ≤ k ∧ S.de.length ≤ k ∧ S.ro.length ≤ k ∧ S.ca.length ≤ k ∧ ∀ x ∈ S.ro, x.ns.length ≤ k
  nd : ∀ x ∈ S.cl, ∀ d ∈ x.ds, NdA d
theorem DK.ok {S : DB} {k : Nat} (h : DK S k) (l : k ≤ 1000) : DOk S := by
  obtain ⟨a, b, c, d, e, f⟩ := h.sz
  exact ⟨h.cl, h.bi, h.de, h.ca, h.ro, h.cn, by omega, by omega, by omega, by omega, by omega, fun x hx => by have := f x hx; omega⟩
theorem DK.nil : DK ⟨0, 0, 0, [], [], [], [], []⟩ 0 := ⟨(fun _ h => nomatch h), (fun _ h => nomatch h), (fun _ h => nomatch h), (fun _ h => nomatch h), (fun _ h => nomatch h), (fun _ h => nomatch h), ⟨Nat.le_refl _, Nat.le_refl _, Nat.le_refl _, Nat.le_refl _, Nat.le_refl _, (fun _ h => nomatch h)⟩, (fun _ h => nomatch h)⟩
theorem find_some_end {α : Type} {l : List α} {p : α → Bool} {z : α} (h : (l.find? p).isSome = true) : ((l ++ [z]).find? p).isSome = true := by
  rw [find_end]
  cases e : l.find? p with
  | some x => rfl
  | none => rw [e] at h; cases h
theorem DK.erase {S : DB} {k n : Nat} (h : DK S k) (e : S.has n = true) : DK (S.erase n) (k + 1) := by
  obtain ⟨a, b, c, d, f, g⟩ := h.sz
  have hn : n < S.nn := by
    unfold DB.has at e
    rw [Bool.and_eq_true] at e
    obtain ⟨x, hx⟩ := Option.isSome_iff_exists.mp e.1
    have k1 : x.n = n := of_decide_eq_true (show decide (x.n = n) = true from List.find?_some (p := fun x : DCl => decide (x.n = n)) hx)
    rw [← k1]
    exact h.cl x (List.mem_of_find?_eq_some hx)
  refine ⟨h.cl, h.bi, fun x hx => ?_, h.ca, h.ro, h.cn, ⟨by show S.cl.length ≤ _; omega, by show S.bi.length ≤ _; omega, ?_, by show S.ro.length ≤ _; omega, by show S.ca.length ≤ _; omega, fun x hx => by have := g x hx; omega⟩, h.nd⟩
  · rcases List.mem_append.mp hx with hx | hx
    · exact h.de x hx
    · rw [List.mem_singleton.mp hx]; exact hn
  · show (S.de ++ [_]).length ≤ _
    rw [List.length_append, List.length_singleton]
    omega
theorem DK.add {S : DB} {k : Nat} (h : DK S k) (nm : Str) (ar : Int) (ds : List PyData) (v : V) (a : Addr) (nd : ∀ d ∈ ds, NdA d) : DK (S.add false nm ar ds v a) (k + 1) := by
  obtain ⟨s1, s2, s3, s4, s5, s6⟩ := h.sz
  have old : ∀ n, ((S.clAt n).isSome = true → ((S.add false nm ar ds v a).clAt n).isSome = true) ∧ ((S.biAt n).isSome = true → ((S.add false nm ar ds v a).biAt n).isSome = true) := fun n => ⟨fun e => find_some_end e, fun e => by
    unfold DB.biAt at e ⊢
    rw [Option.isSome_map] at e ⊢
    exact find_some_end e⟩
  have new : ((S.add false nm ar ds v a).clAt S.nn).isSome = true ∧ ((S.add false nm ar ds v a).biAt S.nn).isSome = true := by
    refine ⟨?_, ?_⟩
    · exact List.find?_isSome.mpr ⟨_, List.mem_append_right _ (.head _), decide_eq_true rfl⟩
    · unfold DB.biAt
      rw [Option.isSome_map]
      exact List.find?_isSome.mpr ⟨(S.nn, S.gen + 1), List.mem_append_right _ (.head _), decide_eq_true rfl⟩
  have rows : ∀ x ∈ S.rowPut false nm ar a, x.ns.length ≤ k + 1 ∧ ∀ n ∈ x.ns, n = S.nn ∨ ((S.clAt n).isSome = true ∧ (S.biAt n).isSome = true) := fun x hx => by
    unfold DB.rowPut at hx
    cases hr : S.roAt nm ar with
    | none =>
      rw [hr] at hx
      rcases List.mem_append.mp hx with hx | hx
      · have := s6 x hx
        exact ⟨by omega, fun n hn => .inr (h.ro x hx n hn)⟩
      · rw [List.mem_singleton.mp hx]
        exact ⟨by show 1 ≤ k + 1; omega, fun n hn => .inl (List.mem_singleton.mp hn)⟩
    | some y =>
      have my : y ∈ S.ro := List.mem_of_find?_eq_some hr
      rw [hr] at hx
      have hx : x ∈ setRow S.ro y.ad (y.ns ++ [S.nn]) := hx
      unfold setRow at hx
      obtain ⟨z, hz, rfl⟩ := List.mem_map.mp hx
      by_cases c : z.ad = y.ad
      · rw [if_pos c]
        have := s6 y my
        refine ⟨by show (y.ns ++ [S.nn]).length ≤ k + 1; rw [List.length_append, List.length_singleton]; omega, fun n hn => ?_⟩
        rcases List.mem_append.mp hn with hn | hn
        · exact .inr (h.ro y my n hn)
        · exact .inl (List.mem_singleton.mp hn)
      · rw [if_neg c]
        have := s6 z hz
        exact ⟨by omega, fun n hn => .inr (h.ro z hz n hn)⟩
  have rlen : (S.rowPut false nm ar a).length ≤ k + 1 := by
    unfold DB.rowPut
    cases hr : S.roAt nm ar with
    | none => show (S.ro ++ [_]).length ≤ _; rw [List.length_append, List.length_singleton]; omega
    | some y => show (setRow S.ro y.ad _).length ≤ _; unfold setRow; rw [List.length_map]; omega
  refine ⟨fun x hx => ?_, fun x hx => ?_, fun x hx => ?_, h.ca, fun x hx n hn => ?_, fun x hx n hn => (old n).1 (h.cn x hx n hn), ⟨?_, ?_, ?_, rlen, ?_, fun x hx => (rows x hx).1⟩, fun x hx => ?_⟩
  · show x.n < S.nn + 1
    rcases List.mem_append.mp hx with hx | hx
    · have := h.cl x hx; omega
    · rw [List.mem_singleton.mp hx]; exact Nat.lt_succ_self _
  · show x.1 < S.nn + 1
    rcases List.mem_append.mp hx with hx | hx
    · have := h.bi x hx; omega
    · rw [List.mem_singleton.mp hx]; exact Nat.lt_succ_self _
  · show x.1 < S.nn + 1
    have := h.de x hx; omega
  · rcases (rows x hx).2 n hn with e | e
    · rw [e]; exact new
    · exact ⟨(old n).1 e.1, (old n).2 e.2⟩
  · show (S.cl ++ [_]).length ≤ _; rw [List.length_append, List.length_singleton]; omega
  · show (S.bi ++ [_]).length ≤ _; rw [List.length_append, List.length_singleton]; omega
  · show S.de.length ≤ _; omega
  · show S.ca.length ≤ _; omega
  · rcases List.mem_append.mp hx with hx | hx
    · exact h.nd x hx
    · rw [List.mem_singleton.mp hx]; exact nd
theorem DK.opened {S : DB} {k : Nat} (h : DK S k) (nm : Str) (ar : Int) (er : Bool) (t a : Addr) : DK (S.opened nm ar er t a) (k + 1) := by
  obtain ⟨s1, s2, s3, s4, s5, s6⟩ := h.sz
  refine ⟨h.cl, h.bi, h.de, fun x hx => ?_, h.ro, fun x hx n hn => ?_, ⟨by show S.cl.length ≤ _; omega, by show S.bi.length ≤ _; omega, by show S.de.length ≤ _; omega, by show S.ro.length ≤ _; omega, ?_, fun x hx => by have := s6 x hx; omega⟩, h.nd⟩
  · show x.n < S.nc + 1
    rcases List.mem_append.mp hx with hx | hx
    · have := h.ca x hx; omega
    · rw [List.mem_singleton.mp hx]; exact Nat.lt_succ_self _
  · rcases List.mem_append.mp hx with hx | hx
    · exact h.cn x hx n hn
    · rw [List.mem_singleton.mp hx] at hn
      have := (List.mem_filter.mp hn).2
      unfold DB.has at this
      rw [Bool.and_eq_true] at this
      exact this.1
  · show (S.ca ++ [_]).length ≤ _; rw [List.length_append, List.length_singleton]; omega
theorem DK.next {S : DB} {k n : Nat} (h : DK S k) {d : DCa} (hd : S.caAt n = some d) (er : d.er = false) : DK (S.next d).2 k := by
  obtain ⟨s1, s2, s3, s4, s5, s6⟩ := h.sz
  have md : d ∈ S.ca := List.mem_of_find?_eq_some hd
  cases hl : d.ns.reverse with
  | nil =>
    have en : S.next d = (none, { S with ca := S.ca.filter fun x => !decide (x.n = d.n) }) := by
      unfold DB.next
      rw [hl]
      rfl
    rw [en]
    exact ⟨h.cl, h.bi, h.de, fun x hx => h.ca x (List.mem_filter.mp hx).1, h.ro, fun x hx => h.cn x (List.mem_filter.mp hx).1, ⟨s1, s2, s3, s4, Nat.le_trans (List.length_filter_le _ _) s5, s6⟩, h.nd⟩
  | cons m r =>
    have en : S.next d = (some m, { S with ca := setCa S.ca d.ad r.reverse }) := by
      unfold DB.next
      rw [hl, er]
      rfl
    rw [en]
    have sub : ∀ x ∈ r.reverse, x ∈ d.ns := fun x hx => List.mem_reverse.mp (by rw [hl]; exact .tail _ (List.mem_reverse.mp hx))
    have key : ∀ x ∈ setCa S.ca d.ad r.reverse, x.n < S.nc ∧ ∀ n ∈ x.ns, (S.clAt n).isSome = true := fun x hx => by
      unfold setCa at hx
      obtain ⟨z, hz, rfl⟩ := List.mem_map.mp hx
      by_cases c : z.ad = d.ad
      · rw [if_pos c]; exact ⟨h.ca z hz, fun n hn => h.cn d md n (sub n hn)⟩
      · rw [if_neg c]; exact ⟨h.ca z hz, h.cn z hz⟩
    exact ⟨h.cl, h.bi, h.de, fun x hx => (key x hx).1, h.ro, fun x hx => (key x hx).2, ⟨s1, s2, s3, s4, by show (setCa _ _ _).length ≤ _; unfold setCa; rw [List.length_map]; exact s5, s6⟩, h.nd⟩
theorem hd_ren {ds : List PyData} {nm : Str} {ar : Int} (h : HdIs ds nm ar) (f : Int) : HdIs (renM f ds) nm ar := by
  obtain ⟨n, ⟨r, rfl, e⟩ | ⟨r, rfl⟩⟩ := h
  · exact ⟨n, .inl ⟨_, rfl, e⟩⟩
  · exact ⟨n, .inr ⟨_, rfl⟩⟩
structure MK (M : MO) (k : Nat) : Prop where
  ord : ∀ n ∈ M.ord, n < M.rows.length
  hd : ∀ x ∈ M.rows, HdIs x.ds x.nm x.ar
  so : M.ord.length ≤ k
  sr : M.rows.length ≤ k
  sc : M.cas.length ≤ k
  cn : ∀ c ∈ M.cas, ∀ n ∈ c.ns, n < M.rows.length
  cl : ∀ c ∈ M.cas, c.ns.length ≤ k
theorem MK.ok {M : MO} {k : Nat} (h : MK M k) (l : k ≤ 1000) : MOk M := ⟨h.ord, h.hd, Nat.le_trans h.so l, Nat.le_trans h.sr l, Nat.le_trans h.sc l, h.cn, fun c hc => Nat.le_trans (h.cl c hc) l⟩
theorem MK.add {M : MO} {k : Nat} (h : MK M k) {nm : Str} {ar : Int} {ds : List PyData} (hd : HdIs ds nm ar) (a : Addr) (v : V) (o : Addr) : MK (M.add nm ar ds a v o) (k + 1) := by
  have el : (M.add nm ar ds a v o).rows.length = M.rows.length + 1 := by show (M.rows ++ [_]).length = _; rw [List.length_append]; rfl
  have h1 := h.so
  have h2 := h.sr
  have h3 := h.sc
  refine ⟨fun n hn => ?_, fun x hx => ?_, ?_, by rw [el]; omega, by show M.cas.length ≤ _; omega, fun c hc n hn => by have := h.cn c hc n hn; omega, fun c hc => by have := h.cl c hc; omega⟩
  · rw [el]
    rcases List.mem_append.mp hn with hn | hn
    · have := h.ord n hn; omega
    · rw [List.mem_singleton.mp hn]; omega
  · rcases List.mem_append.mp hx with hx | hx
    · exact h.hd x hx
    · rw [List.mem_singleton.mp hx]; exact hd
  · show (M.ord ++ [_]).length ≤ _; rw [List.length_append, List.length_singleton]; omega
theorem MK.erase {M : MO} {k n : Nat} (h : MK M k) : MK (M.erase n) (k + 1) := by
  have h1 := h.so
  have h2 := h.sr
  have h3 := h.sc
  unfold MO.erase
  cases hx : M.rows[n]? with
  | none => exact ⟨h.ord, h.hd, by show M.ord.length ≤ _; omega, by show M.rows.length ≤ _; omega, by show M.cas.length ≤ _; omega, h.cn, fun c hc => by have := h.cl c hc; omega⟩
  | some x =>
    have el : (setDth M.rows x.ad (M.g + 1)).length = M.rows.length := by unfold setDth; rw [List.length_map]
    refine ⟨fun m hm => by show m < (setDth _ _ _).length; rw [el]; exact h.ord m hm, fun y hy => ?_, by show M.ord.length ≤ _; omega, by show (setDth _ _ _).length ≤ _; rw [el]; omega, by show M.cas.length ≤ _; omega, fun c hc m hm => by show m < (setDth _ _ _).length; rw [el]; exact h.cn c hc m hm, fun c hc => by have := h.cl c hc; omega⟩
    have hy : y ∈ setDth M.rows x.ad (M.g + 1) := hy
    unfold setDth at hy
    obtain ⟨z, hz, rfl⟩ := List.mem_map.mp hy
    have := h.hd z hz
    by_cases c : z.ad = x.ad
    · rw [if_pos c]; exact this
    · rw [if_neg c]; exact this
theorem MK.opened {M : MO} {k : Nat} (h : MK M k) (nm : Str) (ar : Int) (a na : Addr) : MK { M with cas := M.cas ++ [⟨a, na, M.nums nm ar, true⟩] } (k + 1) := by
  have h1 := h.so
  have h2 := h.sr
  have h3 := h.sc
  refine ⟨h.ord, h.hd, by show M.ord.length ≤ _; omega, by show M.rows.length ≤ _; omega, by show (M.cas ++ [_]).length ≤ _; rw [List.length_append, List.length_singleton]; omega, fun c hc n hn => ?_, fun c hc => ?_⟩
  · rcases List.mem_append.mp hc with hc | hc
    · exact h.cn c hc n hn
    · rw [List.mem_singleton.mp hc] at hn
      exact h.ord n (List.mem_filter.mp hn).1
  · rcases List.mem_append.mp hc with hc | hc
    · have := h.cl c hc; omega
    · rw [List.mem_singleton.mp hc]
      have := List.length_filter_le (M.sel nm ar) M.ord
      show (M.ord.filter _).length ≤ _
      omega
theorem MK.set {M : MO} {k : Nat} (h : MK M k) (a : Addr) (f : MCa → MCa) {c0 : MCa} (m0 : c0 ∈ M.cas) (hf : ∀ c, (f c).ns = c.ns ∨ ((∀ n ∈ (f c).ns, n ∈ c0.ns) ∧ (f c).ns.length ≤ c0.ns.length)) : MK { M with cas := setMc M.cas a f } k := by
  refine ⟨h.ord, h.hd, h.so, h.sr, by show (setMc _ _ _).length ≤ _; unfold setMc; rw [List.length_map]; exact h.sc, fun c hc n hn => ?_, fun c hc => ?_⟩
  · have hc : c ∈ setMc M.cas a f := hc
    unfold setMc at hc
    obtain ⟨z, hz, rfl⟩ := List.mem_map.mp hc
    by_cases e : z.ad = a
    · rw [if_pos e] at hn
      rcases hf z with w | w
      · rw [w] at hn; exact h.cn z hz n hn
      · exact h.cn c0 m0 n (w.1 n hn)
    · rw [if_neg e] at hn; exact h.cn z hz n hn
  · have hc : c ∈ setMc M.cas a f := hc
    unfold setMc at hc
    obtain ⟨z, hz, rfl⟩ := List.mem_map.mp hc
    by_cases e : z.ad = a
    · rw [if_pos e]
      rcases hf z with w | w
      · rw [w]; exact h.cl z hz
      · exact Nat.le_trans w.2 (h.cl c0 m0)
    · rw [if_neg e]; exact h.cl z hz
/-! ### all of it beside one another -/
structure LW (K : PySem.W.Frag) (H : Hp) (s l : Addr) (A : DAd) (S : DB) (B : MAd) (M : MO) (k : Nat) : Prop where
  st : Stm H s l
  D : Db K H A S
  W : Mo K H B M
  R : Rel S M
  dk : DK S k
  mok : MK M k
  dj : ∀ x ∈ A.L S, x ∉ B.L M ++ M.I ∧ x ≠ s ∧ x ≠ l
  dm : ∀ x ∈ B.L M ++ M.I, x ≠ s ∧ x ≠ l
theorem Stm.frameM {H H' : Hp} {s l : Addr} {L : List Addr} (S : Stm H s l) (b : ButM L H H') (ns : s ∉ L) (nl : l ∉ L) : Stm H' s l := by
  obtain ⟨x, y, m, n, h1, h2, r⟩ := S.ex
  exact ⟨x, y, m, n, b _ _ ns h1, b _ _ nl h2, r⟩
theorem LW.but {K : PySem.W.Frag} {H H' : Hp} {s l : Addr} {A : DAd} {S : DB} {B : MAd} {M : MO} {k : Nat} (Z : LW K H s l A S B M k) (b : But s H H') (S' : Stm H' s l) : LW K H' s l A S B M k :=
  ⟨S', Z.D.frame Z.dk.nd Z.st.nts (but_M b) (fun x hx z => (Z.dj x hx).2.1 (List.mem_singleton.mp z)), Z.W.frame Z.st.nts (but_M b) (fun x hx z => (Z.dm x hx).1 (List.mem_singleton.mp z)), Z.R, Z.dk, Z.mok, Z.dj, Z.dm⟩
theorem LW.same {K : PySem.W.Frag} {H H' : Hp} {s l : Addr} {A : DAd} {S : DB} {B : MAd} {M : MO} {k : Nat} (Z : LW K H s l A S B M k) (t : Same H H') : LW K H' s l A S B M k := Z.but (But.of t) (Z.st.keep t)
/-- the database is changed, then the model -/
theorem LW.both {K : PySem.W.Frag} {H H1 H2 : Hp} {s l : Addr} {A : DAd} {S S' : DB} {B : MAd} {M M' : MO} {k k' : Nat} (Z : LW K H s l A S B M k) (b1 : ButM (A.L S) H H1) (D1 : Db K H1 A S') (n1 : ∀ x ∈ A.L S', x ∈ A.L S ∨ H x = Option.none)
    (dk : DK S' k') (mk : MK M' k') (R : Rel S' M') (b2 : ButM (B.L M) H1 H2) (W2 : Mo K H2 B M') (n2 : ∀ x ∈ B.L M' ++ M'.I, x ∈ B.L M ++ M.I ∨ H1 x = Option.none) : LW K H2 s l A S' B M' k' := by
  obtain ⟨os, hs⟩ := Z.st.at_s
  obtain ⟨ol, hl⟩ := Z.st.at_l
  have sA : s ∉ A.L S := fun z => (Z.dj s z).2.1 rfl
  have lA : l ∉ A.L S := fun z => (Z.dj l z).2.2 rfl
  have sB : s ∉ B.L M := fun z => (Z.dm s (List.mem_append_left _ z)).1 rfl
  have lB : l ∉ B.L M := fun z => (Z.dm l (List.mem_append_left _ z)).2 rfl
  have S1 := Z.st.frameM b1 sA lA
  have S2 := S1.frameM b2 sB lB
  have W1 := Z.W.frame Z.D.noTups b1 fun x hx z => (Z.dj x z).1 hx
  have dj1 : ∀ x ∈ A.L S', x ∉ B.L M ++ M.I ∧ x ≠ s ∧ x ≠ l := fun x hx => by
    rcases n1 x hx with h | h
    · exact Z.dj x h
    · refine ⟨fun z => ?_, fun z => ?_, fun z => ?_⟩
      · obtain ⟨o, ho, _⟩ := Z.W.there z
        rw [h] at ho
        cases ho
      · rw [z, hs] at h; cases h
      · rw [z, hl] at h; cases h
  have D2 := D1.frame dk.nd W1.noTups b2 fun x hx z => (dj1 x hx).1 (List.mem_append_left _ z)
  obtain ⟨os1, hs1⟩ := S1.at_s
  obtain ⟨ol1, hl1⟩ := S1.at_l
  refine ⟨S2, D2, W2, R, dk, mk, fun x hx => ⟨fun z => ?_, (dj1 x hx).2⟩, fun x hx => ?_⟩
  · rcases n2 x z with h | h
    · exact (dj1 x hx).1 h
    · obtain ⟨o, ho⟩ := D1.there hx
      rw [h] at ho
      cases ho
  · rcases n2 x hx with h | h
    · exact Z.dm x h
    · refine ⟨fun z => ?_, fun z => ?_⟩
      · rw [z, hs1] at h; cases h
      · rw [z, hl1] at h; cases h
/-! ### the steps of the law -/
theorem DAd.L_add {A : DAd} {S : DB} {nm : Str} {ar : Int} {ds : List PyData} {v : V} {a : Addr} : ∀ x ∈ A.L (S.add false nm ar ds v a), x ∈ A.L S ∨ x = a := fun x hx => by
  unfold DAd.L at hx ⊢
  rcases List.mem_append.mp hx with hx | hx
  · exact .inl (List.mem_append_left _ hx)
  · rcases List.mem_append.mp hx with hx | hx
    · have hx : x ∈ (S.rowPut false nm ar a).map (·.ad) := hx
      unfold DB.rowPut at hx
      cases hr : S.roAt nm ar with
      | none =>
        rw [hr] at hx
        rw [List.map_append] at hx
        rcases List.mem_append.mp hx with hx | hx
        · exact .inl (List.mem_append_right _ (List.mem_append_left _ hx))
        · exact .inr (List.mem_singleton.mp hx)
      | some y =>
        rw [hr] at hx
        rw [setRow_ad] at hx
        exact .inl (List.mem_append_right _ (List.mem_append_left _ hx))
    · exact .inl (List.mem_append_right _ (List.mem_append_right _ hx))
theorem DAd.L_opened {A : DAd} {S : DB} {nm : Str} {ar : Int} {er : Bool} {t a : Addr} : ∀ x ∈ A.L (S.opened nm ar er t a), x ∈ A.L S ∨ x = a := fun x hx => by
  unfold DAd.L at hx ⊢
  rcases List.mem_append.mp hx with hx | hx
  · exact .inl (List.mem_append_left _ hx)
  · rcases List.mem_append.mp hx with hx | hx
    · exact .inl (List.mem_append_right _ (List.mem_append_left _ hx))
    · have hx : x ∈ (S.ca ++ [(⟨S.nc, t, a, (S.rowOf nm ar).reverse.filter S.has, er⟩ : DCa)]).map (fun z : DCa => z.ad) := hx
      rw [List.map_append] at hx
      rcases List.mem_append.mp hx with hx | hx
      · exact .inl (List.mem_append_right _ (List.mem_append_right _ hx))
      · exact .inr (List.mem_singleton.mp hx)
theorem DAd.L_next {A : DAd} {S : DB} {c : DCa} : ∀ x ∈ A.L (S.next c).2, x ∈ A.L S := fun x hx => by
  have key : (S.next c).2.ro = S.ro ∧ ∀ z ∈ (S.next c).2.ca.map (·.ad), z ∈ S.ca.map (·.ad) := by
    unfold DB.next
    split
    · refine ⟨rfl, fun z hz => ?_⟩
      have hz : z ∈ (setCa S.ca c.ad _).map (·.ad) := hz
      rw [setCa_ad] at hz
      exact hz
    · refine ⟨rfl, fun z hz => ?_⟩
      obtain ⟨y, hy, rfl⟩ := List.mem_map.mp hz
      exact List.mem_map.mpr ⟨y, (List.mem_filter.mp hy).1, rfl⟩
  unfold DAd.L at hx ⊢
  rw [key.1] at hx
  rcases List.mem_append.mp hx with hx | hx
  · exact List.mem_append_left _ hx
  · rcases List.mem_append.mp hx with hx | hx
    · exact List.mem_append_right _ (List.mem_append_left _ hx)
    · exact List.mem_append_right _ (List.mem_append_right _ (key.2 x hx))
theorem MAd.L_parts {B : MAd} {M M' : MO} {T : List Addr} (h1 : ∀ x ∈ M'.rows.map (·.ad), x ∈ M.rows.map (·.ad) ∨ x ∈ T) (h2 : ∀ x ∈ M'.cas.map (·.ad), x ∈ M.cas.map (·.ad) ∨ x ∈ T) (h3 : ∀ x ∈ M'.I, x ∈ M.I ∨ x ∈ T) : ∀ x ∈ B.L M' ++ M'.I, x ∈ B.L M ++ M.I ∨ x ∈ T := fun x hx => by
  rcases List.mem_append.mp hx with hx | hx
  · unfold MAd.L at hx ⊢
    rcases List.mem_append.mp hx with hx | hx
    · exact .inl (List.mem_append_left _ (List.mem_append_left _ hx))
    · rcases List.mem_append.mp hx with hx | hx
      · rcases h1 x hx with h | h
        · exact .inl (List.mem_append_left _ (List.mem_append_right _ (List.mem_append_left _ h)))
        · exact .inr h
      · rcases h2 x hx with h | h
        · exact .inl (List.mem_append_left _ (List.mem_append_right _ (List.mem_append_right _ h)))
        · exact .inr h
  · rcases h3 x hx with h | h
    · exact .inl (List.mem_append_right _ h)
    · exact .inr h
theorem mem_end {α β : Type} {l : List α} {f : α → β} {z : α} {T : List β} (h : f z ∈ T) : ∀ x ∈ (l ++ [z]).map f, x ∈ l.map f ∨ x ∈ T := fun x hx => by
  rw [List.map_append] at hx
  rcases List.mem_append.mp hx with hx | hx
  · exact .inl hx
  · rw [List.mem_singleton.mp hx]; exact .inr h
section
variable {K : PySem.W.Frag} {H H1 H2 : Hp} {s l : Addr} {A : DAd} {S S' : DB} {B : MAd} {M M' : MO} {k : Nat}
theorem LW.W1 (Z : LW K H s l A S B M k) (b1 : ButM (A.L S) H H1) : Mo K H1 B M := Z.W.frame Z.D.noTups b1 fun x hx z => (Z.dj x z).1 hx
theorem LW.D2 (Z : LW K H s l A S B M k) (b1 : ButM (A.L S) H H1) (D1 : Db K H1 A S') (n1 : ∀ x ∈ A.L S', x ∈ A.L S ∨ H x = Option.none) (nd : ∀ x ∈ S'.cl, ∀ d ∈ x.ds, NdA d) (b2 : ButM (B.L M) H1 H2) : Db K H2 A S' := by
  refine D1.frame nd (Z.W1 b1).noTups b2 fun x hx z => ?_
  rcases n1 x hx with h | h
  · exact (Z.dj x h).1 (List.mem_append_left _ z)
  · obtain ⟨o, ho, _⟩ := Z.W.there (List.mem_append_left _ z)
    rw [h] at ho
    cases ho
theorem LW.fresh (Z : LW K H s l A S B M k) (b1 : ButM (A.L S) H H1) (D1 : Db K H1 A S') (n1 : ∀ x ∈ A.L S', x ∈ A.L S ∨ H x = Option.none) (sub : ∀ x ∈ A.L S, x ∈ A.L S') {a : Addr} (h : H1 a = Option.none) : H a = Option.none := by
  cases e : H a with
  | none => rfl
  | some o =>
    by_cases c : a ∈ A.L S
    · obtain ⟨o, ho⟩ := D1.there (sub a c)
      rw [h] at ho; cases ho
    · have := b1 a o c e
      rw [h] at this; cases this
/-- a clause is added to both -/
theorem LW.add (Z : LW K H s l A S B M k) (le : k ≤ 900) {nm : Str} {ar : Int} {ds : List PyData} (hd : HdIs ds nm ar) (nd : ∀ d ∈ ds, NdA d) {v v' : V} {a a' o : Addr}
    (na : H a = Option.none) (b1 : ButM (A.L S) H H1) (D1 : Db K H1 A (S.add false nm ar (renM 0 ds) v a)) (na' : H1 a' = Option.none) (no : H1 o = Option.none) (b2 : ButM (B.L M) H1 H2) (W2 : Mo K H2 B (M.add nm ar (renM 0 ds) a' v' o)) :
    LW K H2 s l A (S.add false nm ar (renM 0 ds) v a) B (M.add nm ar (renM 0 ds) a' v' o) (k + 1) := by
  have W1 := Z.W1 b1
  refine Z.both b1 D1 (fun x hx => ?_) (Z.dk.add nm ar _ v a (ren_nd nd (Int.le_refl 0))) (Z.mok.add (hd_ren hd 0) a' v' o) (Z.R.add Z.D (Z.dk.ok (by omega)) (Z.mok.ok (by omega)) nm ar _ v v' a a' o) b2 W2 (fun x hx => ?_)
  · rcases DAd.L_add x hx with h | h
    · exact .inl h
    · rw [h]; exact .inr na
  · rcases MAd.L_parts (T := [a', o]) (M := M) (M' := M.add nm ar (renM 0 ds) a' v' o) (mem_end (.head _)) (fun x hx => .inl hx) (fun x hx => by
      rcases List.mem_cons.mp hx with h | h
      · rw [h]; exact .inr (show o ∈ [a', o] from .tail _ (.head _))
      · exact .inl (.tail _ h)) x hx with h | h
    · exact .inl h
    · simp only [List.mem_cons, List.not_mem_nil, or_false] at h
      rcases h with h | h
      · rw [h]; exact .inr na'
      · rw [h]; exact .inr no
/-- a clause is erased from both -/
theorem LW.erase (Z : LW K H s l A S B M k) {n : Nat} (c : M.canErase n = true) (b1 : ButM (A.L S) H H1) (D1 : Db K H1 A (S.erase n)) (b2 : ButM (B.L M) H1 H2) (W2 : Mo K H2 B (M.erase n)) : LW K H2 s l A (S.erase n) B (M.erase n) (k + 1) := by
  refine Z.both b1 D1 (fun x hx => .inl hx) (Z.dk.erase (by rw [Z.R.has]; exact c)) Z.mok.erase (Z.R.erase Z.W c) b2 W2 (fun x hx => ?_)
  have e : (M.erase n).rows.map (·.ad) = M.rows.map (·.ad) ∧ (M.erase n).cas = M.cas ∧ (M.erase n).oa = M.oa := by
    unfold MO.erase
    cases M.rows[n]? with
    | none => exact ⟨rfl, rfl, rfl⟩
    | some y => exact ⟨setDth_ad _ _ _, rfl, rfl⟩
  obtain ⟨e1, e2, e3⟩ := e
  unfold MAd.L MO.I at hx ⊢
  rw [e1, e2, e3] at hx
  exact .inl hx
/-- a call is opened in both -/
theorem LW.opened (Z : LW K H s l A S B M k) (le : k ≤ 900) {nm : Str} {ar : Int} {t a a' na : Addr}
    (ha : H a = Option.none) (b1 : ButM (A.L S) H H1) (D1 : Db K H1 A (S.opened nm ar false t a)) (ha' : H1 a' = Option.none) (hna : H1 na = Option.none) (b2 : ButM (B.L M) H1 H2) (W2 : Mo K H2 B { M with cas := M.cas ++ [⟨a', na, M.nums nm ar, true⟩] }) :
    LW K H2 s l A (S.opened nm ar false t a) B { M with cas := M.cas ++ [⟨a', na, M.nums nm ar, true⟩] } (k + 1) := by
  refine Z.both b1 D1 (fun x hx => ?_) (Z.dk.opened nm ar false t a) (Z.mok.opened nm ar a' na) (Z.R.opened (Z.dk.ok (by omega)) nm ar t a a' na) b2 W2 (fun x hx => ?_)
  · rcases DAd.L_opened x hx with h | h
    · exact .inl h
    · rw [h]; exact .inr ha
  · rcases MAd.L_parts (T := [a', na]) (M := M) (M' := { M with cas := M.cas ++ [⟨a', na, M.nums nm ar, true⟩] }) (fun x hx => .inl hx) (mem_end (.head _)) (fun x hx => by
      rcases List.mem_cons.mp hx with h | h
      · rw [h]; exact .inl (.head _)
      · rcases mem_end (f := fun z : MCa => z.na) (z := ⟨a', na, M.nums nm ar, true⟩) (T := [a', na]) (.tail _ (.head _)) x h with h | h
        · exact .inl (.tail _ h)
        · exact .inr h) x hx with h | h
    · exact .inl h
    · simp only [List.mem_cons, List.not_mem_nil, or_false] at h
      rcases h with h | h
      · rw [h]; exact .inr ha'
      · rw [h]; exact .inr hna
theorem MAd.L_set {B : MAd} {M : MO} {a na : Addr} {f : MCa → MCa} (h1 : ∀ c, (f c).ad = c.ad) (h2 : ∀ c, (f c).na = c.na ∨ (f c).na = na) : ∀ x ∈ B.L { M with cas := setMc M.cas a f } ++ MO.I { M with cas := setMc M.cas a f }, x ∈ B.L M ++ M.I ∨ x ∈ [na] :=
  MAd.L_parts (fun x hx => .inl hx) (fun x hx => .inl (by rw [← setMc_ad M.cas a f h1]; exact hx)) (fun x hx => by
    rcases List.mem_cons.mp hx with h | h
    · rw [h]; exact .inl (.head _)
    · obtain ⟨z, hz, rfl⟩ := List.mem_map.mp h
      have hz : z ∈ setMc M.cas a f := hz
      unfold setMc at hz
      obtain ⟨w, hw, rfl⟩ := List.mem_map.mp hz
      by_cases c : w.ad = a
      · rw [if_pos c]
        rcases h2 w with e | e
        · rw [e]; exact .inl (.tail _ (List.mem_map.mpr ⟨w, hw, rfl⟩))
        · rw [e]; exact .inr (.head _)
      · rw [if_neg c]; exact .inl (.tail _ (List.mem_map.mpr ⟨w, hw, rfl⟩)))
/-- no clause is left -/
theorem LW.over (Z : LW K H s l A S B M k) {d : DCa} {n : Nat} {c : MCa} (hc : M.cas[n]? = some c) (hd : S.caAt n = some d) (er : d.er = false) (R : Rel (S.next d).2 { M with cas := setMc M.cas c.ad fun x => { x with op := false } })
    (b1 : ButM (A.L S) H H1) (D1 : Db K H1 A (S.next d).2) (b2 : ButM (B.L M) H1 H2) (W2 : Mo K H2 B { M with cas := setMc M.cas c.ad fun x => { x with op := false } }) : LW K H2 s l A (S.next d).2 B { M with cas := setMc M.cas c.ad fun x => { x with op := false } } k := by
  refine Z.both b1 D1 (fun x hx => .inl (DAd.L_next x hx)) (Z.dk.next hd er) (Z.mok.set c.ad _ (List.mem_of_getElem? hc) (fun _ => .inl rfl)) R b2 W2 (fun x hx => ?_)
  rcases MAd.L_set (na := c.na) (f := fun x => { x with op := false }) (fun _ => rfl) (fun _ => .inl rfl) x hx with h | h
  · exact .inl h
  · rw [List.mem_singleton.mp h]
    exact .inl (List.mem_append_right _ (.tail _ (List.mem_map.mpr ⟨c, List.mem_of_getElem? hc, rfl⟩)))
/-- a clause is taken -/
theorem LW.took (Z : LW K H s l A S B M k) {d : DCa} {n m : Nat} {r : List Nat} {na : Addr} {c : MCa} (hc : M.cas[n]? = some c) (hd : S.caAt n = some d) (er : d.er = false) (hns : c.ns = m :: r) (R : Rel (S.next d).2 { M with cas := setMc M.cas c.ad fun x => { x with ns := r, na := na } })
    (b1 : ButM (A.L S) H H1) (D1 : Db K H1 A (S.next d).2) (hna : H1 na = Option.none) (b2 : ButM (B.L M) H1 H2) (W2 : Mo K H2 B { M with cas := setMc M.cas c.ad fun x => { x with ns := r, na := na } }) : LW K H2 s l A (S.next d).2 B { M with cas := setMc M.cas c.ad fun x => { x with ns := r, na := na } } k := by
  refine Z.both b1 D1 (fun x hx => .inl (DAd.L_next x hx)) (Z.dk.next hd er) (Z.mok.set c.ad _ (List.mem_of_getElem? hc) (fun _ => .inr ⟨fun x hx => by rw [hns]; exact .tail _ hx, by rw [hns]; exact Nat.le_succ _⟩)) R b2 W2 (fun x hx => ?_)
  rcases MAd.L_set (na := na) (f := fun x => { x with ns := r, na := na }) (fun _ => rfl) (fun _ => .inr rfl) x hx with h | h
  · exact .inl h
  · rw [List.mem_singleton.mp h]; exact .inr hna
/-- what is read in the model's heap stands in the later one -/
theorem LW.pair1 (Z : LW K H s l A S B M k) (b1 : ButM (A.L S) H H1) {v : V} {d : PyData} (n : noL d = true) (h : Dp K H v d) : Dp K H1 v d := dp_butM Z.D.noTups b1 n h
end
abbrev DB0 : DB := ⟨0, 0, 0, [], [], [], [], []⟩
theorem LW.zero {K : PySem.W.Frag} {H1 H2 H3 : Hp} {s l p dx : Addr} {o1 o2 : HO} {A : DAd} {B : MAd} {M : MO} (S1 : Stm H1 s l) (n1 : H1 p = Option.none) (n2 : H1 dx = Option.none) (ne : dx ≠ p)
    (b2 : ButM [p] (upd (upd H1 dx o1) p o2) H2) (nA : ∀ x ∈ A.L DB0, x = p ∨ (upd (upd H1 dx o1) p o2) x = Option.none) (D2 : Db K H2 A DB0) (s3 : Same H2 H3)
    (nB : ∀ x ∈ B.L M ++ M.I, H2 x = Option.none) (g0 : M.g = 0) (r0 : M.rows = []) (o0 : M.ord = []) (c0 : M.cas = []) (W3 : Mo K H3 B M) : LW K H3 s l A DB0 B M 0 := by
  have S2 : Stm (upd (upd H1 dx o1) p o2) s l := (S1.keep (same_upd n2)).keep (same_upd (by rw [upd_ne ne.symm]; exact n1))
  obtain ⟨os, hs⟩ := S1.at_s
  obtain ⟨ol, hl⟩ := S1.at_l
  have sp : s ≠ p := fun z => by rw [z, n1] at hs; cases hs
  have lp : l ≠ p := fun z => by rw [z, n1] at hl; cases hl
  have S3 := S2.frameM b2 (fun z => sp (List.mem_singleton.mp z)) (fun z => lp (List.mem_singleton.mp z))
  obtain ⟨os2, hs2⟩ := S2.at_s
  obtain ⟨ol2, hl2⟩ := S2.at_l
  obtain ⟨os3, hs3⟩ := S3.at_s
  obtain ⟨ol3, hl3⟩ := S3.at_l
  obtain ⟨g, rows, oa, ord, cas⟩ := M
  cases g0; cases r0; cases o0; cases c0
  refine ⟨S3.keep s3, D2.keep s3, W3, ⟨rfl, rfl, rfl, fun n => rfl, fun n => rfl, fun n => rfl, fun nm ar => rfl, (fun n x hx => by cases hx), fun n => rfl⟩, DK.nil, ⟨(fun _ h => nomatch h), (fun _ h => nomatch h), Nat.le_refl _, Nat.le_refl _, Nat.le_refl _, (fun _ h => nomatch h), (fun _ h => nomatch h)⟩, fun x hx => ⟨fun z => ?_, fun z => ?_, fun z => ?_⟩, fun x hx => ⟨fun z => ?_, fun z => ?_⟩⟩
  · obtain ⟨o, ho⟩ := D2.there hx
    rw [nB x z] at ho; cases ho
  · rcases nA x hx with h | h
    · exact sp (z.symm.trans h)
    · rw [z, hs2] at h; cases h
  · rcases nA x hx with h | h
    · exact lp (z.symm.trans h)
    · rw [z, hl2] at h; cases h
  · have := nB x hx; rw [z, hs3] at this; cases this
  · have := nB x hx; rw [z, hl3] at this; cases this
theorem erase_rows (M : MO) (n : Nat) : (M.erase n).rows.length = M.rows.length ∧ (M.erase n).cas = M.cas := by
  unfold MO.erase
  cases M.rows[n]? with
  | none => exact ⟨rfl, rfl⟩
  | some y => exact ⟨by show (setDth _ _ _).length = _; unfold setDth; rw [List.length_map], rfl⟩
theorem MO.nds {K : PySem.W.Frag} {H : Hp} {B : MAd} {M : MO} (W : Mo K H B M) (n : Nat) : ∀ d ∈ M.dsOf n, NdA d := fun d hd => by
  unfold MO.dsOf at hd
  cases e : M.rows[n]? with
  | none => rw [e] at hd; cases hd
  | some x => rw [e] at hd; exact (W.dv x (List.mem_of_getElem? e)).2 d hd
theorem pair_facts {M : MO} {n : Nat} (h : ∀ d ∈ M.dsOf n, NdA d) : (M.pairOf n).canLay0 = true ∧ (M.pairOf n).depth ≤ 9 ∧ PyData.eqv (M.pairOf n) (M.pairOf n) = true := by
  obtain ⟨a1, a2, a3⟩ := nds_lay h
  refine ⟨?_, ?_, ?_⟩
  · simp only [MO.pairOf, PyData.canLay0, PyData.canLayAll0, a1, Bool.and_self]
  · simp only [MO.pairOf, PyData.depth, PyData.depthAll]
    omega
  · have e2 := a3
    simp [MO.pairOf, PyData.eqv, PyData.eqvAll, e2]
theorem look_facts {M : MO} (h : ∀ n, ∀ d ∈ M.dsOf n, NdA d) : ∀ l : List Nat, PyData.canLayAll0 (l.map M.pairOf) = true ∧ PyData.depthAll (l.map M.pairOf) ≤ 9 ∧ PyData.eqvAll (l.map M.pairOf) (l.map M.pairOf) = true
  | [] => ⟨rfl, Nat.zero_le _, rfl⟩
  | n :: l => by
    obtain ⟨a1, a2, a3⟩ := pair_facts (h n)
    obtain ⟨b1, b2, b3⟩ := look_facts h l
    rw [List.map_cons]
    refine ⟨by simp only [PyData.canLayAll0, a1, b1, Bool.and_self], ?_, by simp only [PyData.eqvAll, a3, b3, Bool.and_self]⟩
    simp only [PyData.depthAll]
    omega
theorem pair_shaped {M : MO} {n : Nat} (h : ∀ d ∈ M.dsOf n, NdA d) : SeqAt.shaped (M.pairOf n) = true := by
  obtain ⟨a1, a2, _⟩ := pair_facts h
  show ((M.pairOf n).canLay0 && decide ((M.pairOf n).depth ≤ 64)) = true
  rw [a1, decide_eq_true (by omega)]
  rfl
theorem look_shaped {M : MO} (h : ∀ n, ∀ d ∈ M.dsOf n, NdA d) (nm : Str) (ar : Int) : SeqAt.shaped (.list (M.look nm ar)) = true ∧ PyData.eqv (.list (M.look nm ar)) (.list (M.look nm ar)) = true := by
  obtain ⟨a1, a2, a3⟩ := look_facts h (M.nums nm ar)
  refine ⟨?_, by unfold MO.look; rw [PyData.eqv]; exact a3⟩
  have hd : (PyData.list (M.look nm ar)).depth ≤ 64 := by simp only [PyData.depth]; unfold MO.look; omega
  have hc : (PyData.list (M.look nm ar)).canLay0 = true := by simp only [PyData.canLay0]; exact a1
  show ((PyData.list (M.look nm ar)).canLay0 && decide ((PyData.list (M.look nm ar)).depth ≤ 64)) = true
  rw [hc, decide_eq_true hd]
  rfl
theorem look_noL {K : PySem.W.Frag} {H : Hp} {B : MAd} {M : MO} (W : Mo K H B M) : ∀ l : List Nat, noLA (l.map M.pairOf) = true
  | [] => rfl
  | n :: l => by
    rw [List.map_cons]
    simp only [noLA, MO.pair_noL W n, look_noL W l, Bool.and_self]
theorem keepT {H H' : Hp} {L : List Addr} {p : Addr} {xs : List V} (nt : noTups H L) (b : ButM L H H') (h : H p = some (.tup xs)) : H' p = some (.tup xs) := b _ _ (fun z => (nt p z xs).1 h) h
theorem nda_ar {nm : Str} {ar : Int} (h : NdA (nodeF nm ar)) : 0 ≤ ar ∧ ar ≤ 8 := by
  obtain ⟨wd, n⟩ := h
  cases n with
  | f x n h1 h2 h3 => exact ⟨h2, h3⟩
/-! ### the promises -/
def sp_law (K : PySem.W.Frag) : Sp := fun vs H Q _ => ∃ (a : Addr) (ns : List Int), vs = [.ref a] ∧ SqL K H a (ns.map V.int) ∧ ns.length ≤ 63 ∧ ∀ H', Q (.bl true) H'

local macro_rules | `(tactic| walk_at "lits") => `(tactic| repeat' (first | exact lit_int | exact lit_str | exact lit_bl | exact lit_non | exact litA_nil | refine litA_cons ?_ ?_ | refine lit_tup ?_ (by decide) | refine lit_lst ?_ (by decide) | refine lit_neg ?_ | refine lit_sub ?_ ?_ | refine lit_pow ?_ ?_ ⟨by decide, by decide, by decide⟩ | refine lit_mulS ?_ ?_ ⟨by decide, by decide, by decide⟩))
local macro_rules | `(tactic| walk_at "wp") => `(tactic| simp only [wipe, List.map_cons, List.map_nil, List.set_cons_succ, List.set_cons_zero])
local macro_rules | `(tactic| walk_at "gn") => `(tactic| with_reducible first | refine g_n0 ?_ | refine g_n1 ?_ | refine g_n2 ?_ | refine g_n3 ?_ | refine g_n4 ?_ | refine g_n5 ?_ | refine g_n6 ?_ | refine g_n7 ?_ | refine g_n8 ?_ | refine g_n9 ?_ | refine g_n10 ?_ | refine g_n11 ?_ | refine g_n12 ?_ | refine g_n13 ?_ | refine g_n14 ?_ | refine g_n15 ?_ | refine g_n16 ?_ | refine g_n17 ?_ | refine g_n18 ?_ | refine g_n19 ?_ | refine g_n20 ?_ | refine g_n21 ?_ | refine g_n22 ?_ | refine g_n23 ?_ | refine g_n24 ?_ | refine g_n25 ?_)
local macro_rules | `(tactic| walk_at "go") => `(tactic| repeat with_reducible first | refine g_var (by with_unfolding_all exact rfl) ?_ | refine g_c ?_ | refine g_cons ?_ | refine g_nil ?_ | refine g_seq ?_ | refine g_asg ?_ | refine g_op ?_ | refine g_i0 ?_ | refine g_call ?_ | refine g_cb ?_ | refine g_test ?_ | refine g_b ?_ | refine g_bl ?_ | refine g_in ?_ | refine g_ifS ?_ | refine g_next ?_ | refine nxp ?_ | refine g_ret ?_ | refine g_rt ?_ | refine g_bk ?_ | refine g_ct ?_ | refine g_drop ?_ | refine g_eqi ?_ | refine g_nei ?_ | refine g_eqs ?_ | refine g_nes ?_ | refine g_not ?_ | refine g_and ?_ | refine g_or ?_ | refine g_andV ?_ | refine g_orV ?_ | refine g_notV ?_ | refine g_if ?_ | refine g_brk ?_ | refine g_cont ?_ | refine g_retN ?_ | refine g_par ?_ | refine g_two ?_ | refine g_aug (by with_unfolding_all exact rfl) ?_ | refine g_callN ?_ | refine g_kw ?_ | refine g_tup ?_ | refine g_lst ?_ | refine g_sl ?_ | refine g_np ?_ | refine g_part ?_ | refine g_bm ?_ | refine g_bm0 ?_ | refine g_un ?_ | refine g_iu ?_ | refine g_sub ?_ | refine g_yes ?_ | refine iteT ?_ | refine iteF ?_ | refine iteNf ?_ | refine iteNt ?_ | refine iteSs ?_ | refine iteSn ?_ | refine g_for ?_ | refine g_iL ?_ | refine g_iT ?_ | refine g_iR1 ?_ | refine g_iR2 ?_ | refine g_iZ ?_ | refine g_gcons ?_ | refine g_gnil ?_ | refine g_lc ?_ | refine g_fld ?_ | refine g_sfld ?_ | refine g_afld ?_ | refine g_meth ?_ | refine g_make ?_ | refine g_revT ?_ | refine g_revL ?_ | refine g_din ?_ | refine g_dnin ?_ | refine g_dget ?_ | refine g_dget2 ?_ | refine g_dpop2 ?_ | refine g_dput ?_ | refine g_rev ?_ | refine g_dnew ?_ | refine g_callS ?_ | walk_at "gn")
local macro_rules | `(tactic| walk_at "gs") => `(tactic| repeat with_reducible first | refine g_var (by with_unfolding_all exact rfl) ?_ | refine g_c ?_ | refine g_cons ?_ | refine g_nil ?_ | refine g_seq ?_ | refine g_asg ?_ | refine g_op ?_ | refine g_i0 ?_ | refine g_call ?_ | refine g_cb ?_ | refine g_test ?_ | refine g_b ?_ | refine g_bl ?_ | refine g_in ?_ | refine g_next ?_ | refine nxp ?_ | refine g_ret ?_ | refine g_rt ?_ | refine g_bk ?_ | refine g_ct ?_ | refine g_drop ?_ | refine g_eqi ?_ | refine g_nei ?_ | refine g_eqs ?_ | refine g_nes ?_ | refine g_not ?_ | refine g_and ?_ | refine g_or ?_ | refine g_andV ?_ | refine g_orV ?_ | refine g_notV ?_ | refine g_if ?_ | refine g_brk ?_ | refine g_cont ?_ | refine g_retN ?_ | refine g_par ?_ | refine g_two ?_ | refine g_aug (by with_unfolding_all exact rfl) ?_ | refine g_callN ?_ | refine g_kw ?_ | refine g_tup ?_ | refine g_lst ?_ | refine g_sl ?_ | refine g_np ?_ | refine g_part ?_ | refine g_bm ?_ | refine g_bm0 ?_ | refine g_un ?_ | refine g_iu ?_ | refine g_sub ?_ | refine g_yes ?_ | refine iteT ?_ | refine iteF ?_ | refine iteNf ?_ | refine iteNt ?_ | refine iteSs ?_ | refine iteSn ?_ | refine g_for ?_ | refine g_iL ?_ | refine g_iT ?_ | refine g_iR1 ?_ | refine g_iR2 ?_ | refine g_iZ ?_ | refine g_gcons ?_ | refine g_gnil ?_ | refine g_lc ?_ | refine g_fld ?_ | refine g_sfld ?_ | refine g_afld ?_ | refine g_meth ?_ | refine g_make ?_ | refine g_revT ?_ | refine g_revL ?_ | refine g_din ?_ | refine g_dnin ?_ | refine g_dget ?_ | refine g_dget2 ?_ | refine g_dpop2 ?_ | refine g_dput ?_ | refine g_rev ?_ | refine g_dnew ?_ | refine g_callS ?_ | walk_at "gn")
section
variable {P : Program} {w : World} {K : PySem.W.Frag} {mg : Str → Option Value} {base : Heap}
theorem ok_is_variable {f : Addr} {fd : FuncData} (F : Fun K "is_variable" "is_variable" s_is_variable f fd) (E : Bi K mg)  : FnOk P w K mg base CX0 1 f fd ["node"] (sp_is_variable K) := by
  refine F.ok sc_is_variable (fun vs H Q E h => ?_) (fun cdv A outer s H vs Q E' hr h => ?_)
  · obtain ⟨x, d, rfl, _⟩ := h
    rfl
  · obtain ⟨x, d, rfl, hd, ⟨wd, nd⟩, q⟩ := h
    refine ⟨_, (pss_one (ps_ret (pe_and (pe_callB call_isi (by rfl) E.b_isinstance (by decide +kernel) (pa_cons (pv 0) (pa_cons (pe_ty "tuple" (by rfl) E.b_tuple (by decide +kernel)) pa_nil))) (pe_one (pe_cmpR op_eq (pe_ix ix_tup (pv 0) pe_int (fun _ _ => rfl)) pe_str (nomark _)))))), ?_⟩
    refine ⟨x, rfl, _, _, _, _, _, rfl, .ty _, tyx_of hd, kit_ty (kitT _), _, rfl, ?_⟩
    cases nd with
    | v n h1 h2 =>
      cases hd with
      | tup hs ha =>
        obtain ⟨v, hv, hdv⟩ := DpAll.get (i := 0) ha rfl
        cases hdv
        refine iteT ⟨_, rfl, _, _, _, _, rfl, rfl, hs, atI_nat (j := 0) hv, rfl, ?_⟩
        rw [decide_eq_true rfl]
        exact q
    | i n h1 h2 => exact iteF q
    | f y n h1 h2 h3 =>
      cases hd with
      | tup hs ha =>
        obtain ⟨v, hv, hdv⟩ := DpAll.get (i := 0) ha rfl
        cases hdv
        refine iteT ⟨_, rfl, _, _, _, _, rfl, rfl, hs, atI_nat (j := 0) hv, rfl, ?_⟩
        rw [show decide (V.str (Str.ofString "f") = V.str (Str.ofString "v")) = false by decide +kernel]
        exact q

theorem ok_is_symbol {f : Addr} {fd : FuncData} (F : Fun K "is_symbol" "is_symbol" s_is_symbol f fd) (E : Bi K mg)  : FnOk P w K mg base CX0 1 f fd ["node"] (sp_is_symbol K) := by
  refine F.ok sc_is_symbol (fun vs H Q E h => ?_) (fun cdv A outer s H vs Q E' hr h => ?_)
  · obtain ⟨x, d, rfl, _⟩ := h
    rfl
  · obtain ⟨x, d, rfl, hd, ⟨wd, nd⟩, q⟩ := h
    refine ⟨_, (pss_one (ps_ret (pe_and (pe_callB call_isi (by rfl) E.b_isinstance (by decide +kernel) (pa_cons (pv 0) (pa_cons (pe_ty "tuple" (by rfl) E.b_tuple (by decide +kernel)) pa_nil))) (pe_one (pe_cmpR op_eq (pe_ix ix_tup (pv 0) pe_int (fun _ _ => rfl)) pe_str (nomark _)))))), ?_⟩
    refine ⟨x, rfl, _, _, _, _, _, rfl, .ty _, tyx_of hd, kit_ty (kitT _), _, rfl, ?_⟩
    cases nd with
    | v n h1 h2 =>
      cases hd with
      | tup hs ha =>
        obtain ⟨v, hv, hdv⟩ := DpAll.get (i := 0) ha rfl
        cases hdv
        refine iteT ⟨_, rfl, _, _, _, _, rfl, rfl, hs, atI_nat (j := 0) hv, rfl, ?_⟩
        rw [show decide (V.str (Str.ofString "v") = V.str (Str.ofString "f")) = false by decide +kernel]
        exact q
    | i n h1 h2 => exact iteF q
    | f y n h1 h2 h3 =>
      cases hd with
      | tup hs ha =>
        obtain ⟨v, hv, hdv⟩ := DpAll.get (i := 0) ha rfl
        cases hdv
        refine iteT ⟨_, rfl, _, _, _, _, rfl, rfl, hs, atI_nat (j := 0) hv, rfl, ?_⟩
        rw [decide_eq_true rfl]
        exact q

theorem ok_is_control {f : Addr} {fd : FuncData} (F : Fun K "is_control" "is_control" s_is_control f fd) (E : Bi K mg)  : FnOk P w K mg base CX0 1 f fd ["name", "arity"] (sp_is_control K) := by
  obtain ⟨u_CONTROL, v_CONTROL, e_CONTROL, r_CONTROL, d_CONTROL⟩ := E.c_CONTROL
  refine F.ok sc_is_control (fun vs H Q E h => ?_) (fun cdv A outer s H vs Q E' hr h => ?_)
  · obtain ⟨x, n, rfl, _⟩ := h
    rfl
  · obtain ⟨x, n, rfl, hx, q⟩ := h
    refine ⟨_, (pss_one (ps_ret (pe_cmpR (op_inT (units65 hr)) (pe_tup (pa_cons (pv 0) (pa_cons (pv 1) pa_nil))) (pe_glob (by rfl) e_CONTROL r_CONTROL) (by rfl)))), ?_⟩
    refine ⟨_, rfl, _, rfl, (by show 2 ≤ sizeLine; decide), fun p np => ?_⟩
    have sp := same_upd (o := .tup [.str x, .int n]) np
    refine ⟨pd (x, n), CTL.map pd, .tup (SqT.of upd_same) (.cons (.str _) (.cons (.int _) .nil)), dp_same (none_same _) _ _ d_CONTROL, pd_shaped hx, (pds_shaped ctl_ok).1, ?_⟩
    rw [any_pd]
    exact q _ sp

theorem ok_is_built_in {f : Addr} {fd : FuncData} (F : Fun K "is_built_in" "is_built_in" s_is_built_in f fd) (E : Bi K mg)  : FnOk P w K mg base CX0 1 f fd ["name", "arity"] (sp_is_built_in K) := by
  obtain ⟨u_BUILT_IN, v_BUILT_IN, e_BUILT_IN, r_BUILT_IN, d_BUILT_IN⟩ := E.c_BUILT_IN
  refine F.ok sc_is_built_in (fun vs H Q E h => ?_) (fun cdv A outer s H vs Q E' hr h => ?_)
  · obtain ⟨x, n, rfl, _⟩ := h
    rfl
  · obtain ⟨x, n, rfl, hx, q⟩ := h
    refine ⟨_, (pss_one (ps_ret (pe_cmpR (op_inT (units65 hr)) (pe_tup (pa_cons (pv 0) (pa_cons (pv 1) pa_nil))) (pe_glob (by rfl) e_BUILT_IN r_BUILT_IN) (by rfl)))), ?_⟩
    refine ⟨_, rfl, _, rfl, (by show 2 ≤ sizeLine; decide), fun p np => ?_⟩
    have sp := same_upd (o := .tup [.str x, .int n]) np
    refine ⟨pd (x, n), BIN.map pd, .tup (SqT.of upd_same) (.cons (.str _) (.cons (.int _) .nil)), dp_same (none_same _) _ _ d_BUILT_IN, pd_shaped hx, (pds_shaped bin_ok).1, ?_⟩
    rw [any_pd]
    exact q _ sp

theorem ok_Database___init__ {f : Addr} {fd : FuncData} (F : Fun K "__init__" "Database.__init__" s_Database___init__ f fd) (E : Bi K mg)  : FnOk P w K mg base CX0 1 f fd ["self"] (sp_Database___init__ K) := by
  refine F.ok sc_Database___init__ (fun vs H Q E h => ?_) (fun cdv A outer s H vs Q E' hr h => ?_)
  · obtain ⟨p, dx, rfl, _⟩ := h
    rfl
  · obtain ⟨p, dx, rfl, hp, q⟩ := h
    refine ⟨_, (pss_cons (ps_fld (pv 0) pe_int rfl)
      (pss_cons (ps_fld (pv 0) pe_dnewK rfl)
      (pss_cons (ps_fld (pv 0) pe_dnewK rfl)
      (pss_cons (ps_fld (pv 0) pe_dnewK rfl)
      (pss_cons (ps_fld (pv 0) pe_dnewT rfl)
      (pss_cons (ps_fld (pv 0) pe_dnewT rfl)
      (pss_cons (ps_fld (pv 0) pe_dnewK rfl)
      (pss_cons (ps_fld (pv 0) pe_int rfl)
      (pss_one (ps_fld (pv 0) pe_int rfl)))))))))), ?_⟩
    refine st_of (σ := [some _]) rfl ?_
    walk_at "go"
    refine ⟨_, _, _, _, rfl, hp, E.cl_Database, E.nA_Database_generation, by decide, ?_⟩
    rw [pi_Database_generation (v__clauses := V.non) (v__births := V.non) (v__deaths := V.non) (v__rows := V.non) (v__gaps := V.non) (v__calls := V.non) (v__next_number := V.non) (v__next_call := V.non)]
    have hp0 : (upd H p (.ins (clsA K "Database") dx [("generation", V.int 0)])) p = some (.ins (clsA K "Database") dx [("generation", V.int 0)]) := upd_same
    have b0 : ButM [p] H (upd H p (.ins (clsA K "Database") dx [("generation", V.int 0)])) := ButM.refl.put (List.mem_singleton.mpr rfl)
    have nw0 : ∀ z, (upd H p (.ins (clsA K "Database") dx [("generation", V.int 0)])) z = Option.none → H z = Option.none := fun z hz => by
      by_cases c : z = p
      · rw [c, upd_same] at hz; cases hz
      · rw [upd_ne c] at hz; exact hz
    generalize upd H p (.ins (clsA K "Database") dx [("generation", V.int 0)]) = H0 at hp0 b0 nw0 ⊢
    walk_at "go"
    intro c nc
    have s0 := same_upd (o := .dK []) nc
    have zc := nw0 c nc
    have pc : p ≠ c := fun z => by rw [← z, hp0] at nc; cases nc
    have hq0 := s0 _ _ hp0
    have bq0 := b0.new (o := .dK []) nc
    have fc0 : (upd H0 c (.dK [])) c = some (.dK []) := upd_same
    have fq0 : ∀ z, (upd H0 c (.dK [])) z = Option.none → H z = Option.none := fun z hz => nw0 z (s0.free hz)
    clear nc
    generalize upd H0 c (.dK []) = H1 at hq0 bq0 fq0 fc0 ⊢
    clear hp0 b0 nw0 s0 
    walk_at "go"
    refine ⟨_, _, _, _, rfl, hq0, E.cl_Database, E.nA_Database__clauses, by show 1 < 1000; decide, ?_⟩
    rw [pi_Database__clauses (v__births := V.non) (v__deaths := V.non) (v__rows := V.non) (v__gaps := V.non) (v__calls := V.non) (v__next_number := V.non) (v__next_call := V.non)]
    have hp1 : (upd H1 p (.ins (clsA K "Database") dx [("generation", V.int 0), ("_clauses", V.ref c)])) p = some (.ins (clsA K "Database") dx [("generation", V.int 0), ("_clauses", V.ref c)]) := upd_same
    have b1 : ButM [p] H (upd H1 p (.ins (clsA K "Database") dx [("generation", V.int 0), ("_clauses", V.ref c)])) := bq0.put (List.mem_singleton.mpr rfl)
    have nw1 : ∀ z, (upd H1 p (.ins (clsA K "Database") dx [("generation", V.int 0), ("_clauses", V.ref c)])) z = Option.none → H z = Option.none := fun z hz => by
      by_cases c : z = p
      · rw [c, upd_same] at hz; cases hz
      · rw [upd_ne c] at hz; exact fq0 z hz
    have ec1 : (upd H1 p (.ins (clsA K "Database") dx [("generation", V.int 0), ("_clauses", V.ref c)])) c = some (.dK []) := by rw [upd_ne pc.symm]; exact fc0
    generalize upd H1 p (.ins (clsA K "Database") dx [("generation", V.int 0), ("_clauses", V.ref c)]) = H2 at hp1 b1 nw1 ec1 ⊢
    clear hq0 bq0 fq0 fc0
    walk_at "go"
    intro b nb
    have s1 := same_upd (o := .dK []) nb
    have zb := nw1 b nb
    have pb : p ≠ b := fun z => by rw [← z, hp1] at nb; cases nb
    have cb : c ≠ b := fun z => by rw [← z, ec1] at nb; cases nb
    have hq1 := s1 _ _ hp1
    have bq1 := b1.new (o := .dK []) nb
    have fc1 := s1 _ _ ec1
    have fb1 : (upd H2 b (.dK [])) b = some (.dK []) := upd_same
    have fq1 : ∀ z, (upd H2 b (.dK [])) z = Option.none → H z = Option.none := fun z hz => nw1 z (s1.free hz)
    clear nb
    generalize upd H2 b (.dK []) = H3 at hq1 bq1 fq1 fc1 fb1 ⊢
    clear hp1 b1 nw1 s1 ec1
    walk_at "go"
    refine ⟨_, _, _, _, rfl, hq1, E.cl_Database, E.nA_Database__births, by show 2 < 1000; decide, ?_⟩
    rw [pi_Database__births (v__deaths := V.non) (v__rows := V.non) (v__gaps := V.non) (v__calls := V.non) (v__next_number := V.non) (v__next_call := V.non)]
    have hp2 : (upd H3 p (.ins (clsA K "Database") dx [("generation", V.int 0), ("_clauses", V.ref c), ("_births", V.ref b)])) p = some (.ins (clsA K "Database") dx [("generation", V.int 0), ("_clauses", V.ref c), ("_births", V.ref b)]) := upd_same
    have b2 : ButM [p] H (upd H3 p (.ins (clsA K "Database") dx [("generation", V.int 0), ("_clauses", V.ref c), ("_births", V.ref b)])) := bq1.put (List.mem_singleton.mpr rfl)
    have nw2 : ∀ z, (upd H3 p (.ins (clsA K "Database") dx [("generation", V.int 0), ("_clauses", V.ref c), ("_births", V.ref b)])) z = Option.none → H z = Option.none := fun z hz => by
      by_cases c : z = p
      · rw [c, upd_same] at hz; cases hz
      · rw [upd_ne c] at hz; exact fq1 z hz
    have ec2 : (upd H3 p (.ins (clsA K "Database") dx [("generation", V.int 0), ("_clauses", V.ref c), ("_births", V.ref b)])) c = some (.dK []) := by rw [upd_ne pc.symm]; exact fc1
    have eb2 : (upd H3 p (.ins (clsA K "Database") dx [("generation", V.int 0), ("_clauses", V.ref c), ("_births", V.ref b)])) b = some (.dK []) := by rw [upd_ne pb.symm]; exact fb1
    generalize upd H3 p (.ins (clsA K "Database") dx [("generation", V.int 0), ("_clauses", V.ref c), ("_births", V.ref b)]) = H4 at hp2 b2 nw2 ec2 eb2 ⊢
    clear hq1 bq1 fq1 fc1 fb1
    walk_at "go"
    intro d nd
    have s2 := same_upd (o := .dK []) nd
    have zd := nw2 d nd
    have pd : p ≠ d := fun z => by rw [← z, hp2] at nd; cases nd
    have cd : c ≠ d := fun z => by rw [← z, ec2] at nd; cases nd
    have bd : b ≠ d := fun z => by rw [← z, eb2] at nd; cases nd
    have hq2 := s2 _ _ hp2
    have bq2 := b2.new (o := .dK []) nd
    have fc2 := s2 _ _ ec2
    have fb2 := s2 _ _ eb2
    have fd2 : (upd H4 d (.dK [])) d = some (.dK []) := upd_same
    have fq2 : ∀ z, (upd H4 d (.dK [])) z = Option.none → H z = Option.none := fun z hz => nw2 z (s2.free hz)
    clear nd
    generalize upd H4 d (.dK []) = H5 at hq2 bq2 fq2 fc2 fb2 fd2 ⊢
    clear hp2 b2 nw2 s2 ec2 eb2
    walk_at "go"
    refine ⟨_, _, _, _, rfl, hq2, E.cl_Database, E.nA_Database__deaths, by show 3 < 1000; decide, ?_⟩
    rw [pi_Database__deaths (v__rows := V.non) (v__gaps := V.non) (v__calls := V.non) (v__next_number := V.non) (v__next_call := V.non)]
    have hp3 : (upd H5 p (.ins (clsA K "Database") dx [("generation", V.int 0), ("_clauses", V.ref c), ("_births", V.ref b), ("_deaths", V.ref d)])) p = some (.ins (clsA K "Database") dx [("generation", V.int 0), ("_clauses", V.ref c), ("_births", V.ref b), ("_deaths", V.ref d)]) := upd_same
    have b3 : ButM [p] H (upd H5 p (.ins (clsA K "Database") dx [("generation", V.int 0), ("_clauses", V.ref c), ("_births", V.ref b), ("_deaths", V.ref d)])) := bq2.put (List.mem_singleton.mpr rfl)
    have nw3 : ∀ z, (upd H5 p (.ins (clsA K "Database") dx [("generation", V.int 0), ("_clauses", V.ref c), ("_births", V.ref b), ("_deaths", V.ref d)])) z = Option.none → H z = Option.none := fun z hz => by
      by_cases c : z = p
      · rw [c, upd_same] at hz; cases hz
      · rw [upd_ne c] at hz; exact fq2 z hz
    have ec3 : (upd H5 p (.ins (clsA K "Database") dx [("generation", V.int 0), ("_clauses", V.ref c), ("_births", V.ref b), ("_deaths", V.ref d)])) c = some (.dK []) := by rw [upd_ne pc.symm]; exact fc2
    have eb3 : (upd H5 p (.ins (clsA K "Database") dx [("generation", V.int 0), ("_clauses", V.ref c), ("_births", V.ref b), ("_deaths", V.ref d)])) b = some (.dK []) := by rw [upd_ne pb.symm]; exact fb2
    have ed3 : (upd H5 p (.ins (clsA K "Database") dx [("generation", V.int 0), ("_clauses", V.ref c), ("_births", V.ref b), ("_deaths", V.ref d)])) d = some (.dK []) := by rw [upd_ne pd.symm]; exact fd2
    generalize upd H5 p (.ins (clsA K "Database") dx [("generation", V.int 0), ("_clauses", V.ref c), ("_births", V.ref b), ("_deaths", V.ref d)]) = H6 at hp3 b3 nw3 ec3 eb3 ed3 ⊢
    clear hq2 bq2 fq2 fc2 fb2 fd2
    walk_at "go"
    intro r nr
    have s3 := same_upd (o := .dT []) nr
    have zr := nw3 r nr
    have pr : p ≠ r := fun z => by rw [← z, hp3] at nr; cases nr
    have cr : c ≠ r := fun z => by rw [← z, ec3] at nr; cases nr
    have br : b ≠ r := fun z => by rw [← z, eb3] at nr; cases nr
    have dr : d ≠ r := fun z => by rw [← z, ed3] at nr; cases nr
    have hq3 := s3 _ _ hp3
    have bq3 := b3.new (o := .dT []) nr
    have fc3 := s3 _ _ ec3
    have fb3 := s3 _ _ eb3
    have fd3 := s3 _ _ ed3
    have fr3 : (upd H6 r (.dT [])) r = some (.dT []) := upd_same
    have fq3 : ∀ z, (upd H6 r (.dT [])) z = Option.none → H z = Option.none := fun z hz => nw3 z (s3.free hz)
    clear nr
    generalize upd H6 r (.dT []) = H7 at hq3 bq3 fq3 fc3 fb3 fd3 fr3 ⊢
    clear hp3 b3 nw3 s3 ec3 eb3 ed3
    walk_at "go"
    refine ⟨_, _, _, _, rfl, hq3, E.cl_Database, E.nA_Database__rows, by show 4 < 1000; decide, ?_⟩
    rw [pi_Database__rows (v__gaps := V.non) (v__calls := V.non) (v__next_number := V.non) (v__next_call := V.non)]
    have hp4 : (upd H7 p (.ins (clsA K "Database") dx [("generation", V.int 0), ("_clauses", V.ref c), ("_births", V.ref b), ("_deaths", V.ref d), ("_rows", V.ref r)])) p = some (.ins (clsA K "Database") dx [("generation", V.int 0), ("_clauses", V.ref c), ("_births", V.ref b), ("_deaths", V.ref d), ("_rows", V.ref r)]) := upd_same
    have b4 : ButM [p] H (upd H7 p (.ins (clsA K "Database") dx [("generation", V.int 0), ("_clauses", V.ref c), ("_births", V.ref b), ("_deaths", V.ref d), ("_rows", V.ref r)])) := bq3.put (List.mem_singleton.mpr rfl)
    have nw4 : ∀ z, (upd H7 p (.ins (clsA K "Database") dx [("generation", V.int 0), ("_clauses", V.ref c), ("_births", V.ref b), ("_deaths", V.ref d), ("_rows", V.ref r)])) z = Option.none → H z = Option.none := fun z hz => by
      by_cases c : z = p
      · rw [c, upd_same] at hz; cases hz
      · rw [upd_ne c] at hz; exact fq3 z hz
    have ec4 : (upd H7 p (.ins (clsA K "Database") dx [("generation", V.int 0), ("_clauses", V.ref c), ("_births", V.ref b), ("_deaths", V.ref d), ("_rows", V.ref r)])) c = some (.dK []) := by rw [upd_ne pc.symm]; exact fc3
    have eb4 : (upd H7 p (.ins (clsA K "Database") dx [("generation", V.int 0), ("_clauses", V.ref c), ("_births", V.ref b), ("_deaths", V.ref d), ("_rows", V.ref r)])) b = some (.dK []) := by rw [upd_ne pb.symm]; exact fb3
    have ed4 : (upd H7 p (.ins (clsA K "Database") dx [("generation", V.int 0), ("_clauses", V.ref c), ("_births", V.ref b), ("_deaths", V.ref d), ("_rows", V.ref r)])) d = some (.dK []) := by rw [upd_ne pd.symm]; exact fd3
    have er4 : (upd H7 p (.ins (clsA K "Database") dx [("generation", V.int 0), ("_clauses", V.ref c), ("_births", V.ref b), ("_deaths", V.ref d), ("_rows", V.ref r)])) r = some (.dT []) := by rw [upd_ne pr.symm]; exact fr3
    generalize upd H7 p (.ins (clsA K "Database") dx [("generation", V.int 0), ("_clauses", V.ref c), ("_births", V.ref b), ("_deaths", V.ref d), ("_rows", V.ref r)]) = H8 at hp4 b4 nw4 ec4 eb4 ed4 er4 ⊢
    clear hq3 bq3 fq3 fc3 fb3 fd3 fr3
    walk_at "go"
    intro g ng
    have s4 := same_upd (o := .dT []) ng
    have zg := nw4 g ng
    have pg : p ≠ g := fun z => by rw [← z, hp4] at ng; cases ng
    have cg : c ≠ g := fun z => by rw [← z, ec4] at ng; cases ng
    have bg : b ≠ g := fun z => by rw [← z, eb4] at ng; cases ng
    have dg : d ≠ g := fun z => by rw [← z, ed4] at ng; cases ng
    have rg : r ≠ g := fun z => by rw [← z, er4] at ng; cases ng
    have hq4 := s4 _ _ hp4
    have bq4 := b4.new (o := .dT []) ng
    have fc4 := s4 _ _ ec4
    have fb4 := s4 _ _ eb4
    have fd4 := s4 _ _ ed4
    have fr4 := s4 _ _ er4
    have fg4 : (upd H8 g (.dT [])) g = some (.dT []) := upd_same
    have fq4 : ∀ z, (upd H8 g (.dT [])) z = Option.none → H z = Option.none := fun z hz => nw4 z (s4.free hz)
    clear ng
    generalize upd H8 g (.dT []) = H9 at hq4 bq4 fq4 fc4 fb4 fd4 fr4 fg4 ⊢
    clear hp4 b4 nw4 s4 ec4 eb4 ed4 er4
    walk_at "go"
    refine ⟨_, _, _, _, rfl, hq4, E.cl_Database, E.nA_Database__gaps, by show 5 < 1000; decide, ?_⟩
    rw [pi_Database__gaps (v__calls := V.non) (v__next_number := V.non) (v__next_call := V.non)]
    have hp5 : (upd H9 p (.ins (clsA K "Database") dx [("generation", V.int 0), ("_clauses", V.ref c), ("_births", V.ref b), ("_deaths", V.ref d), ("_rows", V.ref r), ("_gaps", V.ref g)])) p = some (.ins (clsA K "Database") dx [("generation", V.int 0), ("_clauses", V.ref c), ("_births", V.ref b), ("_deaths", V.ref d), ("_rows", V.ref r), ("_gaps", V.ref g)]) := upd_same
    have b5 : ButM [p] H (upd H9 p (.ins (clsA K "Database") dx [("generation", V.int 0), ("_clauses", V.ref c), ("_births", V.ref b), ("_deaths", V.ref d), ("_rows", V.ref r), ("_gaps", V.ref g)])) := bq4.put (List.mem_singleton.mpr rfl)
    have nw5 : ∀ z, (upd H9 p (.ins (clsA K "Database") dx [("generation", V.int 0), ("_clauses", V.ref c), ("_births", V.ref b), ("_deaths", V.ref d), ("_rows", V.ref r), ("_gaps", V.ref g)])) z = Option.none → H z = Option.none := fun z hz => by
      by_cases c : z = p
      · rw [c, upd_same] at hz; cases hz
      · rw [upd_ne c] at hz; exact fq4 z hz
    have ec5 : (upd H9 p (.ins (clsA K "Database") dx [("generation", V.int 0), ("_clauses", V.ref c), ("_births", V.ref b), ("_deaths", V.ref d), ("_rows", V.ref r), ("_gaps", V.ref g)])) c = some (.dK []) := by rw [upd_ne pc.symm]; exact fc4
    have eb5 : (upd H9 p (.ins (clsA K "Database") dx [("generation", V.int 0), ("_clauses", V.ref c), ("_births", V.ref b), ("_deaths", V.ref d), ("_rows", V.ref r), ("_gaps", V.ref g)])) b = some (.dK []) := by rw [upd_ne pb.symm]; exact fb4
    have ed5 : (upd H9 p (.ins (clsA K "Database") dx [("generation", V.int 0), ("_clauses", V.ref c), ("_births", V.ref b), ("_deaths", V.ref d), ("_rows", V.ref r), ("_gaps", V.ref g)])) d = some (.dK []) := by rw [upd_ne pd.symm]; exact fd4
    have er5 : (upd H9 p (.ins (clsA K "Database") dx [("generation", V.int 0), ("_clauses", V.ref c), ("_births", V.ref b), ("_deaths", V.ref d), ("_rows", V.ref r), ("_gaps", V.ref g)])) r = some (.dT []) := by rw [upd_ne pr.symm]; exact fr4
    have eg5 : (upd H9 p (.ins (clsA K "Database") dx [("generation", V.int 0), ("_clauses", V.ref c), ("_births", V.ref b), ("_deaths", V.ref d), ("_rows", V.ref r), ("_gaps", V.ref g)])) g = some (.dT []) := by rw [upd_ne pg.symm]; exact fg4
    generalize upd H9 p (.ins (clsA K "Database") dx [("generation", V.int 0), ("_clauses", V.ref c), ("_births", V.ref b), ("_deaths", V.ref d), ("_rows", V.ref r), ("_gaps", V.ref g)]) = H10 at hp5 b5 nw5 ec5 eb5 ed5 er5 eg5 ⊢
    clear hq4 bq4 fq4 fc4 fb4 fd4 fr4 fg4
    walk_at "go"
    intro k nk
    have s5 := same_upd (o := .dK []) nk
    have zk := nw5 k nk
    have pk : p ≠ k := fun z => by rw [← z, hp5] at nk; cases nk
    have ck : c ≠ k := fun z => by rw [← z, ec5] at nk; cases nk
    have bk : b ≠ k := fun z => by rw [← z, eb5] at nk; cases nk
    have dk : d ≠ k := fun z => by rw [← z, ed5] at nk; cases nk
    have rk : r ≠ k := fun z => by rw [← z, er5] at nk; cases nk
    have gk : g ≠ k := fun z => by rw [← z, eg5] at nk; cases nk
    have hq5 := s5 _ _ hp5
    have bq5 := b5.new (o := .dK []) nk
    have fc5 := s5 _ _ ec5
    have fb5 := s5 _ _ eb5
    have fd5 := s5 _ _ ed5
    have fr5 := s5 _ _ er5
    have fg5 := s5 _ _ eg5
    have fk5 : (upd H10 k (.dK [])) k = some (.dK []) := upd_same
    have fq5 : ∀ z, (upd H10 k (.dK [])) z = Option.none → H z = Option.none := fun z hz => nw5 z (s5.free hz)
    clear nk
    generalize upd H10 k (.dK []) = H11 at hq5 bq5 fq5 fc5 fb5 fd5 fr5 fg5 fk5 ⊢
    clear hp5 b5 nw5 s5 ec5 eb5 ed5 er5 eg5
    walk_at "go"
    refine ⟨_, _, _, _, rfl, hq5, E.cl_Database, E.nA_Database__calls, by show 6 < 1000; decide, ?_⟩
    rw [pi_Database__calls (v__next_number := V.non) (v__next_call := V.non)]
    have hp6 : (upd H11 p (.ins (clsA K "Database") dx [("generation", V.int 0), ("_clauses", V.ref c), ("_births", V.ref b), ("_deaths", V.ref d), ("_rows", V.ref r), ("_gaps", V.ref g), ("_calls", V.ref k)])) p = some (.ins (clsA K "Database") dx [("generation", V.int 0), ("_clauses", V.ref c), ("_births", V.ref b), ("_deaths", V.ref d), ("_rows", V.ref r), ("_gaps", V.ref g), ("_calls", V.ref k)]) := upd_same
    have b6 : ButM [p] H (upd H11 p (.ins (clsA K "Database") dx [("generation", V.int 0), ("_clauses", V.ref c), ("_births", V.ref b), ("_deaths", V.ref d), ("_rows", V.ref r), ("_gaps", V.ref g), ("_calls", V.ref k)])) := bq5.put (List.mem_singleton.mpr rfl)
    have nw6 : ∀ z, (upd H11 p (.ins (clsA K "Database") dx [("generation", V.int 0), ("_clauses", V.ref c), ("_births", V.ref b), ("_deaths", V.ref d), ("_rows", V.ref r), ("_gaps", V.ref g), ("_calls", V.ref k)])) z = Option.none → H z = Option.none := fun z hz => by
      by_cases c : z = p
      · rw [c, upd_same] at hz; cases hz
      · rw [upd_ne c] at hz; exact fq5 z hz
    have ec6 : (upd H11 p (.ins (clsA K "Database") dx [("generation", V.int 0), ("_clauses", V.ref c), ("_births", V.ref b), ("_deaths", V.ref d), ("_rows", V.ref r), ("_gaps", V.ref g), ("_calls", V.ref k)])) c = some (.dK []) := by rw [upd_ne pc.symm]; exact fc5
    have eb6 : (upd H11 p (.ins (clsA K "Database") dx [("generation", V.int 0), ("_clauses", V.ref c), ("_births", V.ref b), ("_deaths", V.ref d), ("_rows", V.ref r), ("_gaps", V.ref g), ("_calls", V.ref k)])) b = some (.dK []) := by rw [upd_ne pb.symm]; exact fb5
    have ed6 : (upd H11 p (.ins (clsA K "Database") dx [("generation", V.int 0), ("_clauses", V.ref c), ("_births", V.ref b), ("_deaths", V.ref d), ("_rows", V.ref r), ("_gaps", V.ref g), ("_calls", V.ref k)])) d = some (.dK []) := by rw [upd_ne pd.symm]; exact fd5
    have er6 : (upd H11 p (.ins (clsA K "Database") dx [("generation", V.int 0), ("_clauses", V.ref c), ("_births", V.ref b), ("_deaths", V.ref d), ("_rows", V.ref r), ("_gaps", V.ref g), ("_calls", V.ref k)])) r = some (.dT []) := by rw [upd_ne pr.symm]; exact fr5
    have eg6 : (upd H11 p (.ins (clsA K "Database") dx [("generation", V.int 0), ("_clauses", V.ref c), ("_births", V.ref b), ("_deaths", V.ref d), ("_rows", V.ref r), ("_gaps", V.ref g), ("_calls", V.ref k)])) g = some (.dT []) := by rw [upd_ne pg.symm]; exact fg5
    have ek6 : (upd H11 p (.ins (clsA K "Database") dx [("generation", V.int 0), ("_clauses", V.ref c), ("_births", V.ref b), ("_deaths", V.ref d), ("_rows", V.ref r), ("_gaps", V.ref g), ("_calls", V.ref k)])) k = some (.dK []) := by rw [upd_ne pk.symm]; exact fk5
    generalize upd H11 p (.ins (clsA K "Database") dx [("generation", V.int 0), ("_clauses", V.ref c), ("_births", V.ref b), ("_deaths", V.ref d), ("_rows", V.ref r), ("_gaps", V.ref g), ("_calls", V.ref k)]) = H12 at hp6 b6 nw6 ec6 eb6 ed6 er6 eg6 ek6 ⊢
    clear hq5 bq5 fq5 fc5 fb5 fd5 fr5 fg5 fk5
    walk_at "go"
    refine ⟨_, _, _, _, rfl, hp6, E.cl_Database, E.nA_Database__next_number, by show 7 < 1000; decide, ?_⟩
    rw [pi_Database__next_number (v__next_call := V.non)]
    have hp7 : (upd H12 p (.ins (clsA K "Database") dx [("generation", V.int 0), ("_clauses", V.ref c), ("_births", V.ref b), ("_deaths", V.ref d), ("_rows", V.ref r), ("_gaps", V.ref g), ("_calls", V.ref k), ("_next_number", V.int 0)])) p = some (.ins (clsA K "Database") dx [("generation", V.int 0), ("_clauses", V.ref c), ("_births", V.ref b), ("_deaths", V.ref d), ("_rows", V.ref r), ("_gaps", V.ref g), ("_calls", V.ref k), ("_next_number", V.int 0)]) := upd_same
    have b7 : ButM [p] H (upd H12 p (.ins (clsA K "Database") dx [("generation", V.int 0), ("_clauses", V.ref c), ("_births", V.ref b), ("_deaths", V.ref d), ("_rows", V.ref r), ("_gaps", V.ref g), ("_calls", V.ref k), ("_next_number", V.int 0)])) := b6.put (List.mem_singleton.mpr rfl)
    have ec7 : (upd H12 p (.ins (clsA K "Database") dx [("generation", V.int 0), ("_clauses", V.ref c), ("_births", V.ref b), ("_deaths", V.ref d), ("_rows", V.ref r), ("_gaps", V.ref g), ("_calls", V.ref k), ("_next_number", V.int 0)])) c = some (.dK []) := by rw [upd_ne pc.symm]; exact ec6
    have eb7 : (upd H12 p (.ins (clsA K "Database") dx [("generation", V.int 0), ("_clauses", V.ref c), ("_births", V.ref b), ("_deaths", V.ref d), ("_rows", V.ref r), ("_gaps", V.ref g), ("_calls", V.ref k), ("_next_number", V.int 0)])) b = some (.dK []) := by rw [upd_ne pb.symm]; exact eb6
    have ed7 : (upd H12 p (.ins (clsA K "Database") dx [("generation", V.int 0), ("_clauses", V.ref c), ("_births", V.ref b), ("_deaths", V.ref d), ("_rows", V.ref r), ("_gaps", V.ref g), ("_calls", V.ref k), ("_next_number", V.int 0)])) d = some (.dK []) := by rw [upd_ne pd.symm]; exact ed6
    have er7 : (upd H12 p (.ins (clsA K "Database") dx [("generation", V.int 0), ("_clauses", V.ref c), ("_births", V.ref b), ("_deaths", V.ref d), ("_rows", V.ref r), ("_gaps", V.ref g), ("_calls", V.ref k), ("_next_number", V.int 0)])) r = some (.dT []) := by rw [upd_ne pr.symm]; exact er6
    have eg7 : (upd H12 p (.ins (clsA K "Database") dx [("generation", V.int 0), ("_clauses", V.ref c), ("_births", V.ref b), ("_deaths", V.ref d), ("_rows", V.ref r), ("_gaps", V.ref g), ("_calls", V.ref k), ("_next_number", V.int 0)])) g = some (.dT []) := by rw [upd_ne pg.symm]; exact eg6
    have ek7 : (upd H12 p (.ins (clsA K "Database") dx [("generation", V.int 0), ("_clauses", V.ref c), ("_births", V.ref b), ("_deaths", V.ref d), ("_rows", V.ref r), ("_gaps", V.ref g), ("_calls", V.ref k), ("_next_number", V.int 0)])) k = some (.dK []) := by rw [upd_ne pk.symm]; exact ek6
    generalize upd H12 p (.ins (clsA K "Database") dx [("generation", V.int 0), ("_clauses", V.ref c), ("_births", V.ref b), ("_deaths", V.ref d), ("_rows", V.ref r), ("_gaps", V.ref g), ("_calls", V.ref k), ("_next_number", V.int 0)]) = H13 at hp7 b7 ec7 eb7 ed7 er7 eg7 ek7 ⊢
    walk_at "go"
    refine ⟨_, _, _, _, rfl, hp7, E.cl_Database, E.nA_Database__next_call, by show 8 < 1000; decide, ?_⟩
    rw [pi_Database__next_call]
    have hp8 : (upd H13 p (.ins (clsA K "Database") dx [("generation", V.int 0), ("_clauses", V.ref c), ("_births", V.ref b), ("_deaths", V.ref d), ("_rows", V.ref r), ("_gaps", V.ref g), ("_calls", V.ref k), ("_next_number", V.int 0), ("_next_call", V.int 0)])) p = some (.ins (clsA K "Database") dx [("generation", V.int 0), ("_clauses", V.ref c), ("_births", V.ref b), ("_deaths", V.ref d), ("_rows", V.ref r), ("_gaps", V.ref g), ("_calls", V.ref k), ("_next_number", V.int 0), ("_next_call", V.int 0)]) := upd_same
    have b8 : ButM [p] H (upd H13 p (.ins (clsA K "Database") dx [("generation", V.int 0), ("_clauses", V.ref c), ("_births", V.ref b), ("_deaths", V.ref d), ("_rows", V.ref r), ("_gaps", V.ref g), ("_calls", V.ref k), ("_next_number", V.int 0), ("_next_call", V.int 0)])) := b7.put (List.mem_singleton.mpr rfl)
    have ec8 : (upd H13 p (.ins (clsA K "Database") dx [("generation", V.int 0), ("_clauses", V.ref c), ("_births", V.ref b), ("_deaths", V.ref d), ("_rows", V.ref r), ("_gaps", V.ref g), ("_calls", V.ref k), ("_next_number", V.int 0), ("_next_call", V.int 0)])) c = some (.dK []) := by rw [upd_ne pc.symm]; exact ec7
    have eb8 : (upd H13 p (.ins (clsA K "Database") dx [("generation", V.int 0), ("_clauses", V.ref c), ("_births", V.ref b), ("_deaths", V.ref d), ("_rows", V.ref r), ("_gaps", V.ref g), ("_calls", V.ref k), ("_next_number", V.int 0), ("_next_call", V.int 0)])) b = some (.dK []) := by rw [upd_ne pb.symm]; exact eb7
    have ed8 : (upd H13 p (.ins (clsA K "Database") dx [("generation", V.int 0), ("_clauses", V.ref c), ("_births", V.ref b), ("_deaths", V.ref d), ("_rows", V.ref r), ("_gaps", V.ref g), ("_calls", V.ref k), ("_next_number", V.int 0), ("_next_call", V.int 0)])) d = some (.dK []) := by rw [upd_ne pd.symm]; exact ed7
    have er8 : (upd H13 p (.ins (clsA K "Database") dx [("generation", V.int 0), ("_clauses", V.ref c), ("_births", V.ref b), ("_deaths", V.ref d), ("_rows", V.ref r), ("_gaps", V.ref g), ("_calls", V.ref k), ("_next_number", V.int 0), ("_next_call", V.int 0)])) r = some (.dT []) := by rw [upd_ne pr.symm]; exact er7
    have eg8 : (upd H13 p (.ins (clsA K "Database") dx [("generation", V.int 0), ("_clauses", V.ref c), ("_births", V.ref b), ("_deaths", V.ref d), ("_rows", V.ref r), ("_gaps", V.ref g), ("_calls", V.ref k), ("_next_number", V.int 0), ("_next_call", V.int 0)])) g = some (.dT []) := by rw [upd_ne pg.symm]; exact eg7
    have ek8 : (upd H13 p (.ins (clsA K "Database") dx [("generation", V.int 0), ("_clauses", V.ref c), ("_births", V.ref b), ("_deaths", V.ref d), ("_rows", V.ref r), ("_gaps", V.ref g), ("_calls", V.ref k), ("_next_number", V.int 0), ("_next_call", V.int 0)])) k = some (.dK []) := by rw [upd_ne pk.symm]; exact ek7
    generalize upd H13 p (.ins (clsA K "Database") dx [("generation", V.int 0), ("_clauses", V.ref c), ("_births", V.ref b), ("_deaths", V.ref d), ("_rows", V.ref r), ("_gaps", V.ref g), ("_calls", V.ref k), ("_next_number", V.int 0), ("_next_call", V.int 0)]) = H14 at hp8 b8 ec8 eb8 ed8 er8 eg8 ek8 ⊢
    walk_at "go"
    refine q ⟨p, dx, c, b, d, r, g, k⟩ H14 rfl b8 (fun x hx => ?_) ⟨hp8, ec8, eb8, ed8, er8, eg8, ek8, (fun x hx => nomatch hx), (fun x hx => nomatch hx), (fun x hx => nomatch hx), ?_⟩
    · unfold DAd.L at hx
      simp only [List.map_nil, List.append_nil, List.mem_cons, List.not_mem_nil, or_false] at hx
      rcases hx with rfl | rfl | rfl | rfl | rfl | rfl | rfl
      · exact .inl rfl
      · exact .inr zc
      · exact .inr zb
      · exact .inr zd
      · exact .inr zr
      · exact .inr zg
      · exact .inr zk
    · unfold DAd.L
      simp only [List.map_nil, List.append_nil, List.nodup_cons, List.mem_cons, List.not_mem_nil, or_false, not_or, not_false_eq_true, List.nodup_nil, and_true]
      exact ⟨⟨pc, pb, pd, pr, pg, pk⟩, ⟨cb, cd, cr, cg, ck⟩, ⟨bd, br, bg, bk⟩, ⟨dr, dg, dk⟩, ⟨rg, rk⟩, gk⟩

theorem ok_Database_clauses {f : Addr} {fd : FuncData} (F : FunD K "clauses" "Database.clauses" (defArgs s_Database_clauses) (defBody s_Database_clauses) (defScope s_Database_clauses) [] [("at", V.non)] f fd) (E : Bi K mg)  : FnOk P w K mg base (L2.CX P w) 1 f fd ["self", "name", "arity", "at"] (sp_Database_clauses K) := by
  refine F.ok sc_Database_clauses (fun vs H Q E h => ?_) (fun cdv A outer s H vs Q E' hr h => ?_)
  · obtain ⟨A, S, nm, ar, rfl, _⟩ := h
    rfl
  · obtain ⟨A, S, nm, ar, rfl, D, O, q⟩ := h
    refine ⟨_, (pss_cons (ps_if (pt_cmpR op_isN (pv 3) pe_non (nomark _)) (pss_one (ps_set (i := 3) sc_Database_clauses.nd rfl (Or.inr rfl) (pe_fld (pv 0) rfl))) pss_nil)
      (pss_cons (ps_if (pt_not (pt_chain op_le op_le pe_int (pv 3) (pe_fld (pv 0) rfl))) (pss_one (ps_raise rfl (takes_of rfl rfl rfl rfl) (pmk_own PySem.F.excBase_ValueError E.x_Forgotten.xC E.x_Forgotten.gC E.x_Forgotten.kC (raises_own E.x_Forgotten.bC E.x_Forgotten.tC) rfl))) pss_nil)
      (pss_cons (ps_for (passes_of rfl) rfl (pi_list (pe_dget2 (hu_of hr) (pe_fld (pv 0) rfl) (pe_tup (pa_cons (pv 1) (pa_cons (pv 2) pa_nil))) (pe_lst pa_nil) ⟨by rfl, by rfl, by rfl, by rfl⟩)) (pg_tup rfl (pgs_cons (pg_name (i := 4) sc_Database_clauses.nd rfl (Or.inl rfl)) (pgs_cons (pg_name (i := 5) sc_Database_clauses.nd rfl (Or.inl rfl)) pgs_nil))) (pss_one (ps_if (pt_chain op_le op_lt (pv 4) (pv 3) (pv 5)) (pss_one (ps_raise rfl (takes_of rfl rfl rfl rfl) (pmk_own PySem.F.excBase_ValueError E.x_Forgotten.xC E.x_Forgotten.gC E.x_Forgotten.kC (raises_own E.x_Forgotten.bC E.x_Forgotten.tC) rfl))) pss_nil)))
      (pss_one (ps_ret (pe_lc (own := [("number", 6)]) (g := gName 6) rfl sc_Database_clauses.nd (pi_list (pe_dget2 (hu_of hr) (pe_fld (pv 0) rfl) (pe_tup (pa_cons (pv 1) (pa_cons (pv 2) pa_nil))) (pe_lst pa_nil) ⟨by rfl, by rfl, by rfl, by rfl⟩)) (blkOk_by (N := N_Database_clauses) (sc := defScope s_Database_clauses) (by decide +kernel)) (fun _ _ _ _ _ => pg_name (i := 6) sc_Database_clauses.nd rfl (Or.inl rfl)) (fun _ _ _ _ _ => pts_one (pt_chain op_le op_lt (pe_dget (hu_of hr) (show PE _ _ (tFld K (tVar 0) "_births") from pe_fld (pv 0) rfl) (pv 6) (fun _ _ => rfl)) (pv 3) (pe_dget2 (hu_of hr) (show PE _ _ (tFld K (tVar 0) "_deaths") from pe_fld (pv 0) rfl) (pv 6) (pe_op op_add (pv 3) pe_int) ⟨by rfl, by rfl, by rfl, by rfl⟩))) (fun _ _ _ _ _ => (pe_tup (pa_cons (pv 6) (pa_cons (pe_ix (show IxR _ (rIxT K) from ix_tup) (pe_dget (hu_of hr) (show PE _ _ (tFld K (tVar 0) "_clauses") from pe_fld (pv 0) rfl) (pv 6) (fun _ _ => rfl)) pe_int (fun _ _ => rfl)) pa_nil)))))))))), ?_⟩
    refine st_of (σ := [some _, some _, some _, some _, none, none, none]) rfl ?_
    walk_at "go"
    refine ⟨rfl, ?_⟩
    walk_at "go"
    refine iteT ?_
    walk_at "go"
    refine ⟨_, _, _, _, _, rfl, D.ob, E.cl_Database, E.nA_Database_generation, fs_Database_generation, ?_⟩
    walk_at "go"
    refine g_chain ?_
    walk_at "go"
    rw [decide_eq_true (show (0 : Int) ≤ (S.gen : Nat) by omega)]
    refine iteT ?_
    walk_at "go"
    refine ⟨_, _, _, _, _, rfl, D.ob, E.cl_Database, E.nA_Database_generation, fs_Database_generation, ?_⟩
    walk_at "go"
    rw [decide_eq_true (Int.le_refl ((S.gen : Nat) : Int))]
    walk_at "go"
    refine ⟨_, _, _, _, _, rfl, D.ob, E.cl_Database, E.nA_Database__gaps, fs_Database__gaps, ?_⟩
    walk_at "go"
    refine ⟨_, rfl, .inr ⟨_, .inl D.eg⟩, ?_⟩
    walk_at "go"
    refine newN (n := 2) rfl (by decide) fun p2 np2 => ?_
    have s2 := same_upd (o := .tup [V.str nm, V.int ar]) np2
    have e2 : (upd H p2 (.tup [V.str nm, V.int ar])) p2 = some (.tup ((kI nm ar).map kV)) := upd_same
    have D2 := D.keep s2
    generalize upd H p2 (.tup [V.str nm, V.int ar]) = H2 at s2 e2 D2 ⊢
    walk_at "go"
    refine newN (n := 0) rfl (by decide) fun a0 na0 => ?_
    have s3 := same_upd (o := .lst []) na0
    have e3 : (upd H2 a0 (.lst [])) a0 = some (.lst []) := upd_same
    have D3 := D2.keep s3
    have e23 := s3 _ _ e2
    have s03 := s2.trans s3
    generalize upd H2 a0 (.lst []) = H3 at s3 e3 D3 e23 s03 ⊢
    refine ⟨_, .inr ⟨_, kI nm ar, p2, .inl D3.eg, rfl, e23, rfl⟩, ?_⟩
    refine ⟨a0, rfl, ⟨_, SqL.of e3⟩, for_list (K := K) (a := a0) (xs := []) (fun i σ H' => σ = [some (.ref A.p), some (.str nm), some (.int ar), some (.int (S.gen : Nat)), none, none, none] ∧ H' = H3) ⟨rfl, rfl⟩ (fun i σ H' _ ⟨_, e⟩ => by rw [e]; exact SqL.of e3) ?_ ?_⟩
    · rintro j z σ H' hz
      cases hz
    rintro σ H' ⟨rfl, rfl⟩
    walk_at "go"
    refine ⟨_, _, _, _, _, rfl, D3.ob, E.cl_Database, E.nA_Database__rows, fs_Database__rows, ?_⟩
    walk_at "go"
    refine ⟨_, rfl, .inr ⟨_, .inl D3.er⟩, ?_⟩
    walk_at "go"
    refine newN (n := 2) rfl (by decide) fun p4 np4 => ?_
    have s4 := same_upd (o := .tup [V.str nm, V.int ar]) np4
    have e4 : (upd H' p4 (.tup [V.str nm, V.int ar])) p4 = some (.tup ((kI nm ar).map kV)) := upd_same
    have D4 := D3.keep s4
    have s04 := s03.trans s4
    generalize upd H' p4 (.tup [V.str nm, V.int ar]) = H4 at s4 e4 D4 s04 ⊢
    walk_at "go"
    refine newN (n := 0) rfl (by decide) fun a5 na5 => ?_
    have s5 := same_upd (o := .lst []) na5
    have e5 : (upd H4 a5 (.lst [])) a5 = some (.lst []) := upd_same
    have D5 := D4.keep s5
    have e45 := s5 _ _ e4
    have s05 := s04.trans s5
    generalize upd H4 a5 (.lst []) = H5 at s5 e5 D5 e45 s05 ⊢
    refine ⟨_, .inr ⟨_, kI nm ar, p4, .inl D5.er, rfl, e45, rfl⟩, ?_⟩
    rw [val_ro]
    obtain ⟨ra, erow, ers⟩ : ∃ ra : Addr, (((S.roAt nm ar).map fun x => V.ref x.ad).getD (.ref a5)) = .ref ra ∧ H5 ra = some (.lst (intN (S.rowOf nm ar))) := by
      unfold DB.rowOf
      cases hr : S.roAt nm ar with
      | none => exact ⟨a5, rfl, e5⟩
      | some x => exact ⟨x.ad, rfl, D5.lr x (List.mem_of_find?_eq_some hr)⟩
    rw [erow]
    obtain ⟨z1, z2, z3, z4, z5, z6⟩ := O.sz
    have lrow : (S.rowOf nm ar).length ≤ 100000 := by
      unfold DB.rowOf
      cases hr : S.roAt nm ar with
      | none => exact Nat.zero_le _
      | some x => exact z6 x (List.mem_of_find?_eq_some hr)
    have okr : ∀ m ∈ S.rowOf nm ar, (S.clAt m).isSome = true ∧ (S.biAt m).isSome = true := fun m hm => by
      unfold DB.rowOf at hm
      cases hr : S.roAt nm ar with
      | none => rw [hr] at hm; nomatch hm
      | some x => rw [hr] at hm; exact O.ro x (List.mem_of_find?_eq_some hr) m hm
    refine ⟨ra, rfl, ⟨_, SqL.of ers⟩, fun W nW => ?_⟩
    have sW := same_upd (o := .lst []) nW
    refine lc_it walk_list (fun j H' => Same H5 H' ∧ ∃ ws, H' W = some (.lst ws) ∧ DpAll K (hidL (A.L S) (hidL [W] H')) ws ((((S.rowOf nm ar).take j).filter S.live).map S.pairOf)) ⟨sW, [], upd_same, .nil⟩ (fun j H' _ h => SqL.of (h.1 _ _ ers)) ?_ ?_
    · rintro j z H6 H7 hj ⟨s6, ws, e6, d6⟩ ⟨rfl, hz⟩
      unfold intN at hz
      rw [List.getElem?_map] at hz
      obtain ⟨m, hm, rfl⟩ := Option.map_eq_some_iff.mp hz
      have D6 := D5.keep s6
      obtain ⟨ok1, ok2⟩ := okr m (List.mem_of_getElem? hm)
      walk_at "wp"
      walk_at "go"
      refine ⟨rfl, ?_⟩
      walk_at "go"
      refine g_chain ?_
      walk_at "go"
      refine ⟨_, _, _, _, _, rfl, D6.ob, E.cl_Database, E.nA_Database__births, fs_Database__births, ?_⟩
      have hb : valV (S.bi.map prE) (kN m) = some (V.int (((S.biAt m).getD 0 : Nat) : Int)) := by
        rw [val_pr]
        obtain ⟨b, hb⟩ := Option.isSome_iff_exists.mp ok2
        rw [hb]
        have : (S.bi.find? fun x => decide (x.1 = m)).map (·.2) = some b := hb
        rw [this]
        rfl
      walk_at "go"
      refine ⟨_, _, rfl, by have := DGet.k (k := kN m) D6.eb; rw [hb] at this; exact this, ?_⟩
      walk_at "go"
      rw [decide_natle]
      have lws := DpAll.len d6
      rw [List.length_map] at lws
      have lt : ws.length < sizeLine := by
        rw [lws]
        refine lt_size (Nat.le_trans (List.length_filter_le _ _) ?_)
        rw [List.length_take]
        omega
      have et : (((S.rowOf nm ar).take (j + 1)).filter S.live).map S.pairOf = (((S.rowOf nm ar).take j).filter S.live).map S.pairOf ++ (if S.live m = true then [S.pairOf m] else []) := by
        rw [List.take_add_one, hm, List.filter_append, List.map_append]
        congr 1
        show List.map S.pairOf (List.filter S.live [m]) = _
        rw [List.filter_cons]
        split <;> rfl
      rw [et]
      have el : S.live m = (decide ((S.biAt m).getD 0 ≤ S.gen) && decide (S.gen < (S.deAt m).getD (S.gen + 1))) := rfl
      cases h1 : decide ((S.biAt m).getD 0 ≤ S.gen) with
      | false =>
        rw [h1, Bool.false_and] at el
        rw [el, if_neg Bool.false_ne_true, if_neg Bool.false_ne_true, List.append_nil]
        walk_at "go"
        exact ⟨s6, ws, e6, d6⟩
      | true =>
        rw [h1, Bool.true_and] at el
        refine iteT ?_
        walk_at "go"
        refine ⟨_, _, _, _, _, rfl, D6.ob, E.cl_Database, E.nA_Database__deaths, fs_Database__deaths, ?_⟩
        refine ⟨_, rfl, .inl ⟨_, .inl D6.ed⟩, ?_⟩
        walk_at "go"
        refine ⟨_, DGet.k (k := kN m) D6.ed, ?_⟩
        have hd : (valV (S.de.map prE) (kN m)).getD (V.int ((S.gen : Nat) + 1)) = V.int (((S.deAt m).getD (S.gen + 1) : Nat) : Int) := by
          rw [val_pr]
          have : (S.de.find? fun x => decide (x.1 = m)).map (·.2) = S.deAt m := rfl
          rw [this]
          cases S.deAt m <;> rfl
        rw [hd]
        walk_at "go"
        rw [decide_natlt]
        cases h2 : decide (S.gen < (S.deAt m).getD (S.gen + 1)) with
        | false =>
          rw [h2] at el
          rw [el, if_neg Bool.false_ne_true, if_neg Bool.false_ne_true, List.append_nil]
          exact ⟨s6, ws, e6, d6⟩
        | true =>
          rw [h2] at el
          rw [el, if_pos rfl, if_pos rfl]
          walk_at "go"
          refine ⟨_, _, _, _, _, rfl, D6.ob, E.cl_Database, E.nA_Database__clauses, fs_Database__clauses, ?_⟩
          walk_at "go"
          obtain ⟨y, hy⟩ := Option.isSome_iff_exists.mp ok1
          have my : y ∈ S.cl := List.mem_of_find?_eq_some hy
          have hv : valV (S.cl.map clE) (kN m) = some y.v := by rw [val_cl, hy]; rfl
          refine ⟨_, _, rfl, by have := DGet.k (k := kN m) D6.ec; rw [hv] at this; exact this, ?_⟩
          obtain ⟨ty, ys, ety, hty, aty⟩ := dp_tup (D5.dc y my)
          obtain ⟨v1, hv1, dv1⟩ := DpAll.get (i := 1) aty rfl
          rw [ety]
          walk_at "go"
          refine ixT (j := 1) (same_sqT (hidL_same.trans s6) hty) hv1 ?_
          walk_at "go"
          refine newN (n := 2) rfl (by decide) fun T nT => ?_
          have hTW : T ≠ W := fun z => by rw [z, e6] at nT; cases nT
          have hTL : T ∉ A.L S := fun z => by
            obtain ⟨o, ho⟩ := D6.there z
            rw [nT] at ho
            cases ho
          have sT := same_upd (o := .tup [V.int ((m : Nat) : Int), v1]) nT
          have eT : (upd H7 T (.tup [V.int ((m : Nat) : Int), v1])) T = some (.tup [V.int ((m : Nat) : Int), v1]) := upd_same
          have eW := sT _ _ e6
          have hm2 : Same (hidL (A.L S) (hidL [W] H7)) (hidL (A.L S) (hidL [W] (upd H7 T (.tup [V.int ((m : Nat) : Int), v1])))) := hidL_mono NewL.refl (ButM.of (hidL_mono NewL.refl (ButM.of sT)))
          have h5 : Same (hidL (A.L S) H5) (hidL (A.L S) (hidL [W] (upd H7 T (.tup [V.int ((m : Nat) : Int), v1])))) := fun z o h => by
            obtain ⟨c1, c2⟩ := hidL_some h
            have ne : z ≠ W := fun c => by rw [c, nW] at c2; cases c2
            rw [hidL_out c1, hidL_out (fun c => ne (List.mem_singleton.mp c))]
            exact sT _ _ (s6 _ _ c2)
          have hds : S.dsOf m = y.ds := by unfold DB.dsOf; rw [hy]; rfl
          have dT : Dp K (hidL (A.L S) (hidL [W] (upd H7 T (.tup [V.int ((m : Nat) : Int), v1])))) (.ref T) (S.pairOf m) := by
            unfold DB.pairOf
            rw [hds]
            exact .tup (SqT.of (by rw [hidL_out hTL, hidL_out (fun c => hTW (List.mem_singleton.mp c))]; exact eT)) (.cons (.int _) (.cons (dp_same h5 _ _ dv1) .nil))
          have d7 := dp_sameAll hm2 _ _ d6
          have s7 := s6.trans sT
          generalize upd H7 T (.tup [V.int ((m : Nat) : Int), v1]) = H8 at eW dT d7 s7 ⊢
          refine ⟨ws, eW, lt, same_new nW s7, ws ++ [V.ref T], upd_same, ?_⟩
          rw [hidL_put (List.mem_singleton.mpr rfl)]
          exact dpAll_end d7 dT
    · rintro H6 ⟨s6, ws, e6, d6⟩
      have li : (intN (S.rowOf nm ar)).length = (S.rowOf nm ar).length := by unfold intN; rw [List.length_map]
      rw [li, List.take_length] at d6
      walk_at "go"
      exact q W ws _ (s05.trans s6) (s05.free nW) e6 (dp_sameAll (fun x o h => by
        obtain ⟨h1, h2⟩ := hidL_some h
        rw [hidL_out h1]
        exact hidL_same _ _ h2) _ _ d6)

theorem ok_Database__exists {f : Addr} {fd : FuncData} (F : Fun K "_exists" "Database._exists" s_Database__exists f fd) (E : Bi K mg)  : FnOk P w K mg base CX0 1 f fd ["self", "number"] (sp_Database__exists K) := by
  refine F.ok sc_Database__exists (fun vs H Q E h => ?_) (fun cdv A outer s H vs Q E' hr h => ?_)
  · obtain ⟨A, S, n, rfl, _⟩ := h
    rfl
  · obtain ⟨A, S, n, rfl, D, q⟩ := h
    refine ⟨_, (pss_one (ps_ret (pe_and (pe_cmp (pc_din (hu_of hr) (pv 1) (pe_fld (pv 0) rfl))) (pe_one (pe_cmp (pc_dnotin (hu_of hr) (pv 1) (pe_fld (pv 0) rfl))))))), ?_⟩
    refine st_of (σ := [some _, some _]) rfl ?_
    have e1 := val_cl S n
    have e2 : valV (S.de.map prE) (kN n) = (S.deAt n).map fun m => V.int ((m : Nat) : Int) := val_pr S.de n
    have q : Q (.bl ((S.clAt n).isSome && !(S.deAt n).isSome)) H := q
    walk_at "go"
    refine ⟨_, _, _, _, _, rfl, D.ob, E.cl_Database, E.nA_Database__clauses, fs_Database__clauses, _, _, rfl, DGet.k (k := kN n) D.ec, ?_⟩
    rw [e1]
    refine ⟨_, rfl, ?_⟩
    rw [Option.isSome_map]
    cases hc : (S.clAt n).isSome with
    | false =>
      rw [hc] at q
      exact iteF q
    | true =>
      rw [hc] at q
      refine iteT ?_
      walk_at "go"
      refine ⟨_, _, _, _, _, rfl, D.ob, E.cl_Database, E.nA_Database__deaths, fs_Database__deaths, _, _, rfl, DGet.k (k := kN n) D.ed, ?_⟩
      rw [e2, Option.isSome_map]
      exact q

theorem ok_Database__left {f : Addr} {fd : FuncData} (F : Fun K "_left" "Database._left" s_Database__left f fd) (E : Bi K mg)  : FnOk P w K mg base (L2.CX P w) 1 f fd ["self", "call"] (sp_Database__left K) := by
  refine F.okX sc_Database__left (fun vs H Q E h => ?_) (fun cdv A outer s H vs Q E' hr h => ?_)
  · obtain ⟨A, S, n, c, rfl, _⟩ := h
    rfl
  · obtain ⟨A, S, n, c, rfl, D, hc, q⟩ := h
    refine ⟨_, (pss_cons (ps_if (pt_cmp (pc_dnotin (hu_of hr) (pv 1) (pe_fld (pv 0) rfl))) (pss_one (ps_raise rfl (takes_of rfl rfl rfl rfl) (pmk_own PySem.F.excBase_ValueError E.x_Closed.xC E.x_Closed.gC E.x_Closed.kC (raises_own E.x_Closed.bC E.x_Closed.tC) rfl))) pss_nil)
      (pss_one (ps_ret (pe_dget (hu_of hr) (pe_fld (pv 0) rfl) (pv 1) (fun _ _ => rfl))))), ?_⟩
    refine st_of (σ := [some _, some _]) rfl ?_
    have e1 := val_ca S n
    rw [hc] at e1
    walk_at "go"
    refine ⟨_, _, _, _, _, rfl, D.ob, E.cl_Database, E.nA_Database__calls, fs_Database__calls, _, _, rfl, DGet.k (k := kN n) D.ek, ?_⟩
    rw [e1]
    refine ⟨_, rfl, iteF ?_⟩
    walk_at "go"
    refine ⟨_, _, _, _, _, rfl, D.ob, E.cl_Database, E.nA_Database__calls, fs_Database__calls, ?_⟩
    walk_at "go"
    refine ⟨_, _, rfl, ?_, q⟩
    have := DGet.k (k := kN n) D.ek
    rw [e1] at this
    exact this

theorem ok__law_stream {f : Addr} {fd : FuncData} (F : Fun K "_law_stream" "_law_stream" s__law_stream f fd) (E : Bi K mg)  : FnOk P w K mg base CX0 1 f fd ["script"] (sp__law_stream K) := by
  refine F.ok sc__law_stream (fun vs H Q E h => ?_) (fun cdv A outer s H vs Q E' hr h => ?_)
  · obtain ⟨a, ns, rfl, _⟩ := h
    rfl
  · obtain ⟨a, ns, rfl, hS, hl, q⟩ := h
    refine ⟨_, (pss_cons (ps_set (i := 1) sc__law_stream.nd rfl (Or.inl rfl) pe_int)
      (pss_cons (ps_for PassesOwn.never rfl (pi_list (pv 0)) (pg_name (i := 2) sc__law_stream.nd rfl (Or.inl rfl)) (pss_one (ps_set (i := 1) sc__law_stream.nd rfl (Or.inl rfl) (pe_op op_mod (pe_callTy call_int1 (by rfl) E.b_int (by decide +kernel) (pa_cons (pe_op op_add (pe_op op_add (pe_op op_mul (pv 1) pe_int) (pe_op op_mod (pe_callTy call_int1 (by rfl) E.b_int (by decide +kernel) (pa_cons (pv 2) pa_nil)) pe_int)) pe_int) pa_nil)) pe_int))))
      (pss_one (ps_ret (pe_lst (pa_cons (pe_callTy call_list_of (by rfl) E.b_list (by decide +kernel) (pa_cons (pv 0) pa_nil)) (pa_cons pe_int (pa_cons pe_int (pa_cons (pv 1) pa_nil))))))))), ?_⟩
    refine ⟨_, rfl, a, rfl, ⟨_, hS⟩, for_list (K := K) (a := a) (xs := ns.map V.int) (fun i σ H1 => ∃ (m : Int) (v : Option V), σ = [some (.ref a), some (.int m), v] ∧ H1 = H ∧ 0 ≤ m ∧ m < 2147483647)
      ⟨17, none, rfl, rfl, by decide, by decide⟩ (fun i σ H1 _ ⟨_, _, _, e, _⟩ => by rw [e]; exact hS) ?_ ?_⟩
    · rintro i y σ H1 hi ⟨m, v, rfl, rfl, h0, h1⟩
      obtain ⟨z, rfl⟩ : ∃ z, y = V.int z := by
        rw [List.getElem?_map] at hi
        cases e : ns[i]? with
        | none =>
          rw [e] at hi
          cases hi
        | some z =>
          rw [e] at hi
          exact ⟨z, (Option.some.inj hi).symm⟩
      refine ⟨_, rfl, _, _, rfl, rfl, .inr ⟨by decide, by decide⟩, _, rfl, .inl ⟨_, rfl, _, _, rfl, rfl, (by decide : (0 : Int) < 65521), _, _, rfl, rfl, _, _, rfl, rfl, .inl ⟨_, rfl, _, _, rfl, rfl, (by decide : (0 : Int) < 2147483647), ?_⟩⟩⟩
      exact ⟨_, _, rfl, rfl, Int.emod_nonneg _ (by decide), Int.emod_lt_of_pos _ (by decide)⟩
    · rintro σ H1 ⟨m, v, rfl, rfl, h0, h1⟩
      refine ⟨_, rfl, a, _, rfl, .inl hS, fun l hl2 => ⟨_, rfl, (by show 4 ≤ sizeLine; decide), fun p hp => ?_⟩⟩
      have npl : l ≠ p := fun z => by
        rw [← z, upd_same] at hp
        cases hp
      refine q p l _ ((same_upd hl2).free hp) hl2 ((same_upd hl2).trans (same_upd hp)) ⟨0, 0, m, ns, upd_same, ?_, hl, Int.le_refl 0, Int.le_refl 0, h0, h1⟩
      rw [upd_ne npl, upd_same]

theorem ok__law_draw {f : Addr} {fd : FuncData} (F : Fun K "_law_draw" "_law_draw" s__law_draw f fd) (E : Bi K mg)  : FnOk P w K mg base CX0 1 f fd ["stream", "many"] (sp__law_draw K) := by
  refine F.ok sc__law_draw (fun vs H Q E h => ?_) (fun cdv A outer s H vs Q E' hr h => ?_)
  · obtain ⟨s, l, n, rfl, _⟩ := h
    rfl
  · obtain ⟨p, l, n, rfl, hS, hn, hn2, q⟩ := h
    obtain ⟨a, b, m, ns, h1, h2, hlen, ha, hb, hm, hm2⟩ := hS.ex
    have nlp : l ≠ p := fun z => by
      rw [z, h1] at h2
      have h3 := HO.lst.inj (Option.some.inj h2)
      cases ns with
      | nil => cases h3
      | cons x r => cases (List.cons.inj h3).1
    refine ⟨_, (pss_cons (ps_if (pw_and (pt_cmpR op_eq (pe_ix ix_list (pv 0) pe_int (fun _ _ => rfl)) pe_int (nomark _)) (pw_and1 (pt_cmpR op_lt (pe_ix ix_list (pv 0) pe_int (fun _ _ => rfl)) (pe_callB call_len_seq (by rfl) E.b_len PySem.boot_len (pa_cons (pe_ix ix_list (pv 0) pe_int (fun _ _ => rfl)) pa_nil)) (nomark _)))).pt (pss_cons (ps_asg (pe_callB call_abs (by rfl) E.b_abs (by decide +kernel) (pa_cons (pe_callTy call_int1 (by rfl) E.b_int (by decide +kernel) (pa_cons (pe_ix ix_list (pe_ix ix_list (pv 0) pe_int (fun _ _ => rfl)) (pe_ix ix_list (pv 0) pe_int (fun _ _ => rfl)) (fun _ _ => rfl)) pa_nil)) pa_nil)) (pg_sub (pv 0) pe_int set_list))
      (pss_one (ps_asg (pe_op op_add (pe_ix ix_list (pv 0) pe_int (fun _ _ => rfl)) pe_int) (pg_sub (pv 0) pe_int set_list)))) pss_nil)
      (pss_cons (ps_if (pt_cmpR op_eq (pe_ix ix_list (pv 0) pe_int (fun _ _ => rfl)) pe_int (nomark _)) (pss_cons (ps_asg (pe_op op_mod (pe_callTy call_int1 (by rfl) E.b_int (by decide +kernel) (pa_cons (pe_op op_add (pe_op op_mul (pe_ix ix_list (pv 0) pe_int (fun _ _ => rfl)) pe_int) pe_int) pa_nil)) pe_int) (pg_sub (pv 0) pe_int set_list))
      (pss_one (ps_ret (pe_op op_mod (pe_callTy call_int1 (by rfl) E.b_int (by decide +kernel) (pa_cons (pe_op op_fdivW (pe_ix ix_list (pv 0) pe_int (fun _ _ => rfl)) pe_int) pa_nil)) (pv 1))))) pss_nil)
      (pss_cons (ps_set (i := 2) sc__law_draw.nd rfl (Or.inl rfl) (pe_op op_mod (pe_callTy call_int1 (by rfl) E.b_int (by decide +kernel) (pa_cons (pe_ix ix_list (pv 0) pe_int (fun _ _ => rfl)) pa_nil)) (pv 1)))
      (pss_cons (ps_asg (pe_op op_fdivW (pe_ix ix_list (pv 0) pe_int (fun _ _ => rfl)) (pv 1)) (pg_sub (pv 0) pe_int set_list))
      (pss_one (ps_ret (pv 2))))))), ?_⟩
    refine ⟨_, rfl, _, _, _, _, rfl, rfl, SqL.of h1, atI_nat (j := 1) rfl, rfl, _, rfl, ite2 (fun e => ?_) (fun e => ?_)⟩
    · refine ⟨_, rfl, _, _, _, _, rfl, rfl, SqL.of h1, atI_nat (j := 2) rfl, _, rfl, _, _, _, _, rfl, rfl, SqL.of h1, atI_nat (j := 0) rfl, _, _, rfl, .inl (SqL.of h2), _, _, rfl, rfl, _, rfl, ite2 (fun e1 => ?_) (fun e1 => ?_)⟩
      · have e2 : b < (ns.map V.int).length := of_decide_eq_true e1
        rw [List.length_map] at e2
        have hz : (ns.map V.int)[b.toNat]? = some (V.int (ns[b.toNat]'(by omega))) := by
          rw [List.getElem?_map, List.getElem?_eq_getElem (by omega)]
          rfl
        refine ⟨_, rfl, _, _, _, _, rfl, rfl, SqL.of h1, atI_nat (j := 0) rfl, _, rfl, _, _, _, _, rfl, rfl, SqL.of h1, atI_nat (j := 2) rfl, _, _, _, _, rfl, rfl, SqL.of h2, at_of (j := b.toNat) (by omega) hz, .inl ⟨_, rfl, _, rfl, _, rfl, _, _, _, _, rfl, rfl, h1, rfl, ?_⟩⟩
        refine ⟨_, rfl, _, _, _, _, rfl, rfl, SqL.of upd_same, atI_nat (j := 2) rfl, _, _, rfl, rfl, _, rfl, _, _, _, _, rfl, rfl, upd_same, rfl, ?_⟩
        generalize hH : upd _ p _ = H1
        have hX : ∃ a' b' : Int, H1 p = some (.lst [.ref l, .int a', .int b', .int m]) ∧ 0 ≤ a' ∧ 0 ≤ b' := ⟨_, _, by rw [← hH]; exact upd_same, by split <;> omega, by omega⟩
        have hB : But p H H1 := by rw [← hH]; exact But.put.trans But.put
        have hL : H1 l = some (.lst (ns.map V.int)) := hB l _ nlp h2
        clear hH
        obtain ⟨a', b', hX, ha', hb'⟩ := hX
        refine ⟨_, rfl, _, _, _, _, rfl, rfl, SqL.of hX, atI_nat (j := 1) rfl, rfl, _, rfl, ite2 (fun e3 => ?_) (fun e3 => ?_)⟩
        · refine ⟨_, rfl, _, _, _, _, rfl, rfl, SqL.of hX, atI_nat (j := 3) rfl, _, _, rfl, rfl, .inr ⟨by decide, by decide⟩, _, _, rfl, rfl, .inl ⟨_, rfl, _, _, rfl, rfl, (by decide : (0 : Int) < 2147483647), _, rfl, _, _, _, _, rfl, rfl, hX, rfl, ?_⟩⟩
          refine ⟨_, rfl, _, _, _, _, rfl, rfl, SqL.of upd_same, atI_nat (j := 3) rfl, _, _, rfl, rfl, wide_div (b := 64) (by decide) (by decide) (by decide) (by decide), .inl ⟨_, rfl, _, rfl, _, _, rfl, rfl, hn, ?_⟩⟩
          exact q _ _ (Int.emod_nonneg _ (by omega)) (Int.emod_lt_of_pos _ hn) (hB.trans But.put) ⟨a', b', _, ns, upd_same, by rw [upd_ne nlp]; exact hL, hlen, ha', hb', Int.emod_nonneg _ (by decide), Int.emod_lt_of_pos _ (by decide)⟩
        · refine ⟨_, rfl, _, _, _, _, rfl, rfl, SqL.of hX, atI_nat (j := 1) rfl, .inl ⟨_, rfl, _, rfl, _, _, rfl, rfl, hn, ?_⟩⟩
          refine ⟨_, rfl, _, _, _, _, rfl, rfl, SqL.of hX, atI_nat (j := 1) rfl, _, rfl, _, _, rfl, rfl, wide_div hn hn2 (by decide) (by decide), _, rfl, _, _, _, _, rfl, rfl, hX, rfl, ?_⟩
          refine ⟨_, rfl, ?_⟩
          exact q _ _ (Int.emod_nonneg _ (by omega)) (Int.emod_lt_of_pos _ hn) (hB.trans But.put) ⟨_, b', m, ns, upd_same, by rw [upd_ne nlp]; exact hL, hlen, Int.ediv_nonneg ha' (by omega), hb', hm, hm2⟩
      · have hX : ∃ a' b' : Int, H p = some (.lst [.ref l, .int a', .int b', .int m]) ∧ 0 ≤ a' ∧ 0 ≤ b' := ⟨_, _, h1, ha, hb⟩
        have hB : But p H H := But.refl p H
        have hL := h2
        obtain ⟨a', b', hX, ha', hb'⟩ := hX
        refine ⟨_, rfl, _, _, _, _, rfl, rfl, SqL.of hX, atI_nat (j := 1) rfl, rfl, _, rfl, ite2 (fun e3 => ?_) (fun e3 => ?_)⟩
        · refine ⟨_, rfl, _, _, _, _, rfl, rfl, SqL.of hX, atI_nat (j := 3) rfl, _, _, rfl, rfl, .inr ⟨by decide, by decide⟩, _, _, rfl, rfl, .inl ⟨_, rfl, _, _, rfl, rfl, (by decide : (0 : Int) < 2147483647), _, rfl, _, _, _, _, rfl, rfl, hX, rfl, ?_⟩⟩
          refine ⟨_, rfl, _, _, _, _, rfl, rfl, SqL.of upd_same, atI_nat (j := 3) rfl, _, _, rfl, rfl, wide_div (b := 64) (by decide) (by decide) (by decide) (by decide), .inl ⟨_, rfl, _, rfl, _, _, rfl, rfl, hn, ?_⟩⟩
          exact q _ _ (Int.emod_nonneg _ (by omega)) (Int.emod_lt_of_pos _ hn) (hB.trans But.put) ⟨a', b', _, ns, upd_same, by rw [upd_ne nlp]; exact hL, hlen, ha', hb', Int.emod_nonneg _ (by decide), Int.emod_lt_of_pos _ (by decide)⟩
        · refine ⟨_, rfl, _, _, _, _, rfl, rfl, SqL.of hX, atI_nat (j := 1) rfl, .inl ⟨_, rfl, _, rfl, _, _, rfl, rfl, hn, ?_⟩⟩
          refine ⟨_, rfl, _, _, _, _, rfl, rfl, SqL.of hX, atI_nat (j := 1) rfl, _, rfl, _, _, rfl, rfl, wide_div hn hn2 (by decide) (by decide), _, rfl, _, _, _, _, rfl, rfl, hX, rfl, ?_⟩
          refine ⟨_, rfl, ?_⟩
          exact q _ _ (Int.emod_nonneg _ (by omega)) (Int.emod_lt_of_pos _ hn) (hB.trans But.put) ⟨_, b', m, ns, upd_same, by rw [upd_ne nlp]; exact hL, hlen, Int.ediv_nonneg ha' (by omega), hb', hm, hm2⟩
    · have hX : ∃ a' b' : Int, H p = some (.lst [.ref l, .int a', .int b', .int m]) ∧ 0 ≤ a' ∧ 0 ≤ b' := ⟨_, _, h1, ha, hb⟩
      have hB : But p H H := But.refl p H
      have hL := h2
      obtain ⟨a', b', hX, ha', hb'⟩ := hX
      refine ⟨_, rfl, _, _, _, _, rfl, rfl, SqL.of hX, atI_nat (j := 1) rfl, rfl, _, rfl, ite2 (fun e3 => ?_) (fun e3 => ?_)⟩
      · refine ⟨_, rfl, _, _, _, _, rfl, rfl, SqL.of hX, atI_nat (j := 3) rfl, _, _, rfl, rfl, .inr ⟨by decide, by decide⟩, _, _, rfl, rfl, .inl ⟨_, rfl, _, _, rfl, rfl, (by decide : (0 : Int) < 2147483647), _, rfl, _, _, _, _, rfl, rfl, hX, rfl, ?_⟩⟩
        refine ⟨_, rfl, _, _, _, _, rfl, rfl, SqL.of upd_same, atI_nat (j := 3) rfl, _, _, rfl, rfl, wide_div (b := 64) (by decide) (by decide) (by decide) (by decide), .inl ⟨_, rfl, _, rfl, _, _, rfl, rfl, hn, ?_⟩⟩
        exact q _ _ (Int.emod_nonneg _ (by omega)) (Int.emod_lt_of_pos _ hn) (hB.trans But.put) ⟨a', b', _, ns, upd_same, by rw [upd_ne nlp]; exact hL, hlen, ha', hb', Int.emod_nonneg _ (by decide), Int.emod_lt_of_pos _ (by decide)⟩
      · refine ⟨_, rfl, _, _, _, _, rfl, rfl, SqL.of hX, atI_nat (j := 1) rfl, .inl ⟨_, rfl, _, rfl, _, _, rfl, rfl, hn, ?_⟩⟩
        refine ⟨_, rfl, _, _, _, _, rfl, rfl, SqL.of hX, atI_nat (j := 1) rfl, _, rfl, _, _, rfl, rfl, wide_div hn hn2 (by decide) (by decide), _, rfl, _, _, _, _, rfl, rfl, hX, rfl, ?_⟩
        refine ⟨_, rfl, ?_⟩
        exact q _ _ (Int.emod_nonneg _ (by omega)) (Int.emod_lt_of_pos _ hn) (hB.trans But.put) ⟨_, b', m, ns, upd_same, by rw [upd_ne nlp]; exact hL, hlen, Int.ediv_nonneg ha' (by omega), hb', hm, hm2⟩

theorem ok__law_is_variable {f : Addr} {fd : FuncData} (F : Fun K "_law_is_variable" "_law_is_variable" s__law_is_variable f fd) (E : Bi K mg)  : FnOk P w K mg base CX0 1 f fd ["node"] (sp__law_is_variable K) := by
  refine F.ok sc__law_is_variable (fun vs H Q E h => ?_) (fun cdv A outer s H vs Q E' hr h => ?_)
  · obtain ⟨x, d, rfl, _⟩ := h
    rfl
  · obtain ⟨x, d, rfl, hd, ⟨wd, nd⟩, q⟩ := h
    refine ⟨_, (pss_one (ps_ret (pe_and (pe_callB call_isi (by rfl) E.b_isinstance (by decide +kernel) (pa_cons (pv 0) (pa_cons (pe_ty "tuple" (by rfl) E.b_tuple (by decide +kernel)) pa_nil))) (pe_one (pe_cmpR op_eq (pe_ix ix_tup (pv 0) pe_int (fun _ _ => rfl)) pe_str (nomark _)))))), ?_⟩
    refine ⟨x, rfl, _, _, _, _, _, rfl, .ty _, tyx_of hd, kit_ty (kitT _), _, rfl, ?_⟩
    cases nd with
    | v n h1 h2 =>
      cases hd with
      | tup hs ha =>
        obtain ⟨v, hv, hdv⟩ := DpAll.get (i := 0) ha rfl
        cases hdv
        refine iteT ⟨_, rfl, _, _, _, _, rfl, rfl, hs, atI_nat (j := 0) hv, rfl, ?_⟩
        rw [decide_eq_true rfl]
        exact q
    | i n h1 h2 => exact iteF q
    | f y n h1 h2 h3 =>
      cases hd with
      | tup hs ha =>
        obtain ⟨v, hv, hdv⟩ := DpAll.get (i := 0) ha rfl
        cases hdv
        refine iteT ⟨_, rfl, _, _, _, _, rfl, rfl, hs, atI_nat (j := 0) hv, rfl, ?_⟩
        rw [show decide (V.str (Str.ofString "f") = V.str (Str.ofString "v")) = false by decide +kernel]
        exact q

theorem ok__law_head {f : Addr} {fd : FuncData} (F : Fun K "_law_head" "_law_head" s__law_head f fd) (E : Bi K mg)  : FnOk P w K mg base CX0 1 f fd ["clause"] (sp__law_head K) := by
  refine F.ok sc__law_head (fun vs H Q E h => ?_) (fun cdv A outer s H vs Q E' hr h => ?_)
  · obtain ⟨x, ds, nm, ar, rfl, _⟩ := h
    rfl
  · obtain ⟨x, ds, nm, ar, rfl, dx, hd, q⟩ := h
    refine ⟨_, (pss_cons (ps_set (i := 1) sc__law_head.nd rfl (Or.inl rfl) (pe_ix ix_tup (pv 0) pe_int (fun _ _ => rfl)))
      (pss_cons (ps_if (pt_cmpR (op_eqD hr.units) (pv 1) (pe_tup (pa_cons pe_str (pa_cons pe_str (pa_cons pe_int pa_nil)))) (nomark _)) (pss_one (ps_set (i := 1) sc__law_head.nd rfl (Or.inl rfl) (pe_ix ix_tup (pv 0) pe_int (fun _ _ => rfl)))) pss_nil)
      (pss_one (ps_ret (pe_tup (pa_cons (pe_ix ix_tup (pv 1) pe_int (fun _ _ => rfl)) (pa_cons (pe_ix ix_tup (pv 1) pe_int (fun _ _ => rfl)) pa_nil))))))), ?_⟩
    refine st_of (σ := [some _, none]) rfl ?_
    walk_at "go"
    obtain ⟨ax, xs, rfl, sx, axs⟩ := dp_tup dx
    obtain ⟨nh, ⟨r, rfl, ne⟩ | ⟨r, rfl⟩⟩ := hd
    · obtain ⟨w0, hw0, dw0⟩ := DpAll.get (i := 0) axs rfl
      refine ixT (j := 0) sx hw0 ?_
      walk_at "go"
      refine newN (n := 3) rfl (by decide) fun P nP => ?_
      have sP := same_upd (o := .tup [V.str (Str.ofString "f"), V.str (Str.ofString ":-"), V.int 2]) nP
      refine ⟨nodeF nm ar, clN, dp_same sP _ _ dw0, .tup (SqT.of upd_same) (.cons (.str _) (.cons (.str _) (.cons (.int _) .nil))), nd_shaped nh, nd_shaped cl_nd, _, rfl, ?_⟩
      rw [ne]
      walk_at "go"
      obtain ⟨c3, zz, rfl, hc3, az3⟩ := dp_tup dw0
      obtain ⟨y0, y1, y2, rfl, dy0, dy1, dy2⟩ : ∃ u v w, zz = [u, v, w] ∧ Dp K H u (.str "f") ∧ Dp K H v (.str nm) ∧ Dp K H w (.int ar) := by
        cases az3 with
        | cons a1 r1 =>
          cases r1 with
          | cons a2 r2 =>
            cases r2 with
            | cons a3 r3 =>
              cases r3
              exact ⟨_, _, _, rfl, a1, a2, a3⟩
      cases dy1
      cases dy2
      have hc4 := same_sqT sP hc3
      refine ixT (j := 1) hc4 rfl ?_
      walk_at "go"
      refine ixT (j := 2) hc4 rfl ?_
      walk_at "go"
      refine newN (n := 2) rfl (by decide) fun T nT => ?_
      exact q T _ (sP.trans (same_upd nT)) (sP.free nT) upd_same
    · obtain ⟨w0, hw0, dw0⟩ := DpAll.get (i := 0) axs rfl
      obtain ⟨w1, hw1, dw1⟩ := DpAll.get (i := 1) axs rfl
      refine ixT (j := 0) sx hw0 ?_
      walk_at "go"
      refine newN (n := 3) rfl (by decide) fun P nP => ?_
      have sP := same_upd (o := .tup [V.str (Str.ofString "f"), V.str (Str.ofString ":-"), V.int 2]) nP
      refine ⟨clN, clN, dp_same sP _ _ dw0, .tup (SqT.of upd_same) (.cons (.str _) (.cons (.str _) (.cons (.int _) .nil))), nd_shaped cl_nd, nd_shaped cl_nd, _, rfl, ?_⟩
      rw [nd_refl cl_nd]
      refine iteT ?_
      walk_at "go"
      refine ixT (j := 1) (same_sqT sP sx) hw1 ?_
      walk_at "go"
      obtain ⟨c3, zz, rfl, hc3, az3⟩ := dp_tup dw1
      obtain ⟨y0, y1, y2, rfl, dy0, dy1, dy2⟩ : ∃ u v w, zz = [u, v, w] ∧ Dp K H u (.str "f") ∧ Dp K H v (.str nm) ∧ Dp K H w (.int ar) := by
        cases az3 with
        | cons a1 r1 =>
          cases r1 with
          | cons a2 r2 =>
            cases r2 with
            | cons a3 r3 =>
              cases r3
              exact ⟨_, _, _, rfl, a1, a2, a3⟩
      cases dy1
      cases dy2
      have hc4 := same_sqT sP hc3
      refine ixT (j := 1) hc4 rfl ?_
      walk_at "go"
      refine ixT (j := 2) hc4 rfl ?_
      walk_at "go"
      refine newN (n := 2) rfl (by decide) fun T nT => ?_
      exact q T _ (sP.trans (same_upd nT)) (sP.free nT) upd_same

theorem ok__law_model {f : Addr} {fd : FuncData} (F : Fun K "_law_model" "_law_model" s__law_model f fd) (E : Bi K mg)  : FnOk P w K mg base CX0 1 f fd [] (sp__law_model K) := by
  refine F.ok sc__law_model (fun vs H Q E h => ?_) (fun cdv A outer s H vs Q E' hr h => ?_)
  · obtain ⟨rfl, _⟩ := h
    rfl
  · obtain ⟨rfl, q⟩ := h
    refine ⟨_, (pss_one (ps_ret (pe_disp (pps_cons pe_str pe_int (pps_cons pe_str (pe_lst pa_nil) (pps_cons pe_str (pe_lst pa_nil) (pps_cons pe_str (pe_lst pa_nil) (pps_cons pe_str (pe_lst pa_nil) pps_nil))))) (by rfl) (by rfl) (fun z => by cases z) (by decide)))), ?_⟩
    refine st_of (σ := []) rfl ?_
    walk_at "go"
    intro D nD
    have sD := same_upd (o := .dK []) nD
    have eD : (upd H D (.dK [])) D = some (.dK []) := upd_same
    generalize upd H D (.dK []) = H1 at sD eD ⊢
    unfold tPairs
    walk_at "go"
    unfold tPairs
    walk_at "go"
    refine newN (n := 0) rfl (by decide) fun R nR => ?_
    have s1 := same_upd (o := .lst []) nR
    have e1 : (upd H1 R (.lst [])) R = some (.lst []) := upd_same
    have d1 := s1 _ _ eD
    have ne1 : D ≠ R := fun z => by rw [← z, eD] at nR; cases nR
    have nR0 := sD.free nR
    have t1 := sD.trans s1
    generalize upd H1 R (.lst []) = H2 at s1 e1 d1 t1 ⊢
    unfold tPairs
    walk_at "go"
    refine newN (n := 0) rfl (by decide) fun O nO => ?_
    have s2 := same_upd (o := .lst []) nO
    have e2 : (upd H2 O (.lst [])) O = some (.lst []) := upd_same
    have d2 := s2 _ _ d1
    have r2 := s2 _ _ e1
    have ne2 : D ≠ O := fun z => by rw [← z, d1] at nO; cases nO
    have ne3 : R ≠ O := fun z => by rw [← z, e1] at nO; cases nO
    have nO0 := t1.free nO
    have t2 := t1.trans s2
    generalize upd H2 O (.lst []) = H3 at s2 e2 d2 r2 t2 ⊢
    unfold tPairs
    walk_at "go"
    refine newN (n := 0) rfl (by decide) fun C nC => ?_
    have s3 := same_upd (o := .lst []) nC
    have e3 : (upd H3 C (.lst [])) C = some (.lst []) := upd_same
    have d3 := s3 _ _ d2
    have r3 := s3 _ _ r2
    have o3 := s3 _ _ e2
    have ne4 : D ≠ C := fun z => by rw [← z, d2] at nC; cases nC
    have ne5 : R ≠ C := fun z => by rw [← z, r2] at nC; cases nC
    have ne6 : O ≠ C := fun z => by rw [← z, e2] at nC; cases nC
    have nC0 := t2.free nC
    have t3 := t2.trans s3
    generalize upd H3 C (.lst []) = H4 at s3 e3 d3 r3 o3 t3 ⊢
    unfold tPairs
    walk_at "go"
    refine newN (n := 0) rfl (by decide) fun G nG => ?_
    have s4 := same_upd (o := .lst []) nG
    have e4 : (upd H4 G (.lst [])) G = some (.lst []) := upd_same
    have d4 := s4 _ _ d3
    have r4 := s4 _ _ r3
    have o4 := s4 _ _ o3
    have c4 := s4 _ _ e3
    have ne7 : D ≠ G := fun z => by rw [← z, d3] at nG; cases nG
    have ne8 : R ≠ G := fun z => by rw [← z, r3] at nG; cases nG
    have ne9 : O ≠ G := fun z => by rw [← z, o3] at nG; cases nG
    have ne10 : C ≠ G := fun z => by rw [← z, e3] at nG; cases nG
    have nG0 := t3.free nG
    have t4 := t3.trans s4
    generalize upd H4 G (.lst []) = H5 at s4 e4 d4 r4 o4 c4 t4 ⊢
    unfold tPairs
    refine ⟨d4, [(Sum.inr "generation", .int 0), (Sum.inr "rows", .ref R), (Sum.inr "order", .ref O), (Sum.inr "calls", .ref C), (Sum.inr "gone", .ref G)], rfl, by show 5 ≤ 15; decide, ?_⟩
    rw [merge_mo]
    refine q ⟨D, R, C, G⟩ ⟨0, [], O, [], []⟩ _ (same_new nD t4) (fun x hx => ?_) rfl rfl rfl rfl ⟨upd_same, ?_, ?_, ?_, ?_, (fun x hx => nomatch hx), (fun x hx => nomatch hx), (fun x hx => nomatch hx), ?_, ?_⟩
    · unfold MAd.L at hx
      unfold MO.I at hx
      simp only [List.map_nil, List.append_nil, List.cons_append, List.nil_append, List.mem_cons, List.not_mem_nil, or_false] at hx
      rcases hx with rfl | rfl | rfl | rfl | rfl
      · exact nD
      · exact nR0
      · exact nC0
      · exact nG0
      · exact nO0
    · rw [upd_ne ne1.symm]; exact r4
    · rw [upd_ne ne4.symm]; exact c4
    · rw [upd_ne ne7.symm]; exact e4
    · rw [upd_ne ne2.symm]; exact o4
    · unfold MAd.L
      simp only [List.map_nil, List.append_nil, List.nodup_cons, List.mem_cons, List.not_mem_nil, or_false, not_or, not_false_eq_true, List.nodup_nil, and_true]
      exact ⟨⟨ne1, ne4, ne7⟩, ⟨ne5, ne8⟩, ne10⟩
    · intro x hx
      rw [show x = O from List.mem_singleton.mp hx]
      unfold MAd.L
      simp only [List.map_nil, List.append_nil, List.mem_cons, List.not_mem_nil, or_false, not_or]
      exact ⟨ne2.symm, ne3.symm, ne6, ne9⟩

theorem ok__law_exists {f : Addr} {fd : FuncData} (F : Fun K "_law_exists" "_law_exists" s__law_exists f fd) (E : Bi K mg)  : FnOk P w K mg base CX0 1 f fd ["row", "at"] (sp__law_exists K) := by
  refine F.ok sc__law_exists (fun vs H Q E h => ?_) (fun cdv A outer s H vs Q E' hr h => ?_)
  · obtain ⟨a, v, b, t, o, rfl, _⟩ := h
    rfl
  · obtain ⟨a, v, b, t, o, rfl, ea, q⟩ := h
    refine ⟨_, (pss_one (ps_ret (pe_and (pe_cmpR op_le (pe_ix ix_list (pv 0) pe_int (fun _ _ => rfl)) (pv 1) (nomark _)) (pe_one (pe_or (pe_cmpR op_isN (pe_ix ix_list (pv 0) pe_int (fun _ _ => rfl)) pe_non (nomark _)) (pe_one (pe_cmpR op_lt (pv 1) (pe_ix ix_list (pv 0) pe_int (fun _ _ => rfl)) (nomark _)))))))), ?_⟩
    refine st_of (σ := [some _, some _]) rfl ?_
    unfold lvB at q
    walk_at "go"
    refine ixL (j := 1) (SqL.of ea) rfl ?_
    walk_at "go"
    rw [decide_natle]
    cases h : decide (b ≤ t) with
    | false =>
      rw [h, Bool.false_and] at q
      exact iteF q
    | true =>
      rw [h, Bool.true_and] at q
      refine iteT ?_
      walk_at "go"
      refine ixL (j := 2) (SqL.of ea) rfl ?_
      walk_at "go"
      refine ⟨rfl, ?_⟩
      cases o with
      | none =>
        rw [decide_eq_true (show dthV none = V.non from rfl)]
        refine ⟨_, rfl, iteT ?_⟩
        exact q
      | some d =>
        rw [decide_eq_false (show ¬ dthV (some d) = V.non from fun z => by cases z)]
        refine ⟨_, rfl, iteF ?_⟩
        walk_at "go"
        refine ixL (j := 2) (SqL.of ea) rfl ?_
        walk_at "go"
        refine ⟨_, _, rfl, rfl, ?_⟩
        show Q (.bl (decide ((t : Int) < (d : Int)))) H
        rw [decide_natlt]
        exact q

theorem ok__law_erase {f : Addr} {fd : FuncData} (F : Fun K "_law_erase" "_law_erase" s__law_erase f fd) (E : Bi K mg)  : FnOk P w K mg base CX0 1 f fd ["model", "number"] (sp__law_erase K) := by
  refine F.ok sc__law_erase (fun vs H Q E h => ?_) (fun cdv A outer s H vs Q E' hr h => ?_)
  · obtain ⟨B, M, n, rfl, _⟩ := h
    rfl
  · obtain ⟨B, M, n, rfl, W, q1, q2⟩ := h
    refine ⟨_, (pss_cons (ps_if (pw_or (pt_not (pt_chain op_le op_lt pe_int (pv 1) (pe_callB call_len_seq (by rfl) E.b_len PySem.boot_len (pa_cons (pe_dget (hu_of hr) (pv 0) pe_str (fun _ _ => rfl)) pa_nil)))) (pw_or1 (pt_cmpR op_notN (pe_ix ix_list (pe_ix ix_list (pe_dget (hu_of hr) (pv 0) pe_str (fun _ _ => rfl)) (pv 1) (fun _ _ => rfl)) pe_int (fun _ _ => rfl)) pe_non (nomark _)))).pt (pss_one (ps_ret pe_bl)) pss_nil)
      (pss_cons (ps_dput (hu_of hr) (pv 0) pe_str (pe_op op_add (pe_dget (hu_of hr) (pv 0) pe_str (fun _ _ => rfl)) pe_int) (by rfl))
      (pss_cons (ps_set (i := 2) sc__law_erase.nd rfl (Or.inl rfl) (pe_ix ix_list (pe_dget (hu_of hr) (pv 0) pe_str (fun _ _ => rfl)) (pv 1) (fun _ _ => rfl)))
      (pss_cons (ps_asg (pe_dget (hu_of hr) (pv 0) pe_str (fun _ _ => rfl)) (pg_sub (pv 2) pe_int set_list))
      (pss_one (ps_ret pe_bl)))))), ?_⟩
    refine st_of (σ := [some _, some _, none]) rfl ?_
    walk_at "go"
    refine g_chain ?_
    walk_at "go"
    rw [decide_eq_true (show (0 : Int) ≤ (n : Nat) by omega)]
    refine iteT ?_
    walk_at "go"
    refine ⟨_, _, rfl, by have := DGet.k (k := Sum.inr "rows") W.em; rw [val_r] at this; exact this, ?_⟩
    walk_at "go"
    refine ⟨B.R, _, rfl, .inl (SqL.of W.eR), ?_⟩
    rw [List.length_map]
    walk_at "go"
    rw [decide_natlt]
    cases hx : M.rows[n]? with
    | none =>
      have hl : ¬ n < M.rows.length := fun z => by rw [List.getElem?_eq_getElem z] at hx; cases hx
      have ce : M.canErase n = false := by unfold MO.canErase; rw [hx]
      rw [decide_eq_false hl]
      walk_at "go"
      exact q1 ce
    | some x =>
      have hl := (List.getElem?_eq_some_iff.mp hx).1
      have mx := List.mem_of_getElem? hx
      have ce : M.canErase n = x.dth.isNone := by unfold MO.canErase; rw [hx]
      have ee : M.erase n = { M with g := M.g + 1, rows := setDth M.rows x.ad (M.g + 1) } := by unfold MO.erase; rw [hx]
      rw [decide_eq_true hl]
      walk_at "go"
      refine ⟨_, _, rfl, by have := DGet.k (k := Sum.inr "rows") W.em; rw [val_r] at this; exact this, ?_⟩
      walk_at "go"
      refine ixL (j := n) (SqL.of W.eR) (by rw [List.getElem?_map, hx]; rfl) ?_
      walk_at "go"
      refine ixL (j := 2) (SqL.of (W.rw x mx)) rfl ?_
      walk_at "go"
      refine ⟨rfl, ?_⟩
      cases hd : x.dth with
      | some d =>
        rw [hd] at ce
        rw [decide_eq_false (show ¬ dthV (some d) = V.non from fun z => by cases z)]
        walk_at "go"
        exact q1 ce
      | none =>
        rw [hd] at ce
        have q2 := q2 ce
        rw [ee] at q2
        rw [decide_eq_true (show dthV none = V.non from rfl)]
        walk_at "go"
        refine ⟨_, _, rfl, by have := DGet.k (k := Sum.inr "generation") W.em; rw [val_g] at this; exact this, ?_⟩
        walk_at "go"
        refine ⟨_, _, rfl, DPut.k (k := Sum.inr "generation") W.em (show 5 < sizeLine by decide), ?_⟩
        have ep : putK (moD B M) (Sum.inr "generation") (.int ((M.g : Int) + 1)) = moD B { M with g := M.g + 1 } := put_g (M.g + 1)
        rw [ep]
        have W1 := W.setG (M.g + 1)
        have b1 : ButM (B.L M) H (upd H B.m (.dK (moD B { M with g := M.g + 1 }))) := ButM.refl.put mo_top.1
        generalize upd H B.m (.dK (moD B { M with g := M.g + 1 })) = H1 at W1 b1 ⊢
        walk_at "go"
        refine ⟨_, _, rfl, by have := DGet.k (k := Sum.inr "rows") W1.em; rw [val_r] at this; exact this, ?_⟩
        walk_at "go"
        refine ixL (j := n) (SqL.of W1.eR) (by rw [List.getElem?_map, hx]; rfl) ?_
        walk_at "go"
        refine ⟨_, _, rfl, by have := DGet.k (k := Sum.inr "generation") W1.em; rw [val_g] at this; exact this, ?_⟩
        walk_at "go"
        refine ⟨x.ad, _, 2, 2, rfl, rfl, W1.rw x mx, rfl, ?_⟩
        walk_at "go"
        exact q2 _ (b1.put (mo_row mx)) (W1.dthL mx (M.g + 1))

theorem ok__law_next {f : Addr} {fd : FuncData} (F : Fun K "_law_next" "_law_next" s__law_next f fd) (E : Bi K mg)  : FnOk P w K mg base CX0 1 f fd ["model", "call"] (sp__law_next K) := by
  refine F.ok sc__law_next (fun vs H Q E h => ?_) (fun cdv A outer s H vs Q E' hr h => ?_)
  · obtain ⟨B, M, n, c, rfl, _⟩ := h
    rfl
  · obtain ⟨B, M, n, c, rfl, W, O, hc, op, q1, q2⟩ := h
    refine ⟨_, (pss_cons (ps_if (pw_or (pt_not (pt_chain op_le op_lt pe_int (pv 1) (pe_callB call_len_seq (by rfl) E.b_len PySem.boot_len (pa_cons (pe_dget (hu_of hr) (pv 0) pe_str (fun _ _ => rfl)) pa_nil)))) (pw_or1 (pt_not (pt_val (pe_ix ix_list (pe_ix ix_list (pe_dget (hu_of hr) (pv 0) pe_str (fun _ _ => rfl)) (pv 1) (fun _ _ => rfl)) pe_int (fun _ _ => rfl)))))).pt (pss_one (ps_ret pe_str)) pss_nil)
      (pss_cons (ps_set (i := 2) sc__law_next.nd rfl (Or.inl rfl) (pe_ix ix_list (pe_dget (hu_of hr) (pv 0) pe_str (fun _ _ => rfl)) (pv 1) (fun _ _ => rfl)))
      (pss_cons (ps_while PassesOwn.never (pt_cmpR op_gt (pe_callB call_len_seq (by rfl) E.b_len PySem.boot_len (pa_cons (pe_ix ix_list (pv 2) pe_int (fun _ _ => rfl)) pa_nil)) pe_int (nomark _)) (pss_cons (ps_set (i := 3) sc__law_next.nd rfl (Or.inl rfl) (pe_ix ix_list (pe_ix ix_list (pv 2) pe_int (fun _ _ => rfl)) pe_int (fun _ _ => rfl)))
      (pss_cons (ps_asg (pe_slice sl_list (pe_ix ix_list (pv 2) pe_int (fun _ _ => rfl)) (po_some pe_int) po_none) (pg_sub (pv 2) pe_int set_list))
      (pss_one (ps_if (pw_or (pt_not (pt_val (pe_ix ix_list (pv 2) pe_int (fun _ _ => rfl)))) (pw_or1 (pt_cmpR op_isN (pe_ix ix_list (pe_ix ix_list (pe_dget (hu_of hr) (pv 0) pe_str (fun _ _ => rfl)) (pv 3) (fun _ _ => rfl)) pe_int (fun _ _ => rfl)) pe_non (nomark _)))).pt (pss_one (ps_ret (pe_tup (pa_cons (pv 3) (pa_cons (pe_ix ix_list (pe_ix ix_list (pe_dget (hu_of hr) (pv 0) pe_str (fun _ _ => rfl)) (pv 3) (fun _ _ => rfl)) pe_int (fun _ _ => rfl)) pa_nil))))) pss_nil)))))
      (pss_cons (ps_asg pe_bl (pg_sub (pv 2) pe_int set_list))
      (pss_one (ps_ret pe_non)))))), ?_⟩
    refine st_of (σ := [some _, some _, none, none]) rfl ?_
    walk_at "go"
    have mc := List.mem_of_getElem? hc
    have hl := (List.getElem?_eq_some_iff.mp hc).1
    obtain ⟨ec1, ec2⟩ := W.ca c mc
    refine g_chain ?_
    walk_at "go"
    rw [decide_eq_true (show (0 : Int) ≤ (n : Nat) by omega)]
    refine iteT ?_
    walk_at "go"
    refine ⟨_, _, rfl, by have := DGet.k (k := Sum.inr "calls") W.em; rw [val_c] at this; exact this, ?_⟩
    walk_at "go"
    refine ⟨B.C, _, rfl, .inl (SqL.of W.eC), ?_⟩
    rw [List.length_map]
    walk_at "go"
    rw [decide_natlt, decide_eq_true hl]
    walk_at "go"
    refine ⟨_, _, rfl, by have := DGet.k (k := Sum.inr "calls") W.em; rw [val_c] at this; exact this, ?_⟩
    walk_at "go"
    refine ixL (j := n) (SqL.of W.eC) (by rw [List.getElem?_map, hc]; rfl) ?_
    walk_at "go"
    refine ixL (j := 2) (SqL.of ec1) rfl ?_
    walk_at "go"
    rw [op]
    walk_at "go"
    refine ⟨_, _, rfl, by have := DGet.k (k := Sum.inr "calls") W.em; rw [val_c] at this; exact this, ?_⟩
    walk_at "go"
    refine ixL (j := n) (SqL.of W.eC) (by rw [List.getElem?_map, hc]; rfl) ?_
    walk_at "go"
    refine while_m (fun m σ H' => ∃ v3 : Option V, m = 0 ∧ σ = [some (.ref B.m), some (.int (n : Nat)), some (.ref c.ad), v3] ∧ H' = H) ⟨0, none, rfl, rfl, rfl⟩ ?_
    rintro m σ H1 ⟨v3, rfl, rfl, rfl⟩
    walk_at "go"
    refine ixL (j := 0) (SqL.of ec1) rfl ?_
    walk_at "go"
    refine ⟨c.na, _, rfl, .inl (SqL.of ec2), ?_⟩
    walk_at "go"
    have ln : (intN c.ns).length = c.ns.length := by unfold intN; rw [List.length_map]
    rw [ln]
    cases hns : c.ns with
    | nil =>
      refine iteF ?_
      walk_at "go"
      refine ⟨c.ad, _, 2, 2, rfl, rfl, ec1, rfl, ?_⟩
      walk_at "go"
      exact q1 hns _ (ButM.refl.put (mo_ca mc)) (W.mcL mc (fun x => { x with op := false }) (fun _ => rfl) ec2 (show c.na ∉ B.L M from W.di _ (mo_na mc)))
    | cons k rr =>
      rw [decide_eq_true (show (0 : Int) < ((k :: rr).length : Nat) by rw [List.length_cons]; omega)]
      refine iteT ?_
      refine while_n ?_
      rw [hns] at ec2
      walk_at "go"
      refine ixL (j := 0) (SqL.of ec1) rfl ?_
      walk_at "go"
      refine ixL (j := 0) (SqL.of ec2) rfl ?_
      walk_at "go"
      refine ixL (j := 0) (SqL.of ec1) rfl ?_
      walk_at "go"
      refine ⟨c.na, _, rfl, SqL.of ec2, fun N nN => ?_⟩
      have ecut : cutV (intN (k :: rr)) (some 1) Option.none = intN rr := by
        rw [show (some (1 : Int)) = some ((1 : Nat) : Int) from rfl]
        unfold cutV
        rw [HT.sIx_none, HT.sIx_nat]
        unfold intN
        rw [List.length_map, List.length_cons, Nat.min_eq_left (by omega), List.map_cons]
        show (List.map _ rr).take _ = _
        rw [List.take_of_length_le (by rw [List.length_map]; omega)]
      have ecut2 : cutV ((k :: rr).map fun n => V.int ((n : Nat) : Int)) (some 1) Option.none = intN rr := ecut
      first | rw [ecut] | rw [ecut2]
      have sN := same_upd (o := .lst (intN rr)) nN
      have eN : (upd H1 N (.lst (intN rr))) N = some (.lst (intN rr)) := upd_same
      have W2 := W.keep sN
      have NL := (W.out nN).1
      have ec3 := sN _ _ ec1
      generalize upd H1 N (.lst (intN rr)) = H2 at sN eN W2 ec3 ⊢
      walk_at "go"
      refine ⟨c.ad, _, 0, 0, rfl, rfl, ec3, rfl, ?_⟩
      have W3 := W2.mcL mc (fun x => { x with ns := rr, na := N }) (fun _ => rfl) eN NL
      have W3 : Mo K (upd H2 c.ad (.lst ([V.ref c.na, V.bl false, V.bl c.op].set 0 (V.ref N)))) B { M with cas := setMc M.cas c.ad fun x => { x with ns := rr, na := N } } := W3
      have e3 : (upd H2 c.ad (.lst ([V.ref c.na, V.bl false, V.bl c.op].set 0 (V.ref N)))) c.ad = some (.lst [V.ref N, V.bl false, V.bl c.op]) := upd_same
      have b3 : ButM (B.L M) H1 (upd H2 c.ad (.lst ([V.ref c.na, V.bl false, V.bl c.op].set 0 (V.ref N)))) := (ButM.of sN).put (mo_ca mc)
      generalize upd H2 c.ad (.lst ([V.ref c.na, V.bl false, V.bl c.op].set 0 (V.ref N))) = H3 at W3 e3 b3 ⊢
      walk_at "go"
      refine ixL (j := 1) (SqL.of e3) rfl ?_
      walk_at "go"
      have hk : k < M.rows.length := O.cn c mc k (by rw [hns]; exact .head _)
      obtain ⟨x, hx⟩ : ∃ x, M.rows[k]? = some x := ⟨_, List.getElem?_eq_getElem hk⟩
      have mx := List.mem_of_getElem? hx
      refine ⟨_, _, rfl, by have := DGet.k (k := Sum.inr "rows") W3.em; rw [val_r] at this; exact this, ?_⟩
      walk_at "go"
      refine ixL (j := k) (SqL.of W3.eR) (by rw [List.getElem?_map, hx]; rfl) ?_
      walk_at "go"
      refine ixL (j := 0) (SqL.of (W3.rw x mx)) rfl ?_
      walk_at "go"
      refine newN (n := 2) rfl (by decide) fun T nT => ?_
      have sT := same_upd (o := .tup [V.int (k : Nat), x.v]) nT
      have dsm : M.dsOf k = x.ds := by unfold MO.dsOf; rw [hx]; rfl
      have dT : Dp K (upd H3 T (.tup [V.int (k : Nat), x.v])) (.ref T) (M.pairOf k) := by
        unfold MO.pairOf
        rw [dsm]
        exact .tup (SqT.of upd_same) (.cons (.int _) (.cons (dp_same sT _ _ (W3.dv x mx).1) .nil))
      exact q2 k rr hns (.ref T) N _ nN (b3.new nT) (W3.keep sT) dT

theorem ok_arity_of {f : Addr} {fd : FuncData} (F : Fun K "arity_of" "arity_of" s_arity_of f fd) (E : Bi K mg) (D_is_symbol : Has P w K mg base 1 "is_symbol" ["node"] (sp_is_symbol K)) : FnOk P w K mg base CX0 2 f fd ["node"] (sp_arity_of K) := by
  obtain ⟨f_is_symbol, fd_is_symbol, G_is_symbol, g_is_symbol, kp_is_symbol, b_is_symbol⟩ := D_is_symbol
  refine F.ok sc_arity_of (fun vs H Q E h => ?_) (fun cdv A outer s H vs Q E' hr h => ?_)
  · obtain ⟨x, d, rfl, _⟩ := h
    rfl
  · obtain ⟨x, d, rfl, hd, hn, q⟩ := h
    refine ⟨_, (pss_one (ps_ret (pe_ifExp (pt_val (pe_call G_is_symbol (hr.mono (by decide)) (by rfl) g_is_symbol kp_is_symbol b_is_symbol .nil pass0 (pa_cons (pv 0) pa_nil))) (pe_ix ix_tup (pv 0) pe_int (fun _ _ => rfl)) pe_int))), ?_⟩
    refine st_of (σ := [some _]) rfl ?_
    walk_at "go"
    refine ⟨x, d, rfl, hd, hn, ?_⟩
    obtain ⟨wd, nd⟩ := id hn
    cases nd with
    | v n h1 h2 =>
      walk_at "go"
      exact q
    | i n h1 h2 =>
      walk_at "go"
      exact q
    | f y n h1 h2 h3 =>
      cases hd with
      | tup hs ha =>
      obtain ⟨v, hv, hdv⟩ := DpAll.get (i := 2) ha rfl
      cases hdv
      rw [show isSymN (.tuple [.str "f", .str y, .int n]) = true from rfl]
      walk_at "go"
      refine ixT (j := 2) hs hv ?_
      have e : ((arN (.tuple [.str "f", .str y, .int n]) : Nat) : Int) = n := Int.toNat_of_nonneg h2
      rw [e] at q
      exact q

theorem ok_renumber {f : Addr} {fd : FuncData} (F : FunD K "renumber" "renumber" (defArgs s_renumber) (defBody s_renumber) (defScope s_renumber) [V.int 0] [] f fd) (E : Bi K mg) (D_is_variable : Has P w K mg base 1 "is_variable" ["node"] (sp_is_variable K)) : FnOk P w K mg base CX0 2 f fd ["term", "first"] (sp_renumber K) := by
  obtain ⟨f_is_variable, fd_is_variable, G_is_variable, g_is_variable, kp_is_variable, b_is_variable⟩ := D_is_variable
  refine F.ok sc_renumber (fun vs H Q E h => ?_) (fun cdv A outer s H vs Q E' hr h => ?_)
  · obtain ⟨x, ds, f, rfl, _⟩ := h
    rfl
  · obtain ⟨x, ds, f, rfl, hx, hn, hl, q⟩ := h
    refine ⟨_, (PSs.nox (pss_cons (ps_set (i := 2) sc_renumber.nd rfl (Or.inl rfl) pe_dnewK)
      (pss_cons (ps_set (i := 3) sc_renumber.nd rfl (Or.inl rfl) (pe_lst pa_nil))
      (pss_cons (ps_for PassesOwn.never rfl (pi_tup (pv 0)) (pg_name (i := 4) sc_renumber.nd rfl (Or.inl rfl)) (pss_one (ps_if (pt_val (pe_call G_is_variable (hr.mono (by decide)) (by rfl) g_is_variable kp_is_variable b_is_variable .nil pass0 (pa_cons (pv 4) pa_nil))) (pss_cons (ps_if (pt_cmp (pc_dnotin (hu_of hr) (pe_ix ix_tup (pv 4) pe_int (fun _ _ => rfl)) (pv 2))) (pss_one (ps_dput (hu_of hr) (pv 2) (pe_ix ix_tup (pv 4) pe_int (fun _ _ => rfl)) (pe_tup (pa_cons pe_str (pa_cons (pe_op op_add (pv 1) (pe_callB call_lenD (by rfl) E.b_len PySem.boot_len (pa_cons (pv 2) pa_nil))) pa_nil))) (by rfl))) pss_nil)
      (pss_one (ps_expr (pe_bm PySem.F.plainAttrs_list PySem.F.slot_list_append PySem.F.type_list_append mt_append (pv 3) (pa_cons (pe_dget (hu_of hr) (pv 2) (pe_ix ix_tup (pv 4) pe_int (fun _ _ => rfl)) (fun _ _ => rfl)) pa_nil))))) (pss_one (ps_expr (pe_bm PySem.F.plainAttrs_list PySem.F.slot_list_append PySem.F.type_list_append mt_append (pv 3) (pa_cons (pv 4) pa_nil)))))))
      (pss_one (ps_ret (pe_callTy call_tuple_of (by rfl) E.b_tuple (by decide +kernel) (pa_cons (pv 3) pa_nil)))))))), ?_⟩
    refine seq_asg ?_
    refine fun d nd => ?_
    refine gname (seq_asg ?_)
    have s00 : Same H (upd H d (.dK [])) := same_upd nd
    refine ⟨Nat.zero_le _, fun r nr => ?_⟩
    refine gname (seq_any ?_)
    have nrH : H r = Option.none := s00.free nr
    have dr : d ≠ r := fun z => by rw [z, upd_same] at nr; cases nr
    have s0 : Same H (upd (upd H d (.dK [])) r (.lst [])) := s00.trans (same_upd nr)
    have put : ∀ {H1 : Hp} {o : HO}, Same H H1 → Same H (upd H1 r o) := fun {H1 o} s1 b u e => by rw [upd_ne (ne_of_none e nrH)]; exact s1 b u e
    have putd : ∀ {H1 : Hp} {o : HO}, Same H H1 → Same H (upd H1 d o) := fun {H1 o} s1 b u e => by rw [upd_ne (ne_of_none e nd)]; exact s1 b u e
    cases id hx with
    | @tup a xs _ hs ha =>
    have hxl := DpAll.len ha
    have gnd : ∀ (n : Int), noL (.tuple [.str "v", .int n]) = true := fun n => by simp [noL, noLA]
    have noA : ∀ i, noLA ((ds.take i).map (mapD fun n => f + ((nums ds).idxOf n : Nat))) = true := by
      intro i
      have : ∀ l : List PyData, (∀ d ∈ l, NdA d) → noLA (l.map (mapD fun n => f + ((nums ds).idxOf n : Nat))) = true := by
        intro l
        induction l with
        | nil => intro _; simp [noLA]
        | cons d r ih =>
          intro h
          rw [List.map_cons, noLA, ih fun x hx => h x (List.mem_cons_of_mem _ hx), Bool.and_true]
          unfold mapD
          split
          · exact gnd _
          · exact nd_noL (h d List.mem_cons_self)
      exact this _ fun x hx => hn x (List.mem_of_mem_take hx)
    refine ⟨_, rfl, a, rfl, ⟨_, same_sqT s0 hs⟩, for_tup (K := K) (a := a) (xs := xs) (fun i σ H' => ∃ (vn : Option V) (kvs : List (Key × V)) (ys : List V), σ = [some (.ref a), some (.int f), some (.ref d), some (.ref r), vn] ∧ Same H H' ∧ H' d = some (.dK kvs) ∧ H' r = some (.lst ys) ∧ Given K H' f (nums (ds.take i)) kvs ∧ DpAll K H' ys ((ds.take i).map (mapD fun n => f + ((nums ds).idxOf n : Nat))) ∧ ys.length = i)
      ⟨none, [], [], rfl, s0, by rw [upd_ne dr, upd_same], upd_same, ⟨rfl, (fun n hn => nomatch hn), fun n _ => rfl⟩, .nil, rfl⟩ (fun i σ H' _ ⟨_, _, _, _, e, _⟩ => same_sqT e hs) ?_ ?_⟩
    · rintro i y σ H1 hi ⟨vn, kvs, ys, rfl, s1, h1, h2, h3, h4, h5⟩
      obtain ⟨e, hd, dy0⟩ := DpAll.getV ha hi
      have ndd := hn e (List.mem_of_getElem? hd)
      have dy := dp_same s1 _ _ dy0
      have hil := (List.getElem?_eq_some_iff.mp hd).1
      have hnl := nums_len (ds.take i)
      rw [List.length_take] at hnl
      have hkl := h3.len
      refine gname ?_
      refine ⟨_, rfl, y, e, rfl, dy, ndd, _, rfl, ite2 (fun v => ?_) (fun v => ?_)⟩
      · obtain ⟨n, rfl⟩ := var_form ndd v
        have hmem := nums_mem hd v
        have hidx := idx_pre hmem
        rw [nums_take hd] at hmem hidx
        cases id dy0 with
        | @tup c zs _ hz0 az =>
        have hz := same_sqT s1 hz0
        obtain ⟨v2, hv2, dv2⟩ := DpAll.get (i := 1) az rfl
        cases dv2
        refine seq_via (fun σ H' => ∃ (kvs : List (Key × V)), σ = [some (.ref a), some (.int f), some (.ref d), some (.ref r), some (.ref c)] ∧ Same H H' ∧ H' d = some (.dK kvs) ∧ H' r = some (.lst ys) ∧ Given K H' f (numS (nums (ds.take i)) (.tuple [.str "v", .int n])) kvs ∧ DpAll K H' ys ((ds.take i).map (mapD fun n => f + ((nums ds).idxOf n : Nat)))) ?_ (fun go => ?_)
        · rintro σ H2 ⟨kvs, rfl, s2, g1, g2, g3, g4⟩
          obtain ⟨w, w1, w2⟩ := g3.old n hmem
          have hz2 := same_sqT s2 hz0
          have gg : DGet H2 d (.int n) (some w) := by
            have := DGet.k (k := Sum.inl n) g1
            rw [w1] at this
            exact this
          have nt : notTup H2 r := .inl ⟨_, g2⟩
          refine ⟨_, rfl, .inl ⟨rfl, _, SqL.of g2⟩, _, rfl, _, rfl, _, _, _, _, rfl, rfl, hz2, atI_nat (j := 1) hv2, d, _, rfl, gg, _, _, _, rfl, rfl, g2, Nat.lt_of_le_of_lt (show _ ≤ 1000000 by omega) (by decide), ?_⟩
          refine ⟨_, kvs, _, rfl, put s2, by rw [upd_ne dr]; exact g1, upd_same, ?_, ?_, by rw [List.length_append, h5]; rfl⟩
          · rw [nums_take hd]
            exact g3.mono fun v n hv => dp_put nt _ _ (gnd n) hv
          · rw [List.take_add_one, hd, List.map_append]
            refine DpAll.app (dp_putAll nt _ _ (noA i) g4) (.cons ?_ .nil)
            show Dp K _ w (.tuple [.str "v", .int (f + ((nums ds).idxOf n : Nat))])
            have hidx2 : (nums ds).idxOf n = (numS (nums (ds.take i)) (.tuple [.str "v", .int n])).idxOf n := hidx
            rw [hidx2]
            exact dp_put nt _ _ (gnd _) w2
        · refine ⟨_, rfl, _, _, _, _, rfl, rfl, hz, atI_nat (j := 1) hv2, _, rfl, d, _, rfl, DGet.k (k := Sum.inl n) h1, _, rfl, ?_⟩
          by_cases hm : n ∈ nums (ds.take i)
          · obtain ⟨w, w1, w2⟩ := h3.old n hm
            rw [w1]
            refine iteF (go _ _ ⟨kvs, rfl, s1, h1, h2, ?_, h4⟩)
            rw [numS_old (d := .tuple [.str "v", .int n]) hm]
            exact h3
          · rw [h3.new n hm]
            refine iteT ?_
            refine ⟨_, rfl, _, rfl, _, _, rfl, h1, _, _, rfl, rfl, (by show 2 ≤ sizeLine; decide), fun p np => ?_⟩
            have dp : d ≠ p := ne_of_none h1 np
            have rp : r ≠ p := ne_of_none h2 np
            have cz := same_sqT (same_upd (o := .tup [.str "v", .int (f + (kvs.length : Int))]) np) hz
            have e1 : (upd H1 p (.tup [.str "v", .int (f + (kvs.length : Int))])) d = some (.dK kvs) := by rw [upd_ne dp]; exact h1
            have nt : notTup (upd H1 p (.tup [.str "v", .int (f + (kvs.length : Int))])) d := .inr (.inl ⟨_, e1⟩)
            refine ⟨_, rfl, _, rfl, _, _, _, _, rfl, rfl, cz, atI_nat (j := 1) hv2, d, _, rfl, DPut.k (k := Sum.inl n) e1 (Nat.lt_of_le_of_lt (show _ ≤ 1000000 by omega) (by decide)), ?_⟩
            refine go _ _ ⟨_, rfl, putd (s1.trans (same_upd np)), upd_same, by rw [upd_ne dr.symm, upd_ne rp]; exact h2, ?_, ?_⟩
            · rw [numS_new (d := .tuple [.str "v", .int n]) rfl hm]
              refine Given.put (h3.mono fun v n hv => dp_put nt _ _ (gnd n) (dp_same (same_upd np) _ _ hv)) hm (dp_put nt _ _ (gnd _) ?_)
              rw [← hkl]
              exact .tup (SqT.of upd_same) (.cons (.str _) (.cons (.int _) .nil))
            · exact dp_putAll nt _ _ (noA i) (dp_sameAll (same_upd np) _ _ h4)
      · refine ⟨_, rfl, .inl ⟨rfl, _, SqL.of h2⟩, _, rfl, _, _, _, rfl, rfl, h2, Nat.lt_of_le_of_lt (show _ ≤ 1000000 by omega) (by decide), ?_⟩
        have nt : notTup H1 r := .inl ⟨_, h2⟩
        refine ⟨_, kvs, _, rfl, put s1, by rw [upd_ne dr]; exact h1, upd_same, ?_, ?_, by rw [List.length_append, h5]; rfl⟩
        · rw [nums_take hd, numS_non v]
          exact h3.mono fun v n hv => dp_put nt _ _ (gnd n) hv
        · rw [List.take_add_one, hd, List.map_append]
          refine DpAll.app (dp_putAll nt _ _ (noA i) h4) (.cons ?_ .nil)
          show Dp K _ y (mapD _ e)
          unfold mapD
          rw [if_neg v]
          exact dp_put nt _ _ (nd_noL ndd) dy
    · rintro σ H1 ⟨vn, kvs, ys, rfl, s1, h1, h2, h3, h4, h5⟩
      rw [hxl, List.take_length] at h4
      refine nxp ?_
      refine ⟨_, rfl, _, _, rfl, .inl ⟨SqL.of h2, fun u nu => ?_⟩⟩
      exact q _ _ (s1.trans (same_upd nu)) (.tup (SqT.of upd_same) (dp_sameAll (same_upd nu) _ _ h4))

theorem ok_Database_erase {f : Addr} {fd : FuncData} (F : Fun K "erase" "Database.erase" s_Database_erase f fd) (E : Bi K mg) (D_Database__exists : HasM P w K mg base 1 "Database" "_exists" ["self", "number"] (sp_Database__exists K)) : FnOk P w K mg base CX0 2 f fd ["self", "number"] (sp_Database_erase K) := by
  obtain ⟨f_Database__exists, fd_Database__exists, G_Database__exists, M_Database__exists, b_Database__exists⟩ := D_Database__exists
  refine F.ok sc_Database_erase (fun vs H Q E h => ?_) (fun cdv A outer s H vs Q E' hr h => ?_)
  · obtain ⟨A, S, n, rfl, _⟩ := h
    rfl
  · obtain ⟨A, S, n, rfl, D, O, q1, q2⟩ := h
    refine ⟨_, (pss_cons (ps_if (pt_not (pt_val (pe_meth (pv 0) E.cl_Database M_Database__exists G_Database__exists (hr.mono (by decide)) b_Database__exists .nil pass0 (pa_cons (pv 1) pa_nil)))) (pss_one (ps_ret pe_bl)) pss_nil)
      (pss_cons (ps_fldaug (pv 0) pe_int in_add)
      (pss_cons (ps_dput (hu_of hr) (pe_fld (pv 0) rfl) (pv 1) (pe_fld (pv 0) rfl) (by rfl))
      (pss_one (ps_ret pe_bl))))), ?_⟩
    refine st_of (σ := [some _, some _]) rfl ?_
    walk_at "go"
    refine ⟨_, _, _, rfl, D.ob, fs_Database_no__exists, ?_⟩
    walk_at "go"
    refine ⟨A, S, n, rfl, D, ?_⟩
    refine ⟨_, rfl, ?_⟩
    cases hh : S.has n with
    | false =>
      refine iteT ?_
      walk_at "go"
      exact q1 hh
    | true =>
      refine iteF ?_
      have q2 := q2 hh
      have hd : (S.de.find? fun x => decide (x.1 = n)) = none := by
        unfold DB.has DB.deAt at hh
        cases e : (S.de.find? fun x => decide (x.1 = n)) with
        | none => rfl
        | some x => rw [e] at hh; simp at hh
      obtain ⟨z1, z2, z3, z4, z5, z6⟩ := O.sz
      walk_at "go"
      refine ⟨_, _, _, _, _, rfl, D.ob, E.cl_Database, E.nA_Database_generation, fs_Database_generation, ?_⟩
      walk_at "go"
      refine ⟨_, _, rfl, rfl, _, _, D.ob, by show 9 < 1000; decide, ?_⟩
      rw [ps_Database_generation]
      have D1 : Db K (upd H A.p (dbO K A ((S.gen : Int) + 1) S.nn S.nc)) A { S with gen := S.gen + 1 } := D.fld (S.gen + 1) S.nn S.nc
      have b1 : ButM (A.L S) H (upd H A.p (dbO K A ((S.gen : Int) + 1) S.nn S.nc)) := ButM.refl.put D.mem.1
      generalize upd H A.p (dbO K A ((S.gen : Int) + 1) S.nn S.nc) = H1 at D1 b1 ⊢
      walk_at "go"
      refine ⟨_, _, _, _, _, rfl, D1.ob, E.cl_Database, E.nA_Database_generation, fs_Database_generation, ?_⟩
      walk_at "go"
      refine ⟨_, _, _, _, _, rfl, D1.ob, E.cl_Database, E.nA_Database__deaths, fs_Database__deaths, ?_⟩
      walk_at "go"
      refine ⟨_, _, rfl, DPut.k (k := kN n) D1.ed (by rw [List.length_map]; exact lt_size z3), ?_⟩
      have D2 := D1.putD (S.de ++ [(n, S.gen + 1)])
      rw [← put_new hd] at D2
      walk_at "go"
      exact q2 _ (b1.put D.mem.2.2.2.1) D2

theorem ok_Database_open_call {f : Addr} {fd : FuncData} (F : FunD K "open_call" "Database.open_call" (defArgs s_Database_open_call) (defBody s_Database_open_call) (defScope s_Database_open_call) [] [("erasing", V.bl false)] f fd) (E : Bi K mg) (D_Database__exists : HasM P w K mg base 1 "Database" "_exists" ["self", "number"] (sp_Database__exists K)) : FnOk P w K mg base CX0 2 f fd ["self", "name", "arity", "erasing"] (sp_Database_open_call K) := by
  obtain ⟨f_Database__exists, fd_Database__exists, G_Database__exists, M_Database__exists, b_Database__exists⟩ := D_Database__exists
  refine F.ok sc_Database_open_call (fun vs H Q E h => ?_) (fun cdv A outer s H vs Q E' hr h => ?_)
  · obtain ⟨A, S, nm, ar, er, rfl, _⟩ := h
    rfl
  · obtain ⟨A, S, nm, ar, er, rfl, D, O, q⟩ := h
    refine ⟨_, (PSs.nox (pss_cons (ps_set (i := 4) sc_Database_open_call.nd rfl (Or.inl rfl) (pe_fld (pv 0) rfl))
      (pss_cons (ps_fldaug (pv 0) pe_int in_add)
      (pss_cons (ps_set (i := 5) sc_Database_open_call.nd rfl (Or.inl rfl) (pe_dget2 (hu_of hr) (pe_fld (pv 0) rfl) (pe_tup (pa_cons (pv 1) (pa_cons (pv 2) pa_nil))) (pe_lst pa_nil) ⟨by rfl, by rfl, by rfl, by rfl⟩))
      (pss_cons (ps_dput (hu_of hr) (pe_fld (pv 0) rfl) (pv 4) (pe_tup (pa_cons (pe_lc (own := [("number", 6)]) (g := gName 6) rfl sc_Database_open_call.nd (pi_list (pe_revL (pv 5))) (blkOk_by (N := N_Database_open_call) (sc := defScope s_Database_open_call) (by decide +kernel)) (fun _ _ _ _ _ => pg_name (i := 6) sc_Database_open_call.nd rfl (Or.inl rfl)) (fun _ _ _ _ _ => pts_one (pt_val (pe_meth (pv 0) E.cl_Database M_Database__exists G_Database__exists (hr.mono (by decide)) b_Database__exists .nil pass0 (pa_cons (pv 6) pa_nil)))) (fun _ _ _ _ _ => (pv 6))) (pa_cons (pv 3) pa_nil))) (by rfl))
      (pss_one (ps_ret (pv 4)))))))), ?_⟩
    refine st_of (σ := [some _, some _, some _, some _, none, none, none]) rfl ?_
    obtain ⟨z1, z2, z3, z4, z5, z6⟩ := O.sz
    walk_at "go"
    refine ⟨_, _, _, _, _, rfl, D.ob, E.cl_Database, E.nA_Database__next_call, fs_Database__next_call, ?_⟩
    walk_at "go"
    refine ⟨_, _, _, _, _, rfl, D.ob, E.cl_Database, E.nA_Database__next_call, fs_Database__next_call, ?_⟩
    walk_at "go"
    refine ⟨_, _, rfl, rfl, _, _, D.ob, by show 9 < 1000; decide, ?_⟩
    rw [ps_Database__next_call]
    have D1 : Db K (upd H A.p (dbO K A S.gen S.nn ((S.nc : Int) + 1))) A { S with nc := S.nc + 1 } := D.fld S.gen S.nn (S.nc + 1)
    have b1 : ButM (A.L S) H (upd H A.p (dbO K A S.gen S.nn ((S.nc : Int) + 1))) := ButM.refl.put D.mem.1
    generalize upd H A.p (dbO K A S.gen S.nn ((S.nc : Int) + 1)) = H1 at D1 b1 ⊢
    walk_at "go"
    refine ⟨_, _, _, _, _, rfl, D1.ob, E.cl_Database, E.nA_Database__rows, fs_Database__rows, ?_⟩
    walk_at "go"
    refine ⟨_, rfl, .inr ⟨_, .inl D1.er⟩, ?_⟩
    walk_at "go"
    refine newN (n := 2) rfl (by decide) fun p2 np2 => ?_
    have s2 := same_upd (o := .tup [V.str nm, V.int ar]) np2
    have e2 : (upd H1 p2 (.tup [V.str nm, V.int ar])) p2 = some (.tup ((kI nm ar).map kV)) := upd_same
    have D2 := D1.keep s2
    have b2 := b1.new (o := .tup [V.str nm, V.int ar]) np2
    generalize upd H1 p2 (.tup [V.str nm, V.int ar]) = H2 at s2 e2 D2 b2 ⊢
    walk_at "go"
    refine newN (n := 0) rfl (by decide) fun a0 na0 => ?_
    have s3 := same_upd (o := .lst []) na0
    have e3 : (upd H2 a0 (.lst [])) a0 = some (.lst []) := upd_same
    have D3 := D2.keep s3
    have b3 := b2.new (o := .lst []) na0
    have e23 := s3 _ _ e2
    generalize upd H2 a0 (.lst []) = H3 at s3 e3 D3 b3 e23 ⊢
    refine ⟨_, .inr ⟨_, kI nm ar, p2, .inl D3.er, rfl, e23, rfl⟩, ?_⟩
    have ev := val_ro { S with nc := S.nc + 1 } nm ar
    rw [ev]
    obtain ⟨ra, erow, ers⟩ : ∃ ra : Addr, (((S.roAt nm ar).map fun x => V.ref x.ad).getD (.ref a0)) = .ref ra ∧ H3 ra = some (.lst (intN (S.rowOf nm ar))) := by
      unfold DB.rowOf
      cases hr : S.roAt nm ar with
      | none => exact ⟨a0, rfl, e3⟩
      | some x => exact ⟨x.ad, rfl, D3.lr x (List.mem_of_find?_eq_some hr)⟩
    have erow' : (((DB.roAt { S with nc := S.nc + 1 } nm ar).map fun x => V.ref x.ad).getD (.ref a0)) = .ref ra := erow
    rw [erow']
    walk_at "go"
    refine ⟨ra, _, rfl, SqL.of ers, fun R nR => ?_⟩
    have s4 := same_upd (o := .lst (intN (S.rowOf nm ar)).reverse) nR
    have e4 : (upd H3 R (.lst (intN (S.rowOf nm ar)).reverse)) R = some (.lst (intN (S.rowOf nm ar).reverse)) := by rw [upd_same]; unfold intN; rw [List.map_reverse]
    have D4 := D3.keep s4
    have b4 := b3.new (o := .lst (intN (S.rowOf nm ar)).reverse) nR
    generalize upd H3 R (.lst (intN (S.rowOf nm ar)).reverse) = H4 at s4 e4 D4 b4 ⊢
    walk_at "go"
    refine ⟨R, rfl, ⟨_, SqL.of e4⟩, fun W nW => ?_⟩
    have sW := same_upd (o := .lst []) nW
    have lrow : (S.rowOf nm ar).length ≤ 100000 := by
      unfold DB.rowOf
      cases hr : S.roAt nm ar with
      | none => exact Nat.zero_le _
      | some x => exact z6 x (List.mem_of_find?_eq_some hr)
    refine lc_it walk_list (fun j H' => Same H4 H' ∧ H' W = some (.lst (intN (((S.rowOf nm ar).reverse.take j).filter S.has)))) ⟨sW, upd_same⟩ (fun j H' _ h => SqL.of (h.1 _ _ e4)) ?_ ?_
    · rintro j z H5 H6 hj ⟨s5, e5⟩ ⟨rfl, hz⟩
      unfold intN at hz
      rw [List.getElem?_map] at hz
      obtain ⟨m, hm, rfl⟩ := Option.map_eq_some_iff.mp hz
      have D5 := D4.keep s5
      walk_at "wp"
      walk_at "go"
      refine ⟨rfl, ?_⟩
      walk_at "go"
      refine ⟨_, _, _, rfl, D5.ob, fs_Database_no__exists, ?_⟩
      walk_at "go"
      refine ⟨A, _, m, rfl, D5, ?_⟩
      have eh : DB.has { S with nc := S.nc + 1 } m = S.has m := rfl
      rw [eh]
      have lt : (intN (((S.rowOf nm ar).reverse.take j).filter S.has)).length < sizeLine := by
        unfold intN
        rw [List.length_map]
        refine lt_size (Nat.le_trans (List.length_filter_le _ _) ?_)
        rw [List.length_take, List.length_reverse]
        omega
      have et : ((S.rowOf nm ar).reverse.take (j + 1)).filter S.has = ((S.rowOf nm ar).reverse.take j).filter S.has ++ (if S.has m = true then [m] else []) := by
        rw [List.take_add_one, hm, List.filter_append]
        congr 1
        show List.filter S.has [m] = _
        rw [List.filter_cons]
        split <;> rfl
      rw [et]
      refine ⟨_, rfl, ?_⟩
      cases hh : S.has m with
      | true =>
        rw [if_pos rfl]
        walk_at "go"
        refine ⟨_, e5, lt, same_new nW s5, ?_⟩
        rw [upd_same]
        unfold intN
        rw [List.map_append]
        rfl
      | false =>
        rw [if_neg Bool.false_ne_true, if_neg Bool.false_ne_true, List.append_nil]
        exact ⟨s5, e5⟩
    · rintro H5 ⟨s5, e5⟩
      have li : (intN (S.rowOf nm ar).reverse).length = (S.rowOf nm ar).reverse.length := by unfold intN; rw [List.length_map]
      rw [li, List.take_length] at e5
      have D5 := D4.keep s5
      have s35 := s4.trans s5
      have nW3 : H3 W = Option.none := s4.free nW
      walk_at "go"
      refine newN (n := 2) rfl (by decide) fun T nT => ?_
      have s6 := same_upd (o := .tup [V.ref W, V.bl er]) nT
      have e6 : (upd H5 T (.tup [V.ref W, V.bl er])) T = some (.tup [V.ref W, V.bl er]) := upd_same
      have nT3 : H3 T = Option.none := s35.free nT
      have s36 := s35.trans s6
      have eW6 := s6 _ _ e5
      have D6 := D5.keep s6
      have b6 : ButM (A.L S) H (upd H5 T (.tup [V.ref W, V.bl er])) := fun x o hx ho => s36 _ _ (b3 x o hx ho)
      generalize upd H5 T (.tup [V.ref W, V.bl er]) = H6 at s36 e6 eW6 D6 b6 ⊢
      walk_at "go"
      refine ⟨_, _, _, _, _, rfl, D6.ob, E.cl_Database, E.nA_Database__calls, fs_Database__calls, ?_⟩
      walk_at "go"
      refine ⟨_, _, rfl, DPut.k (k := kN S.nc) D6.ek (by rw [List.length_map]; exact lt_size z5), ?_⟩
      have hfr : valV (S.ca.map caE) (kN S.nc) = none := by
        rw [val_ca]
        unfold DB.caAt
        rw [find_lt (f := DCa.n) O.ca]
        rfl
      have D7 := D3.newCa s36 nW3 nT3 S.nc (((S.rowOf nm ar).reverse).filter S.has) er eW6 e6
      have ep : putK (S.ca.map caE) (kN S.nc) (.ref T) = (S.ca ++ [(⟨S.nc, T, W, ((S.rowOf nm ar).reverse).filter S.has, er⟩ : DCa)]).map caE := by
        rw [putK_new hfr, List.map_append]
        rfl
      rw [ep]
      have nW0 : H W = Option.none := by
        have h1 : ∀ {z : Addr} {o : HO}, H z = some o → ∃ o', H3 z = some o' := fun {z o} h => by
          by_cases c : z ∈ A.L S
          · exact D3.there c
          · exact ⟨_, b3 z o c h⟩
        cases e : H W with
        | none => rfl
        | some o =>
          obtain ⟨o', ho⟩ := h1 e
          rw [nW3] at ho
          cases ho
      walk_at "go"
      exact q T W _ nW0 (b6.put D.mem.2.2.2.2.2.2) D7

theorem ok_Database_next_clause {f : Addr} {fd : FuncData} (F : Fun K "next_clause" "Database.next_clause" s_Database_next_clause f fd) (E : Bi K mg) (D_Database__left : HasMX P w K mg base 1 "Database" "_left" ["self", "call"] (sp_Database__left K)) (D_Database__exists : HasM P w K mg base 1 "Database" "_exists" ["self", "number"] (sp_Database__exists K)) : FnOk P w K mg base (L2.CX P w) 2 f fd ["self", "call"] (sp_Database_next_clause K) := by
  obtain ⟨f_Database__left, fd_Database__left, G_Database__left, M_Database__left, b_Database__left⟩ := D_Database__left
  obtain ⟨f_Database__exists, fd_Database__exists, G_Database__exists, M_Database__exists, b_Database__exists⟩ := D_Database__exists
  refine F.okX sc_Database_next_clause (fun vs H Q E h => ?_) (fun cdv A outer s H vs Q E' hr h => ?_)
  · obtain ⟨A, S, n, c, rfl, _⟩ := h
    rfl
  · obtain ⟨A, S, n, c, rfl, D, O, hc, q⟩ := h
    refine ⟨_, (pss_cons (ps_asg (pe_meth (pv 0) E.cl_Database M_Database__left G_Database__left (hr.mono (by decide)) b_Database__left .nil (passE (takes_of rfl rfl rfl rfl)) (pa_cons (pv 1) pa_nil)) (pg_tup rfl (pgs_cons (pg_name (i := 2) sc_Database_next_clause.nd rfl (Or.inl rfl)) (pgs_cons (pg_name (i := 3) sc_Database_next_clause.nd rfl (Or.inl rfl)) pgs_nil))))
      (pss_cons (ps_while (passes_of rfl) (pt_cmpR op_gt (pe_callB call_len_seq (by rfl) E.b_len PySem.boot_len (pa_cons (pv 2) pa_nil)) pe_int (nomark _)) (pss_cons (ps_set (i := 4) sc_Database_next_clause.nd rfl (Or.inl rfl) (pe_bm0 PySem.F.plainAttrs_list PySem.F.slot_list_pop PySem.F.type_list_pop mt_pop (pv 2)))
      (pss_one (ps_if (pw_or (pt_not (pt_val (pv 3))) (pw_or1 (pt_val (pe_meth (pv 0) E.cl_Database M_Database__exists G_Database__exists (hr.mono (by decide)) b_Database__exists .nil pass0 (pa_cons (pv 4) pa_nil))))).pt (pss_one (ps_ret (pe_tup (pa_cons (pv 4) (pa_cons (pe_ix ix_tup (pe_dget (hu_of hr) (pe_fld (pv 0) rfl) (pv 4) (fun _ _ => rfl)) pe_int (fun _ _ => rfl)) pa_nil))))) pss_nil))))
      (pss_cons (ps_ddel (pe_fld (pv 0) rfl) (pv 1))
      (pss_one (ps_ret pe_non))))), ?_⟩
    refine st_of (σ := [some _, some _, none, none, none]) rfl ?_
    walk_at "go"
    refine ⟨_, _, _, rfl, D.ob, fs_Database_no__left, ?_⟩
    walk_at "go"
    refine ⟨A, S, n, c, rfl, D, hc, ?_⟩
    have mc : c ∈ S.ca := List.mem_of_find?_eq_some hc
    have lc := D.lc c mc
    refine g_gtup (SqT.of (hidL_same _ _ lc.1)) rfl ?_
    walk_at "go"
    have hc2 : (S.ca.find? fun x => decide (x.n = n)) = some c := hc
    have cn : c.n = n := of_decide_eq_true (show decide (c.n = n) = true from List.find?_some (p := fun x : DCa => decide (x.n = n)) hc2)
    have self : ∀ x ∈ S.ca, x.ad = c.ad → x = c := fun x hx e => D.ca_inj hx mc e
    have D0 : Db K H A { S with ca := setCa S.ca c.ad c.ns.reverse.reverse } := by
      rw [List.reverse_reverse, setCa_self fun x hx e => by rw [self x hx e]]
      exact D
    refine while_m (fun m σ H' => ∃ (v4 : Option V) (l : List Nat), m = l.length ∧ σ = [some (.ref A.p), some (.int (n : Nat)), some (.ref c.ad), some (.bl c.er), v4] ∧ ButM (A.L S) H H' ∧ Db K H' A { S with ca := setCa S.ca c.ad l.reverse } ∧ popF S c.er l = popF S c.er c.ns.reverse ∧ ∀ x ∈ l, x ∈ c.ns)
      ⟨_, none, c.ns.reverse, rfl, rfl, ButM.refl, D0, rfl, fun x hx => List.mem_reverse.mp hx⟩ ?_
    rintro m σ H1 ⟨v4, l, rfl, rfl, b1, D1, ep, sub⟩
    have mc1 : ({ c with ns := l.reverse } : DCa) ∈ setCa S.ca c.ad l.reverse := List.mem_map.mpr ⟨c, mc, if_pos rfl⟩
    have ec1 := (D1.lc _ mc1).2
    have ec1 : H1 c.ad = some (.lst (intN l.reverse)) := ec1
    have eLs : A.L { S with ca := setCa S.ca c.ad l.reverse } = A.L S := by unfold DAd.L; rw [setCa_ad]
    walk_at "go"
    refine ⟨c.ad, _, rfl, .inl (SqL.of ec1), ?_⟩
    have ln : (intN l.reverse).length = l.length := by unfold intN; rw [List.length_map, List.length_reverse]
    rw [ln]
    walk_at "go"
    cases l with
    | nil =>
      refine iteF ?_
      walk_at "go"
      unfold sDDel
      walk_at "go"
      refine ⟨_, _, _, _, _, rfl, D1.ob, E.cl_Database, E.nA_Database__calls, fs_Database__calls, ?_⟩
      walk_at "go"
      refine ⟨_, _, kN n, rfl, D1.ek, rfl, ?_, ?_⟩
      · have := val_ca { S with ca := setCa S.ca c.ad ([] : List Nat).reverse } n
        rw [this, Option.isSome_map]
        exact List.find?_isSome.mpr ⟨_, mc1, decide_eq_true cn⟩
      have D2 := D1.delCa fun x => !decide (x.n = n)
      have ed := dropK_ca (setCa S.ca c.ad ([] : List Nat).reverse) n
      have ef : (setCa S.ca c.ad ([] : List Nat).reverse).filter (fun x => !decide (x.n = n)) = S.ca.filter fun x => !decide (x.n = c.n) := by
        rw [cn]
        refine setCa_filter (fun x hx e => ?_) fun x => rfl
        rw [self x hx e, decide_eq_true cn]
        rfl
      have en : S.next c = (none, { S with ca := S.ca.filter fun x => !decide (x.n = c.n) }) := by
        unfold DB.next
        rw [← ep]
        rfl
      rw [en] at q
      have D2 : Db K (upd H1 A.k (.dK (dropK ((setCa S.ca c.ad ([] : List Nat).reverse).map caE) (kN n)))) A { S with ca := S.ca.filter fun x => !decide (x.n = c.n) } := by
        rw [ed]
        have D2 : Db K _ A { S with ca := (setCa S.ca c.ad ([] : List Nat).reverse).filter fun x => !decide (x.n = n) } := D2
        rw [ef] at D2
        have D3 := D2
        rw [ef]
        exact D3
      have b2 := b1.put (o := .dK (dropK ((setCa S.ca c.ad ([] : List Nat).reverse).map caE) (kN n))) D.mem.2.2.2.2.2.2
      walk_at "go"
      exact q .non _ b2 D2 rfl
    | cons m l =>
      rw [decide_eq_true (show (0 : Int) < ((m :: l).length : Nat) by rw [List.length_cons]; omega)]
      refine iteT ?_
      refine while_n ?_
      have er : intN (m :: l).reverse = intN l.reverse ++ [V.int (m : Nat)] := by unfold intN; rw [List.reverse_cons, List.map_append]; rfl
      rw [er] at ec1
      walk_at "go"
      refine tyl (SqL.of ec1) ?_
      refine ⟨c.ad, _, _, rfl, rfl, ec1, last_at, ?_⟩
      rw [List.dropLast_concat]
      have D2 := D1.caL mc1 l.reverse
      have e2 : setCa (setCa S.ca c.ad (m :: l).reverse) c.ad l.reverse = setCa S.ca c.ad l.reverse := setCa_setCa
      have D2 : Db K (upd H1 c.ad (.lst (intN l.reverse))) A { S with ca := setCa S.ca c.ad l.reverse } := by rw [← e2]; exact D2
      have b2 := b1.put (o := .lst (intN l.reverse)) (ca_mem (A := A) mc)
      generalize upd H1 c.ad (.lst (intN l.reverse)) = H2 at D2 b2 ⊢
      walk_at "go"
      have eLs2 : A.L { S with ca := setCa S.ca c.ad l.reverse } = A.L S := by unfold DAd.L; rw [setCa_ad]
      have giv : (!c.er || S.has m) = true → S.next c = (some m, { S with ca := setCa S.ca c.ad l.reverse }) := fun g => by
        have e : popF S c.er (m :: l) = (some m, l) := by
          rw [popF, if_pos g]
        unfold DB.next
        rw [← ep, e]
      obtain ⟨y, hy⟩ := Option.isSome_iff_exists.mp (O.cn c mc m (sub m (.head _)))
      have my : y ∈ S.cl := List.mem_of_find?_eq_some hy
      have hv : valV (S.cl.map clE) (kN m) = some y.v := by rw [val_cl, hy]; rfl
      have hds : S.dsOf m = y.ds := by unfold DB.dsOf; rw [hy]; rfl
      obtain ⟨ty, ys, ety, hty, aty⟩ := dp_tup (D2.dc y my)
      obtain ⟨v1, hv1, dv1⟩ := DpAll.get (i := 1) aty rfl
      cases her : c.er with
      | false =>
        rw [giv (by rw [her]; rfl)] at q
        refine iteT (iteT ?_)
        walk_at "go"
        refine ⟨_, _, _, _, _, rfl, D2.ob, E.cl_Database, E.nA_Database__clauses, fs_Database__clauses, ?_⟩
        walk_at "go"
        refine ⟨_, _, rfl, by have := DGet.k (k := kN m) D2.ec; rw [hv] at this; exact this, ?_⟩
        rw [ety]
        walk_at "go"
        refine ixT (j := 1) (same_sqT hidL_same hty) hv1 ?_
        walk_at "go"
        refine newN (n := 2) rfl (by decide) fun T nT => ?_
        have sT := same_upd (o := .tup [V.int ((m : Nat) : Int), v1]) nT
        have hTL : T ∉ A.L S := fun z => by
          obtain ⟨o, ho⟩ := D2.there (by rw [eLs2]; exact z)
          rw [nT] at ho
          cases ho
        walk_at "go"
        refine q (.ref T) _ (b2.new nT) (D2.keep sT) ?_
        show Dp K (hidL (A.L S) _) (.ref T) (S.pairOf m)
        unfold DB.pairOf
        rw [hds]
        refine .tup (SqT.of (by rw [hidL_out hTL]; exact upd_same)) (.cons (.int _) (.cons (dp_same (hidL_mono NewL.refl (ButM.of sT)) _ _ (by rw [← eLs2]; exact dv1)) .nil))
      | true =>
        refine iteF ?_
        walk_at "go"
        refine ⟨_, _, _, rfl, D2.ob, fs_Database_no__exists, ?_⟩
        walk_at "go"
        refine ⟨A, _, m, rfl, D2, ?_⟩
        have eh : DB.has { S with ca := setCa S.ca c.ad l.reverse } m = S.has m := rfl
        rw [eh]
        cases hh : S.has m with
        | true =>
          rw [giv (by rw [her, hh]; rfl)] at q
          refine ⟨_, rfl, iteT ?_⟩
          walk_at "go"
          refine ⟨_, _, _, _, _, rfl, D2.ob, E.cl_Database, E.nA_Database__clauses, fs_Database__clauses, ?_⟩
          walk_at "go"
          refine ⟨_, _, rfl, by have := DGet.k (k := kN m) D2.ec; rw [hv] at this; exact this, ?_⟩
          rw [ety]
          walk_at "go"
          refine ixT (j := 1) (same_sqT hidL_same hty) hv1 ?_
          walk_at "go"
          refine newN (n := 2) rfl (by decide) fun T nT => ?_
          have sT := same_upd (o := .tup [V.int ((m : Nat) : Int), v1]) nT
          have hTL : T ∉ A.L S := fun z => by
            obtain ⟨o, ho⟩ := D2.there (by rw [eLs2]; exact z)
            rw [nT] at ho
            cases ho
          walk_at "go"
          refine q (.ref T) _ (b2.new nT) (D2.keep sT) ?_
          show Dp K (hidL (A.L S) _) (.ref T) (S.pairOf m)
          unfold DB.pairOf
          rw [hds]
          refine .tup (SqT.of (by rw [hidL_out hTL]; exact upd_same)) (.cons (.int _) (.cons (dp_same (hidL_mono NewL.refl (ButM.of sT)) _ _ (by rw [← eLs2]; exact dv1)) .nil))
        | false =>
          refine ⟨_, rfl, iteF ?_⟩
          walk_at "go"
          refine ⟨_, Nat.lt_succ_self _, _, l, rfl, rfl, b2, D2, ?_, fun x hx => sub x (.tail _ hx)⟩
          rw [← her, ← ep, popF, if_neg (by rw [her, hh]; exact Bool.false_ne_true)]

theorem ok__law_put {f : Addr} {fd : FuncData} (F : Fun K "_law_put" "_law_put" s__law_put f fd) (E : Bi K mg) (D__law_is_variable : Has P w K mg base 1 "_law_is_variable" ["node"] (sp__law_is_variable K)) : FnOk P w K mg base CX0 2 f fd ["table", "term"] (sp__law_put K) := by
  obtain ⟨f__law_is_variable, fd__law_is_variable, G__law_is_variable, g__law_is_variable, kp__law_is_variable, b__law_is_variable⟩ := D__law_is_variable
  refine F.ok sc__law_put (fun vs H Q E h => ?_) (fun cdv A outer s H vs Q E' hr h => ?_)
  · obtain ⟨p, F, x, ds, rfl, _⟩ := h
    rfl
  · obtain ⟨p, F, x, ds, rfl, fF, nt, hx, hn, hl0, q⟩ := h
    refine ⟨_, (pss_cons (ps_set (i := 2) sc__law_put.nd rfl (Or.inl rfl) (pe_lst pa_nil))
      (pss_cons (ps_for PassesOwn.never rfl (pi_tup (pv 1)) (pg_name (i := 3) sc__law_put.nd rfl (Or.inl rfl)) (pss_one (ps_if (pw_and (pt_val (pe_call G__law_is_variable (hr.mono (by decide)) (by rfl) g__law_is_variable kp__law_is_variable b__law_is_variable .nil pass0 (pa_cons (pv 3) pa_nil))) (pw_and1 (pt_cmp (pc_din (hu_of hr) (pe_ix ix_tup (pv 3) pe_int (fun _ _ => rfl)) (pv 0))))).pt (pss_one (ps_expr (pe_bm PySem.F.plainAttrs_list PySem.F.slot_list_extend PySem.F.type_list_extend mt_extT (pv 2) (pa_cons (pe_dget (hu_of hr) (pv 0) (pe_ix ix_tup (pv 3) pe_int (fun _ _ => rfl)) (fun _ _ => rfl)) pa_nil)))) (pss_one (ps_expr (pe_bm PySem.F.plainAttrs_list PySem.F.slot_list_append PySem.F.type_list_append mt_append (pv 2) (pa_cons (pv 3) pa_nil)))))))
      (pss_one (ps_ret (pe_callTy call_tuple_of (by rfl) E.b_tuple (by decide +kernel) (pa_cons (pv 2) pa_nil)))))), ?_⟩
    obtain ⟨kvs, hp, ht⟩ := fF.at_
    have hl : ∀ i, (appM F (ds.take i)).length ≤ 2000000 := fun i => by
      have e : appM F ds = appM F (ds.take i) ++ appM F (ds.drop i) := by rw [← appM_app, List.take_append_drop]
      rw [e, List.length_append] at hl0
      omega
    cases id hx with
    | @tup a xs _ hs ha =>
    have hxl := DpAll.len ha
    refine seq_asg ?_
    refine ⟨Nat.zero_le _, fun r nr => ?_⟩
    refine gname (seq_any ?_)
    have s0 : Same H (upd H r (.lst [])) := same_upd nr
    have put : ∀ {H1 : Hp} {o : HO}, Same H H1 → Same H (upd H1 r o) := fun {H1 o} s1 b u e => by rw [upd_ne (ne_of_none e nr)]; exact s1 b u e
    refine ⟨_, rfl, a, rfl, ⟨_, same_sqT s0 hs⟩, for_tup (K := K) (a := a) (xs := xs) (fun i σ H' => ∃ (v3 : Option V) (ys : List V), σ = [some (.ref p), some (.ref a), some (.ref r), v3] ∧ Same H H' ∧ H' r = some (.lst ys) ∧ DpAll K H ys (appM F (ds.take i)))
      ⟨none, [], rfl, s0, upd_same, .nil⟩ (fun i σ H' _ ⟨_, _, _, e, _⟩ => same_sqT e hs) ?_ ?_⟩
    · rintro i z σ H1 hi ⟨v3, ys, rfl, s1, h1, h2⟩
      obtain ⟨d, hd, dz0⟩ := DpAll.getV ha hi
      have ndd := hn d (List.mem_of_getElem? hd)
      have dz := dp_same s1 _ _ dz0
      have hyl := DpAll.len h2
      have b0 := hl i
      have b1 := hl (i + 1)
      rw [appM_take hd, List.length_append] at b1
      have one : appN F d = [d] → ∃ (v3' : Option V) (ys' : List V), [some (V.ref p), some (.ref a), some (.ref r), some z] = [some (V.ref p), some (.ref a), some (.ref r), v3'] ∧ Same H (upd H1 r (.lst (ys ++ [z]))) ∧ (upd H1 r (.lst (ys ++ [z]))) r = some (.lst ys') ∧ DpAll K H ys' (appM F (ds.take (i + 1))) := fun e => by
        refine ⟨_, ys ++ [z], rfl, put s1, upd_same, ?_⟩
        rw [appM_take hd, e]
        exact DpAll.app h2 (.cons dz0 .nil)
      refine gname ?_
      refine ⟨_, rfl, z, d, rfl, dz, ndd, _, rfl, ite2 (fun v => ?_) (fun v => ?_)⟩
      · obtain ⟨n, rfl⟩ := var_form ndd v
        cases id dz with
        | @tup c zs _ hz az =>
        obtain ⟨v2, hv2, dv2⟩ := DpAll.get (i := 1) az rfl
        cases dv2
        refine ⟨_, rfl, _, _, _, _, rfl, rfl, hz, atI_nat (j := 1) hv2, _, rfl, p, _, rfl, DGet.k (k := Sum.inl n) (s1 _ _ hp), _, rfl, ?_⟩
        rcases TabK.val n ht with ⟨w1, w2⟩ | ⟨v', w, w1, w2, w3⟩
        · rw [w1]
          refine iteF ?_
          refine ⟨_, rfl, .inl ⟨rfl, _, SqL.of h1⟩, _, rfl, _, _, _, rfl, rfl, h1, Nat.lt_of_le_of_lt (show _ ≤ 2000000 by omega) (by decide), ?_⟩
          exact one (appN_out w2)
        · rw [w1]
          refine iteT ?_
          have g12 : DGet H1 p (.int n) (some v') := by
            have := DGet.k (k := Sum.inl n) (s1 _ _ hp)
            rw [w1] at this
            exact this
          rw [appN_in w2] at b1
          cases w3 with
          | @tup c2 ws _ hw aw =>
          have hwl := DpAll.len aw
          refine ⟨_, rfl, .inl ⟨rfl, _, SqL.of h1⟩, _, rfl, _, rfl, _, _, _, _, rfl, rfl, hz, atI_nat (j := 1) hv2, p, _, rfl, g12, _, _, _, _, rfl, rfl, h1, same_sqT s1 hw, Nat.le_trans (show _ ≤ 2000000 by omega) (by decide), ?_⟩
          refine ⟨_, _, rfl, put s1, upd_same, ?_⟩
          rw [appM_take hd, appN_in w2]
          exact DpAll.app h2 aw
      · refine iteF ?_
        refine ⟨_, rfl, .inl ⟨rfl, _, SqL.of h1⟩, _, rfl, _, _, _, rfl, rfl, h1, Nat.lt_of_le_of_lt (show _ ≤ 2000000 by omega) (by decide), ?_⟩
        exact one (appN_non v)
    · rintro σ H1 ⟨v3, ys, rfl, s1, h1, h2⟩
      rw [hxl, List.take_length] at h2
      refine nxp ?_
      refine ⟨_, rfl, _, _, rfl, .inl ⟨SqL.of h1, fun u nu => ?_⟩⟩
      exact q _ _ (s1.trans (same_upd nu)) (.tup (SqT.of upd_same) (dp_sameAll (s1.trans (same_upd nu)) _ _ h2))

theorem ok__law_stored {f : Addr} {fd : FuncData} (F : Fun K "_law_stored" "_law_stored" s__law_stored f fd) (E : Bi K mg) (D__law_draw : Has P w K mg base 1 "_law_draw" ["stream", "many"] (sp__law_draw K)) : FnOk P w K mg base CX0 2 f fd ["stream"] (sp__law_stored K) := by
  obtain ⟨f__law_draw, fd__law_draw, G__law_draw, g__law_draw, kp__law_draw, b__law_draw⟩ := D__law_draw
  refine F.ok sc__law_stored (fun vs H Q E h => ?_) (fun cdv A outer s H vs Q E' hr h => ?_)
  · obtain ⟨s, l, rfl, _⟩ := h
    rfl
  · obtain ⟨s, l, rfl, S, q⟩ := h
    have n9 : (2 : Nat) ^ 8 ≤ 2 ^ 9000 := Nat.pow_le_pow_right (by decide) (by decide)
    refine ⟨_, (pss_cons (ps_set (i := 1) sc__law_stored.nd rfl (Or.inl rfl) (pe_lst (pa_cons (pe_tup (pa_cons pe_str (pa_cons pe_int pa_nil))) (pa_cons (pe_tup (pa_cons pe_str (pa_cons pe_int pa_nil))) (pa_cons (pe_tup (pa_cons pe_str (pa_cons pe_int pa_nil))) (pa_cons (pe_tup (pa_cons pe_str (pa_cons pe_int pa_nil))) (pa_cons (pe_tup (pa_cons pe_str (pa_cons pe_int pa_nil))) (pa_cons (pe_tup (pa_cons pe_str (pa_cons pe_int pa_nil))) (pa_cons (pe_tup (pa_cons pe_str (pa_cons pe_int pa_nil))) pa_nil)))))))))
      (pss_cons (ps_if (pt_cmpR op_eq (pe_call G__law_draw (hr.mono (by decide)) (by rfl) g__law_draw kp__law_draw b__law_draw .nil pass0 (pa_cons (pv 0) (pa_cons pe_int pa_nil))) pe_int (nomark _)) (pss_cons (ps_set (i := 2) sc__law_stored.nd rfl (Or.inl rfl) (pe_op op_catA (pe_op op_catA (pe_tup (pa_cons (pe_tup (pa_cons pe_str (pa_cons pe_str (pa_cons pe_int pa_nil)))) pa_nil)) (pe_op op_repA (pe_tup (pa_cons (pe_tup (pa_cons pe_str (pa_cons pe_str (pa_cons pe_int pa_nil)))) pa_nil)) pe_int)) (pe_tup (pa_cons (pe_tup (pa_cons pe_str (pa_cons pe_str (pa_cons pe_int pa_nil)))) (pa_cons pe_int pa_nil)))))
      (pss_one (ps_ret (pe_ix ix_list (pe_lst (pa_cons (pv 2) (pa_cons (pe_op op_catA (pe_op op_catA (pe_tup (pa_cons (pe_tup (pa_cons pe_str (pa_cons pe_str (pa_cons pe_int pa_nil)))) (pa_cons (pe_tup (pa_cons pe_str (pa_cons pe_str (pa_cons pe_int pa_nil)))) pa_nil))) (pe_slice sl_tupA (pv 2) (po_some pe_int) po_none)) (pe_tup (pa_cons (pe_tup (pa_cons pe_str (pa_cons pe_str (pa_cons pe_int pa_nil)))) pa_nil))) pa_nil))) (pe_call G__law_draw (hr.mono (by decide)) (by rfl) g__law_draw kp__law_draw b__law_draw .nil pass0 (pa_cons (pv 0) (pa_cons pe_int pa_nil))) (fun _ _ => rfl))))) pss_nil)
      (pss_cons (ps_set (i := 3) sc__law_stored.nd rfl (Or.inl rfl) (pe_ix ix_list (pv 1) (pe_call G__law_draw (hr.mono (by decide)) (by rfl) g__law_draw kp__law_draw b__law_draw .nil pass0 (pa_cons (pv 0) (pa_cons pe_int pa_nil))) (fun _ _ => rfl)))
      (pss_cons (ps_set (i := 4) sc__law_stored.nd rfl (Or.inl rfl) (pe_lst (pa_cons (pe_tup (pa_cons pe_str (pa_cons (pe_ix ix_tup (pv 3) pe_int (fun _ _ => rfl)) (pa_cons (pe_ix ix_tup (pv 3) pe_int (fun _ _ => rfl)) pa_nil)))) pa_nil)))
      (pss_cons (ps_for PassesOwn.never rfl (pi_range1 (by rfl) E.b_range (pa_cons (pe_ix ix_tup (pv 3) pe_int (fun _ _ => rfl)) pa_nil)) (pg_name (i := 5) sc__law_stored.nd rfl (Or.inl rfl)) (pss_one (ps_expr (pe_bm PySem.F.plainAttrs_list PySem.F.slot_list_append PySem.F.type_list_append mt_append (pv 4) (pa_cons (pe_ix ix_list (pe_lst (pa_cons (pe_tup (pa_cons pe_str (pa_cons (pe_op op_add pe_int (pe_call G__law_draw (hr.mono (by decide)) (by rfl) g__law_draw kp__law_draw b__law_draw .nil pass0 (pa_cons (pv 0) (pa_cons pe_int pa_nil)))) pa_nil))) (pa_cons (pe_tup (pa_cons pe_str (pa_cons pe_str (pa_cons pe_int pa_nil)))) (pa_cons (pe_call G__law_draw (hr.mono (by decide)) (by rfl) g__law_draw kp__law_draw b__law_draw .nil pass0 (pa_cons (pv 0) (pa_cons pe_int pa_nil))) pa_nil)))) (pe_call G__law_draw (hr.mono (by decide)) (by rfl) g__law_draw kp__law_draw b__law_draw .nil pass0 (pa_cons (pv 0) (pa_cons pe_int pa_nil))) (fun _ _ => rfl)) pa_nil)))))
      (pss_cons (ps_set (i := 6) sc__law_stored.nd rfl (Or.inl rfl) (pe_callTy call_tuple_of (by rfl) E.b_tuple (by decide +kernel) (pa_cons (pv 4) pa_nil)))
      (pss_cons (ps_if (pt_cmpR op_eq (pe_call G__law_draw (hr.mono (by decide)) (by rfl) g__law_draw kp__law_draw b__law_draw .nil pass0 (pa_cons (pv 0) (pa_cons pe_int pa_nil))) pe_int (nomark _)) (pss_one (ps_ret (pv 6))) pss_nil)
      (pss_cons (ps_set (i := 7) sc__law_stored.nd rfl (Or.inl rfl) (pe_tup (pa_cons (pe_tup (pa_cons pe_str (pa_cons pe_str (pa_cons pe_int pa_nil)))) (pa_cons (pe_tup (pa_cons pe_str (pa_cons pe_str (pa_cons pe_int pa_nil)))) (pa_cons (pe_tup (pa_cons pe_str (pa_cons pe_str (pa_cons pe_int pa_nil)))) (pa_cons (pe_tup (pa_cons pe_str (pa_cons pe_str (pa_cons pe_int pa_nil)))) (pa_cons (pe_tup (pa_cons pe_str (pa_cons pe_int pa_nil))) (pa_cons (pe_tup (pa_cons pe_str (pa_cons pe_str (pa_cons pe_int pa_nil)))) pa_nil))))))))
      (pss_one (ps_ret (pe_op op_catA (pe_op op_catA (pe_tup (pa_cons (pe_tup (pa_cons pe_str (pa_cons pe_str (pa_cons pe_int pa_nil)))) pa_nil)) (pv 6)) (pe_ix ix_list (pe_lst (pa_cons (pe_tup (pa_cons (pe_tup (pa_cons pe_str (pa_cons pe_int pa_nil))) pa_nil)) (pa_cons (pe_tup (pa_cons (pe_tup (pa_cons pe_str (pa_cons pe_str (pa_cons pe_int pa_nil)))) pa_nil)) (pa_cons (pe_tup (pa_cons pe_int pa_nil)) (pa_cons (pe_tup (pa_cons (pe_tup (pa_cons pe_str (pa_cons pe_str (pa_cons pe_int pa_nil)))) pa_nil)) (pa_cons (pv 7) pa_nil)))))) (pe_call G__law_draw (hr.mono (by decide)) (by rfl) g__law_draw kp__law_draw b__law_draw .nil pass0 (pa_cons (pv 0) (pa_cons pe_int pa_nil))) (fun _ _ => rfl))))))))))))), ?_⟩
    refine st_of (σ := [some _, none, none, none, none, none, none, none]) rfl ?_
    refine seq_asg ?_
    refine lit_lst (K := K) (ds := nmL.map pdD) ?_ (by decide) H _ fun v1 H1 s1 i1 => ?_
    · unfold nmL pdD
      simp only [List.map_cons, List.map_nil]
      walk_at "lits"
    refine gname ?_
    simp only [List.set_cons_succ, List.set_cons_zero]
    cases i1 with
    | @lst p1 xs1 _ g1 e1 a1 =>
    obtain ⟨os, hos⟩ := S.at_s
    have ps : p1 ≠ s := fun z => by rw [z, hos] at g1; cases g1
    have S1 := S.keep s1
    have l1 := a1.len
    have d1 := Im.dpAll _ _ a1
    walk_at "go"
    refine ⟨s, l, 24, rfl, S1, by decide, Nat.lt_of_lt_of_le (by decide) n9, fun r2 H2 _ _ b2 S2 => ?_⟩
    walk_at "go"
    refine ite2 (fun e2 => ?_) (fun e2 => ?_)
    · refine seq_asg (op_of (op_of ?_))
      refine lit_tup (K := K) (ds := [nodeF "p" 2]) ?_ (by decide) H2 _ fun v3 H3 s3 i3 => ?_
      · unfold nodeF
        walk_at "lits"
      refine op_of ?_
      refine lit_tup (K := K) (ds := [nodeF "s" 1]) ?_ (by decide) H3 _ fun v4 H4 s4 i4 => ?_
      · unfold nodeF
        walk_at "lits"
      obtain ⟨ax, xs, rfl, sx, axs⟩ := dp_tup (Im.dp _ _ i4)
      obtain ⟨e0, rfl, de0⟩ : ∃ e0, xs = [e0] ∧ Dp K H4 e0 (nodeF "s" 1) := by
        cases axs with
        | cons a1 r1 =>
          cases r1
          exact ⟨_, rfl, a1⟩
      walk_at "go"
      refine ⟨ax, 197, [e0], rfl, rfl, sx, List.cons_ne_nil _ _, by decide, by decide, by show 1 ≤ 1000; decide, fun z => by omega, fun P5 nP5 => ?_⟩
      have s5 := same_upd (o := .tup (List.replicate (197 : Int).toNat [e0]).flatten) nP5
      have d5 : Dp K (upd H4 P5 (.tup (List.replicate (197 : Int).toNat [e0]).flatten)) (.ref P5) (.tuple (List.replicate 197 (nodeF "s" 1))) := .tup (SqT.of upd_same) (rep_dp1 (dp_same s5 _ _ de0) 197)
      have d3 := dp_same (s4.trans s5) _ _ (Im.dp _ _ i3)
      generalize upd H4 P5 (.tup (List.replicate (197 : Int).toNat [e0]).flatten) = H5 at s5 d5 d3 ⊢
      refine cat_dpA d3 d5 (by rw [List.length_replicate]; decide) fun v6 H6 s6 d6 => ?_
      refine lit_tup (K := K) (ds := [nodeF "a" 0, .int 3]) ?_ (by decide) H6 _ fun v7 H7 s7 i7 => ?_
      · unfold nodeF
        walk_at "lits"
      refine cat_dpA (dp_same s7 _ _ d6) (Im.dp _ _ i7) (by rw [List.length_append, List.length_replicate]; decide) fun v8 H8 s8 d8 => ?_
      have d8 : Dp K H8 v8 (.tuple (nodeF "p" 2 :: tailL 197)) := by
        unfold tailL
        have e : [nodeF "p" 2] ++ List.replicate 197 (nodeF "s" 1) ++ [nodeF "a" 0, .int 3] = nodeF "p" 2 :: (List.replicate 197 (nodeF "s" 1) ++ [nodeF "a" 0, .int 3]) := by rw [List.append_assoc]; rfl
        rw [e] at d8
        exact d8
      have s28 := s3.trans (s4.trans (s5.trans (s6.trans (s7.trans s8))))
      clear d6 d5 d3
      refine gname ?_
      simp only [List.set_cons_succ, List.set_cons_zero]
      first | refine nxp ?_ | skip
      refine g_ret (op_of (lst_of (g_cons (g_var rfl (g_cons (op_of (op_of ?_)))))))
      refine lit_tup (K := K) (ds := [clN, nodeF "p" 2]) ?_ (by decide) H8 _ fun v9 H9 s9 i9 => ?_
      · unfold clN nodeF
        walk_at "lits"
      walk_at "go"
      refine dp_drop (k := 3) (dp_same s9 _ _ d8) (by rw [List.length_cons, tail_len]; decide) fun v10 H10 s10 d10 => ?_
      have e10 : (nodeF "p" 2 :: tailL 197).drop 3 = tailL 195 := by
        unfold tailL
        rfl
      rw [e10] at d10
      refine cat_dpA (dp_same s10 _ _ (Im.dp _ _ i9)) d10 (by rw [tail_len]; decide) fun v11 H11 s11 d11 => ?_
      refine lit_tup (K := K) (ds := [trueN]) ?_ (by decide) H11 _ fun v12 H12 s12 i12 => ?_
      · unfold trueN
        walk_at "lits"
      refine cat_dpA (dp_same s12 _ _ d11) (Im.dp _ _ i12) (by rw [List.length_append, tail_len]; decide) fun v13 H13 s13 d13 => ?_
      have d13 : Dp K H13 v13 (.tuple (clN :: nodeF "p" 2 :: (tailL 195 ++ [trueN]))) := by
        have e : [clN, nodeF "p" 2] ++ tailL 195 ++ [trueN] = clN :: nodeF "p" 2 :: (tailL 195 ++ [trueN]) := by rw [List.append_assoc]; rfl
        rw [e] at d13
        exact d13
      have s8d := s9.trans (s10.trans (s11.trans (s12.trans s13)))
      walk_at "go"
      refine newN (n := 2) rfl (by decide) fun P14 n14 => ?_
      have s14 := same_upd (o := .lst [v8, v13]) n14
      have e14 : (upd H13 P14 (.lst [v8, v13])) P14 = some (.lst [v8, v13]) := upd_same
      have d8' := dp_same (s8d.trans s14) _ _ d8
      have d13' := dp_same s14 _ _ d13
      have s2e := s28.trans (s8d.trans s14)
      have S14 := S2.keep s2e
      have ps14 : P14 ≠ s := fun z => by
        obtain ⟨o, ho⟩ := (S2.keep (s28.trans s8d)).at_s
        rw [z, ho] at n14
        cases n14
      have b02 : But s H H2 := (But.of s1).trans b2
      generalize upd H13 P14 (.lst [v8, v13]) = H14 at e14 d8' d13' s2e S14 ⊢
      clear d8 d13 d10 d11
      walk_at "go"
      refine ⟨s, l, 2, rfl, S14, by decide, Nat.lt_of_lt_of_le (by decide) n9, fun r15 H15 r150 r151 b15 S15 => ?_⟩
      have e15 := b15 _ _ ps14 e14
      have bb := b02.trans ((But.of s2e).trans b15)
      have n1 : noL (.tuple (nodeF "p" 2 :: tailL 197)) = true := tup_noL long_ok.1.nd
      have n2 : noL (.tuple (clN :: nodeF "p" 2 :: (tailL 195 ++ [trueN]))) = true := tup_noL long2_ok.1.nd
      obtain rfl | rfl : r15 = 0 ∨ r15 = 1 := by omega
      · refine ixL (j := 0) (SqL.of e15) rfl ?_
        exact q v8 _ _ _ _ H15 long_ok.1 long_ok.2 bb S15 (dp_butS S14 b15 n1 d8')
      · refine ixL (j := 1) (SqL.of e15) rfl ?_
        exact q v13 _ _ _ _ H15 long2_ok.1 long2_ok.2 bb S15 (dp_butS S14 b15 n2 d13')
    walk_at "go"
    refine ⟨s, l, 7, rfl, S2, by decide, Nat.lt_of_lt_of_le (by decide) n9, fun r3 H3 r30 r31 b3 S3 => ?_⟩
    obtain ⟨j, rfl⟩ : ∃ j : Nat, r3 = (j : Int) := ⟨r3.toNat, by omega⟩
    have l1' : xs1.length = 7 := by rw [l1]; rfl
    obtain ⟨z, hz⟩ : ∃ z, xs1[j]? = some z := ⟨_, List.getElem?_eq_getElem (by omega)⟩
    refine ixL (j := j) (SqL.of (b3 _ _ ps (b2 _ _ ps e1))) hz ?_
    walk_at "go"
    obtain ⟨dz, hdz, dz1⟩ := DpAll.getV d1 hz
    rw [List.getElem?_map] at hdz
    obtain ⟨p, hp, rfl⟩ := Option.map_eq_some_iff.mp hdz
    have OK := nm_ok p (List.mem_of_getElem? hp)
    obtain ⟨nm, ar⟩ := p
    have OK : NmOk nm ar := OK
    have a0 := OK.a0
    have a8 := OK.a8
    have b23 := b2.trans b3
    have dz3 : Dp K H3 z (.tuple [.str nm, .int ar]) := dp_butS S1 b23 (by simp [noL, noLA]) dz1
    obtain ⟨tz, zs, rfl, htz, atz⟩ := dp_tup dz3
    obtain ⟨y0, y1, rfl, dy0, dy1⟩ : ∃ u v, zs = [u, v] ∧ Dp K H3 u (.str nm) ∧ Dp K H3 v (.int ar) := by
      cases atz with
      | cons a1 r1 =>
        cases r1 with
        | cons a2 r2 =>
          cases r2
          exact ⟨_, _, rfl, a1, a2⟩
    cases dy0
    cases dy1
    refine ixT (j := 0) htz rfl ?_
    walk_at "go"
    refine ixT (j := 1) htz rfl ?_
    walk_at "go"
    refine newN (n := 3) rfl (by decide) fun P4 n4 => ?_
    have s4 := same_upd (o := .tup [V.str (Str.ofString "f"), V.str nm, V.int ar]) n4
    have e4 : (upd H3 P4 (.tup [V.str (Str.ofString "f"), V.str nm, V.int ar])) P4 = some (.tup [V.str (Str.ofString "f"), V.str nm, V.int ar]) := upd_same
    generalize upd H3 P4 (.tup [V.str (Str.ofString "f"), V.str nm, V.int ar]) = H4 at s4 e4 ⊢
    walk_at "go"
    refine newN (n := 1) rfl (by decide) fun N n5 => ?_
    have s5 := same_upd (o := .lst [V.ref P4]) n5
    have e5 : (upd H4 N (.lst [V.ref P4])) N = some (.lst [V.ref P4]) := upd_same
    have d5 : Dp K (upd H4 N (.lst [V.ref P4])) (.ref P4) (nodeF nm ar) := .tup (SqT.of (s5 _ _ e4)) (.cons (.str _) (.cons (.str _) (.cons (.int _) .nil)))
    have S5 := S3.keep (s4.trans s5)
    have Ns : N ≠ s := fun z => by
      obtain ⟨o, ho⟩ := (S3.keep s4).at_s
      rw [z, ho] at n5
      cases n5
    have b05 : But s H (upd H4 N (.lst [V.ref P4])) := ((But.of s1).trans b23).trans (But.of (s4.trans s5))
    have htz5 := same_sqT (s4.trans s5) htz
    have nN0 : H N = Option.none := by
      cases e : H N with
      | none => rfl
      | some o =>
        have := (((But.of s1).trans b23).trans (But.of s4)) _ _ Ns e
        rw [n5] at this
        cases this
    generalize upd H4 N (.lst [V.ref P4]) = H5 at e5 d5 S5 b05 htz5 ⊢
    walk_at "go"
    refine ixT (j := 1) htz5 rfl ?_
    walk_at "go"
    have okA : noLA [nodeF nm ar] = true := by have := tup_noL (ds := [nodeF nm ar]) (fun d hd => by rw [List.mem_singleton.mp hd]; exact OK.nd); simpa [noL] using this
    refine ⟨ar, rfl, by omega, by omega, for_range (lo := 0) (n := ar.toNat) (fun j σ H' => ∃ (v5 : Option V) (ws : List V) (ds : List PyData), σ = [some (.ref s), some (.ref p1), none, some (.ref tz), some (.ref N), v5, none, none] ∧ But s H H' ∧ Stm H' s l ∧ H' N = some (.lst ws) ∧ DpAll K H' ws (nodeF nm ar :: ds) ∧ ds.length = j ∧ ∀ d ∈ ds, NdA d ∧ arN d = 0)
      ⟨none, _, [], rfl, b05, S5, e5, .cons d5 .nil, rfl, fun d hd => nomatch hd⟩ ?_ ?_⟩
    · rintro i σ H6 hi ⟨v5, ws, ds, rfl, b6, S6, e6, d6, l6, n6⟩
      have lws := DpAll.len d6
      rw [List.length_cons] at lws
      have nla : noLA (nodeF nm ar :: ds) = true := by
        have := tup_noL (ds := nodeF nm ar :: ds) (fun d hd => by
          rcases List.mem_cons.mp hd with rfl | hd
          · exact OK.nd
          · exact (n6 d hd).1)
        simpa [noL] using this
      walk_at "go"
      refine tyl (SqL.of e6) ?_
      walk_at "go"
      refine ⟨s, l, 2, rfl, S6, by decide, Nat.lt_of_lt_of_le (by decide) n9, fun r7 H7 r70 r71 b7 S7 => ?_⟩
      walk_at "go"
      refine newN (n := 2) rfl (by decide) fun P8 n8 => ?_
      have s8 := same_upd (o := .tup [V.str (Str.ofString "v"), V.int (3 + r7)]) n8
      have d8 : Dp K (upd H7 P8 (.tup [V.str (Str.ofString "v"), V.int (3 + r7)])) (.ref P8) (vN (3 + r7)) := .tup (SqT.of upd_same) (.cons (.str _) (.cons (.int _) .nil))
      generalize upd H7 P8 (.tup [V.str (Str.ofString "v"), V.int (3 + r7)]) = H8 at s8 d8 ⊢
      walk_at "go"
      refine newN (n := 3) rfl (by decide) fun P9 n9' => ?_
      have s9 := same_upd (o := .tup [V.str (Str.ofString "f"), V.str (Str.ofString "a"), V.int 0]) n9'
      have d9 : Dp K (upd H8 P9 (.tup [V.str (Str.ofString "f"), V.str (Str.ofString "a"), V.int 0])) (.ref P9) (nodeF "a" 0) := .tup (SqT.of upd_same) (.cons (.str _) (.cons (.str _) (.cons (.int _) .nil)))
      have d8 := dp_same s9 _ _ d8
      generalize upd H8 P9 (.tup [V.str (Str.ofString "f"), V.str (Str.ofString "a"), V.int 0]) = H9 at s9 d8 d9 ⊢
      have S9 := S7.keep (s8.trans s9)
      walk_at "go"
      refine ⟨s, l, 5, rfl, S9, by decide, Nat.lt_of_lt_of_le (by decide) n9, fun r10 H10 ra rb b10 S10 => ?_⟩
      have nv : NdA (vN (3 + r7)) := ⟨3 + r7 + 1, .v _ (by omega) (by omega)⟩
      have nlv : noL (vN (3 + r7)) = true := by simp [vN, noL, noLA]
      have nla2 : noL (nodeF "a" 0) = true := by simp [nodeF, noL, noLA]
      have d8 := dp_butS S9 b10 nlv d8
      have d9 := dp_butS S9 b10 nla2 d9
      walk_at "go"
      refine newN (n := 3) rfl (by decide) fun P11 n11 => ?_
      have s11 := same_upd (o := .lst [V.ref P8, V.ref P9, V.int r10]) n11
      have e11 : (upd H10 P11 (.lst [V.ref P8, V.ref P9, V.int r10])) P11 = some (.lst [V.ref P8, V.ref P9, V.int r10]) := upd_same
      have d8 := dp_same s11 _ _ d8
      have d9 := dp_same s11 _ _ d9
      have p11s : P11 ≠ s := fun z => by
        obtain ⟨o, ho⟩ := S10.at_s
        rw [z, ho] at n11
        cases n11
      have S11 := S10.keep s11
      generalize upd H10 P11 (.lst [V.ref P8, V.ref P9, V.int r10]) = H11 at s11 e11 d8 d9 S11 ⊢
      walk_at "go"
      refine ⟨s, l, 3, rfl, S11, by decide, Nat.lt_of_lt_of_le (by decide) n9, fun r12 H12 rc rd b12 S12 => ?_⟩
      have d8 := dp_butS S11 b12 nlv d8
      have d9 := dp_butS S11 b12 nla2 d9
      have b612 : But s H6 H12 := b7.trans ((But.of (s8.trans s9)).trans (b10.trans ((But.of s11).trans b12)))
      have e12 := b12 _ _ p11s e11
      have eN12 := b612 _ _ Ns e6
      have d612 := dpAll_butM S6.nts (but_M b612) nla d6
      obtain ⟨j, rfl⟩ : ∃ j : Nat, r12 = (j : Int) := ⟨r12.toNat, by omega⟩
      obtain ⟨v, e, hv, ne, ae, de⟩ : ∃ v e, ([V.ref P8, V.ref P9, V.int r10] : List V)[j]? = some v ∧ NdA e ∧ arN e = 0 ∧ Dp K H12 v e := by
        obtain rfl | rfl | rfl : j = 0 ∨ j = 1 ∨ j = 2 := by omega
        · exact ⟨_, _, rfl, nv, rfl, d8⟩
        · exact ⟨_, _, rfl, aN_nd1, rfl, d9⟩
        · exact ⟨_, _, rfl, i_nd1 ra (by omega), rfl, .int _⟩
      refine ixL (j := j) (SqL.of e12) hv ?_
      walk_at "go"
      refine ⟨N, ws, _, rfl, rfl, eN12, lt_size (by omega), ?_⟩
      walk_at "go"
      have bN : ButM [N] H12 (upd H12 N (.lst (ws ++ [v]))) := ButM.refl.put (List.mem_singleton.mpr rfl)
      have nlE : noL e = true := by have := tup_noL (ds := [e]) (fun d hd => by rw [List.mem_singleton.mp hd]; exact ne); simpa [noL, noLA] using this
      have lN : l ≠ N := fun z => by
        have := S.at_l
        obtain ⟨o, ho⟩ := this
        rw [z, nN0] at ho
        cases ho
      refine ⟨_, ws ++ [v], ds ++ [e], rfl, fun z o hz ho => ?_, S12.put Ns.symm lN, upd_same, dpAll_end (dpAll_butM (nts_lst eN12) bN nla d612) (dp_butM (nts_lst eN12) bN nlE de), by rw [List.length_append, l6]; rfl, fun d hd => ?_⟩
      · rw [upd_ne (fun c => by rw [c, nN0] at ho; cases ho)]
        exact b612 _ _ hz (b6 z o hz ho)
      · rcases List.mem_append.mp hd with hd | hd
        · exact n6 d hd
        · rw [List.mem_singleton.mp hd]; exact ⟨ne, ae⟩
    · rintro σ H6 ⟨v5, ws, ds, rfl, b6, S6, e6, d6, l6, n6⟩
      have ndh : ∀ d ∈ nodeF nm ar :: ds, NdA d := fun d hd => by
        rcases List.mem_cons.mp hd with rfl | hd
        · exact OK.nd
        · exact (n6 d hd).1
      walk_at "go"
      refine ⟨N, ws, rfl, .inl ⟨SqL.of e6, fun T nT => ?_⟩⟩
      have sT := same_upd (o := .tup ws) nT
      have dT : Dp K (upd H6 T (.tup ws)) (.ref T) (.tuple (nodeF nm ar :: ds)) := .tup (SqT.of upd_same) (dp_sameAll sT _ _ d6)
      have ST := S6.keep sT
      have bT := b6.trans (But.of sT)
      generalize upd H6 T (.tup ws) = H7 at dT ST bT ⊢
      walk_at "go"
      refine ⟨s, l, 2, rfl, ST, by decide, Nat.lt_of_lt_of_le (by decide) n9, fun r8 H8 _ _ b8 S8 => ?_⟩
      have d8 := dp_butS ST b8 (tup_noL ndh) dT
      walk_at "go"
      refine ite2 (fun e8 => ?_) (fun e8 => ?_)
      · walk_at "go"
        obtain ⟨c1, c2⟩ := cla_fact OK (fun d hd => (n6 d hd).1) (by omega)
        exact q _ _ _ _ _ H8 c1 c2 (bT.trans b8) S8 d8
      · first | refine nxp (seq_asg ?_) | refine seq_asg ?_
        refine lit_tup (K := K) (ds := [nodeF "," 2, nodeF "q" 0, nodeF ";" 2, nodeF "r" 1, vN 3, nodeF "p" 0]) ?_ (by decide) H8 _ fun v9 H9 s9 i9 => ?_
        · unfold nodeF vN
          walk_at "lits"
        refine gname ?_
        simp only [List.set_cons_succ, List.set_cons_zero]
        refine g_ret (op_of (op_of ?_))
        refine lit_tup (K := K) (ds := [clN]) ?_ (by decide) H9 _ fun v10 H10 s10 i10 => ?_
        · unfold clN nodeF
          walk_at "lits"
        refine g_var rfl ?_
        have lt11 : [clN].length + (nodeF nm ar :: ds).length ≤ 1000 := by
          have : ds.length ≤ 8 := by omega
          show 1 + (ds.length + 1) ≤ 1000
          omega
        refine cat_dpA (Im.dp _ _ i10) (dp_same (s9.trans s10) _ _ d8) lt11 fun v11 H11 s11 d11 => ?_
        refine op_of (lst_of (g_cons ?_))
        refine lit_tup (K := K) (ds := [vN 3]) ?_ (by decide) H11 _ fun w1 J1 t1 k1 => ?_
        · unfold vN
          walk_at "lits"
        refine g_cons ?_
        refine lit_tup (K := K) (ds := [trueN]) ?_ (by decide) J1 _ fun w2 J2 t2 k2 => ?_
        · unfold trueN
          walk_at "lits"
        refine g_cons ?_
        refine lit_tup (K := K) (ds := [.int 7]) ?_ (by decide) J2 _ fun w3 J3 t3 k3 => ?_
        · walk_at "lits"
        refine g_cons ?_
        refine lit_tup (K := K) (ds := [nodeF "!" 0]) ?_ (by decide) J3 _ fun w4 J4 t4 k4 => ?_
        · unfold nodeF
          walk_at "lits"
        walk_at "go"
        refine newN (n := 5) rfl (by decide) fun P12 n12 => ?_
        have t5 := same_upd (o := .lst [w1, w2, w3, w4, v9]) n12
        have u4 := t4.trans t5
        have u3 := t3.trans u4
        have u2 := t2.trans u3
        have u1 := t1.trans u2
        have dA : DpAll K (upd J4 P12 (.lst [w1, w2, w3, w4, v9])) [w1, w2, w3, w4, v9] (bodyL.map PyData.tuple) :=
          .cons (dp_same u2 _ _ (Im.dp _ _ k1)) (.cons (dp_same u3 _ _ (Im.dp _ _ k2)) (.cons (dp_same u4 _ _ (Im.dp _ _ k3)) (.cons (dp_same t5 _ _ (Im.dp _ _ k4)) (.cons (dp_same (s10.trans (s11.trans u1)) _ _ (Im.dp _ _ i9)) .nil))))
        have eP : (upd J4 P12 (.lst [w1, w2, w3, w4, v9])) P12 = some (.lst [w1, w2, w3, w4, v9]) := upd_same
        have d11 := dp_same u1 _ _ d11
        have sAll := s9.trans (s10.trans (s11.trans u1))
        have S12 := S8.keep sAll
        have Ps : P12 ≠ s := fun z => by
          obtain ⟨o, ho⟩ := (S8.keep (s9.trans (s10.trans (s11.trans (t1.trans (t2.trans (t3.trans t4))))))).at_s
          rw [z, ho] at n12
          cases n12
        generalize upd J4 P12 (.lst [w1, w2, w3, w4, v9]) = H12 at dA eP d11 sAll S12 ⊢
        walk_at "go"
        refine ⟨s, l, 5, rfl, S12, by decide, Nat.lt_of_lt_of_le (by decide) n9, fun r13 H13 ra rb b13 S13 => ?_⟩
        obtain ⟨j, rfl⟩ : ∃ j : Nat, r13 = (j : Int) := ⟨r13.toNat, by omega⟩
        obtain ⟨v, hv⟩ : ∃ v, ([w1, w2, w3, w4, v9] : List V)[j]? = some v := ⟨_, List.getElem?_eq_getElem (show j < 5 by omega)⟩
        obtain ⟨bd, hbd, dv⟩ := DpAll.getV dA hv
        rw [List.getElem?_map] at hbd
        obtain ⟨b, hb, rfl⟩ := Option.map_eq_some_iff.mp hbd
        have mb := List.mem_of_getElem? hb
        obtain ⟨o1, o2, o3⟩ := body_ok b mb
        have ndc : ∀ d ∈ [clN] ++ (nodeF nm ar :: ds), NdA d := fun d hd => by
          rcases List.mem_append.mp hd with hd | hd
          · rw [List.mem_singleton.mp hd]; exact cl_nd
          · exact ndh d hd
        refine ixL (j := j) (SqL.of (b13 _ _ Ps eP)) hv ?_
        refine cat_dpA (dp_butS S12 b13 (tup_noL ndc) d11) (dp_butS S12 b13 (tup_noL o1) dv) (by rw [List.length_append, List.length_cons]; show 1 + (ds.length + 1) + b.length ≤ 1000; omega) fun v14 H14 s14 d14 => ?_
        obtain ⟨c1, c2⟩ := rule_of OK n6 l6 mb
        have e14 : [clN] ++ (nodeF nm ar :: ds) ++ b = clN :: (nodeF nm ar :: (ds ++ b)) := rfl
        rw [e14] at d14
        exact q v14 _ _ _ _ H14 c1 c2 (((bT.trans b8).trans (But.of sAll)).trans (b13.trans (But.of s14))) (S13.keep s14) d14

theorem ok__law_clauses {f : Addr} {fd : FuncData} (F : Fun K "_law_clauses" "_law_clauses" s__law_clauses f fd) (E : Bi K mg) (D__law_exists : Has P w K mg base 1 "_law_exists" ["row", "at"] (sp__law_exists K)) (D__law_head : Has P w K mg base 1 "_law_head" ["clause"] (sp__law_head K)) : FnOk P w K mg base CX0 2 f fd ["model", "name", "arity", "at"] (sp__law_clauses K) := by
  obtain ⟨f__law_exists, fd__law_exists, G__law_exists, g__law_exists, kp__law_exists, b__law_exists⟩ := D__law_exists
  obtain ⟨f__law_head, fd__law_head, G__law_head, g__law_head, kp__law_head, b__law_head⟩ := D__law_head
  refine F.ok sc__law_clauses (fun vs H Q E h => ?_) (fun cdv A outer s H vs Q E' hr h => ?_)
  · obtain ⟨B, M, nm, ar, rfl, _⟩ := h
    rfl
  · obtain ⟨B, M, nm, ar, rfl, W, O, okn, a0, a8, q⟩ := h
    refine ⟨_, (pss_cons (ps_if (pt_not (pt_chain op_le op_le pe_int (pv 3) (pe_dget (hu_of hr) (pv 0) pe_str (fun _ _ => rfl)))) (pss_one (ps_ret pe_non)) pss_nil)
      (pss_cons (ps_set (i := 4) sc__law_clauses.nd rfl (Or.inl rfl) (pe_lst pa_nil))
      (pss_cons (ps_for PassesOwn.never rfl (pi_list (pe_dget (hu_of hr) (pv 0) pe_str (fun _ _ => rfl))) (pg_name (i := 5) sc__law_clauses.nd rfl (Or.inl rfl)) (pss_cons (ps_set (i := 6) sc__law_clauses.nd rfl (Or.inl rfl) (pe_ix ix_list (pe_dget (hu_of hr) (pv 0) pe_str (fun _ _ => rfl)) (pv 5) (fun _ _ => rfl)))
      (pss_one (ps_if (pw_and (pt_cmpR (op_eqD hr.units) (pe_call G__law_head (hr.mono (by decide)) (by rfl) g__law_head kp__law_head b__law_head .nil pass0 (pa_cons (pe_ix ix_list (pv 6) pe_int (fun _ _ => rfl)) pa_nil)) (pe_tup (pa_cons (pv 1) (pa_cons (pv 2) pa_nil))) (nomark _)) (pw_and1 (pt_val (pe_call G__law_exists (hr.mono (by decide)) (by rfl) g__law_exists kp__law_exists b__law_exists .nil pass0 (pa_cons (pv 6) (pa_cons (pv 3) pa_nil)))))).pt (pss_cons (ps_if (pt_cmpR op_in_seq (pv 5) (pe_dget (hu_of hr) (pv 0) pe_str (fun _ _ => rfl)) (by rfl)) (pss_one (ps_ret pe_non)) pss_nil)
      (pss_one (ps_expr (pe_bm PySem.F.plainAttrs_list PySem.F.slot_list_append PySem.F.type_list_append mt_append (pv 4) (pa_cons (pe_tup (pa_cons (pv 5) (pa_cons (pe_ix ix_list (pv 6) pe_int (fun _ _ => rfl)) pa_nil))) pa_nil))))) pss_nil))))
      (pss_one (ps_ret (pv 4)))))), ?_⟩
    refine st_of (σ := [some _, some _, some _, some _, none, none, none]) rfl ?_
    walk_at "go"
    refine g_chain ?_
    walk_at "go"
    rw [decide_eq_true (show (0 : Int) ≤ (M.g : Nat) by omega)]
    refine iteT ?_
    walk_at "go"
    refine ⟨_, _, rfl, by have := DGet.k (k := Sum.inr "generation") W.em; rw [val_g] at this; exact this, ?_⟩
    walk_at "go"
    rw [decide_eq_true (Int.le_refl ((M.g : Nat) : Int))]
    walk_at "go"
    refine newN (n := 0) rfl (by decide) fun FD nFD => ?_
    have s1 := same_upd (o := .lst []) nFD
    have e1 : (upd H FD (.lst [])) FD = some (.lst []) := upd_same
    have W1 := W.keep s1
    obtain ⟨fL, fI⟩ := W.out nFD
    generalize upd H FD (.lst []) = H1 at s1 e1 W1 ⊢
    walk_at "go"
    refine ⟨_, _, rfl, by have := DGet.k (k := Sum.inr "order") W1.em; rw [val_o] at this; exact this, ?_⟩
    walk_at "go"
    have WF : ∀ {H' : Hp} {o : HO}, Mo K H' B M → (∃ zs, H' FD = some (.lst zs)) → Mo K (upd H' FD o) B M := fun {H' o} W' ⟨zs, e⟩ => W'.frame (L := [FD]) (fun x hx xs => by
      rw [List.mem_singleton.mp hx, e]
      exact ⟨(fun z => by cases z), (fun u z => by cases z)⟩) (ButM.refl.put (List.mem_singleton.mpr rfl)) fun x hx z => by
      rw [List.mem_singleton.mp z] at hx
      rcases List.mem_append.mp hx with h | h
      · exact fL h
      · exact fI h
    have li : (intN M.ord).length = M.ord.length := by unfold intN; rw [List.length_map]
    refine ⟨M.oa, rfl, ⟨_, SqL.of W1.eO⟩, for_list (K := K) (a := M.oa) (xs := intN M.ord) (fun j σ H' => ∃ (v5 v6 : Option V) (ws : List V), σ = [some (.ref B.m), some (.str nm), some (.int ar), some (.int (M.g : Nat)), some (.ref FD), v5, v6] ∧ Same H H' ∧ Mo K H' B M ∧ H' FD = some (.lst ws) ∧ DpAll K H' ws (((M.ord.take j).filter (M.sel nm ar)).map M.pairOf))
      ⟨none, none, [], rfl, s1, W1, e1, .nil⟩ (fun j σ H' _ ⟨_, _, _, _, _, W', _⟩ => SqL.of W'.eO) ?_ ?_⟩
    · rintro j z σ H2 hz ⟨v5, v6, ws, rfl, s2, W2, e2, d2⟩
      unfold intN at hz
      rw [List.getElem?_map] at hz
      obtain ⟨m, hm, rfl⟩ := Option.map_eq_some_iff.mp hz
      have hml := O.ord m (List.mem_of_getElem? hm)
      obtain ⟨x, hx⟩ : ∃ x, M.rows[m]? = some x := ⟨_, List.getElem?_eq_getElem hml⟩
      have mx := List.mem_of_getElem? hx
      walk_at "go"
      refine ⟨_, _, rfl, by have := DGet.k (k := Sum.inr "rows") W2.em; rw [val_r] at this; exact this, ?_⟩
      walk_at "go"
      refine ixL (j := m) (SqL.of W2.eR) (by rw [List.getElem?_map, hx]; rfl) ?_
      walk_at "go"
      refine ixL (j := 0) (SqL.of (W2.rw x mx)) rfl ?_
      walk_at "go"
      have hdx := O.hd x mx
      refine ⟨x.v, x.ds, x.nm, x.ar, rfl, (W2.dv x mx).1, hdx, fun p H3 s3 np e3 => ?_⟩
      walk_at "go"
      refine newN (n := 2) rfl (by decide) fun p4 np4 => ?_
      have s4 := same_upd (o := .tup [V.str nm, V.int ar]) np4
      have e4 : (upd H3 p4 (.tup [V.str nm, V.int ar])) p4 = some (.tup [V.str nm, V.int ar]) := upd_same
      have e34 := s4 _ _ e3
      have s24 := s3.trans s4
      have W4 := W2.keep s24
      have e24 := s24 _ _ e2
      have d4 := dp_sameAll s24 _ _ d2
      have s04 := s2.trans s24
      generalize upd H3 p4 (.tup [V.str nm, V.int ar]) = H4 at e4 e34 W4 e24 d4 s04 ⊢
      refine ⟨.tuple [.str x.nm, .int x.ar], .tuple [.str nm, .int ar], .tup (SqT.of e34) (.cons (.str _) (.cons (.int _) .nil)), .tup (SqT.of e4) (.cons (.str _) (.cons (.int _) .nil)), sh_na (hd_name hdx), sh_na okn, ?_⟩
      rw [hdi_eqv]
      have et : ((M.ord.take (j + 1)).filter (M.sel nm ar)).map M.pairOf = ((M.ord.take j).filter (M.sel nm ar)).map M.pairOf ++ (if M.sel nm ar m = true then [M.pairOf m] else []) := by
        rw [List.take_add_one, hm, List.filter_append, List.map_append]
        congr 1
        show List.map M.pairOf (List.filter (M.sel nm ar) [m]) = _
        rw [List.filter_cons]
        split <;> rfl
      have es : M.sel nm ar m = (decide (x.nm = nm ∧ x.ar = ar) && x.live M.g) := by unfold MO.sel; rw [hx]
      have lws := DpAll.len d4
      rw [List.length_map] at lws
      have lt : ws.length < sizeLine := by
        rw [lws]
        refine lt_size (Nat.le_trans (List.length_filter_le _ _) ?_)
        rw [List.length_take]
        have := O.so
        omega
      refine ⟨_, rfl, ?_⟩
      cases h1 : decide (x.nm = nm ∧ x.ar = ar) with
      | false =>
        rw [h1, Bool.false_and] at es
        refine iteF ?_
        walk_at "go"
        exact ⟨_, _, ws, rfl, s04, W4, e24, by rw [et, es, if_neg Bool.false_ne_true, List.append_nil]; exact d4⟩
      | true =>
        rw [h1, Bool.true_and] at es
        refine iteT ?_
        walk_at "go"
        refine ⟨x.ad, x.v, x.b, M.g, x.dth, rfl, W4.rw x mx, ?_⟩
        rw [show lvB x.b M.g x.dth = M.sel nm ar m from es.symm]
        cases h2 : M.sel nm ar m with
        | false =>
          refine ⟨_, rfl, iteF ?_⟩
          walk_at "go"
          exact ⟨_, _, ws, rfl, s04, W4, e24, by rw [et, h2, if_neg Bool.false_ne_true, List.append_nil]; exact d4⟩
        | true =>
          refine ⟨_, rfl, iteT ?_⟩
          walk_at "go"
          refine ⟨_, _, rfl, by have := DGet.k (k := Sum.inr "gone") W4.em; rw [val_n] at this; exact this, ?_⟩
          walk_at "go"
          refine ⟨B.G, [], rfl, .inl (SqL.of W4.eG), rfl, rfl, ?_⟩
          refine ⟨false, rfl, ?_⟩
          refine iteF ?_
          walk_at "go"
          refine tyl (SqL.of e24) ?_
          walk_at "go"
          refine ixL (j := 0) (SqL.of (W4.rw x mx)) rfl ?_
          walk_at "go"
          refine newN (n := 2) rfl (by decide) fun T nT => ?_
          have sT := same_upd (o := .tup [V.int (m : Nat), x.v]) nT
          have dsm : M.dsOf m = x.ds := by unfold MO.dsOf; rw [hx]; rfl
          have dT : Dp K (upd H4 T (.tup [V.int (m : Nat), x.v])) (.ref T) (M.pairOf m) := by
            unfold MO.pairOf
            rw [dsm]
            exact .tup (SqT.of upd_same) (.cons (.int _) (.cons (dp_same sT _ _ (W4.dv x mx).1) .nil))
          have e5 := sT _ _ e24
          have d5 := dp_sameAll sT _ _ d4
          have W5 := W4.keep sT
          have s05 := s04.trans sT
          generalize upd H4 T (.tup [V.int (m : Nat), x.v]) = H5 at dT e5 d5 W5 s05 ⊢
          walk_at "go"
          refine ⟨FD, ws, _, rfl, rfl, e5, lt, ?_⟩
          walk_at "go"
          have nt : My.noTups H5 [FD] := fun y hy xs => by
            rw [List.mem_singleton.mp hy, e5]
            exact ⟨(fun z => by cases z), (fun u z => by cases z)⟩
          have bF : ButM [FD] H5 (upd H5 FD (.lst (ws ++ [V.ref T]))) := ButM.refl.put (List.mem_singleton.mpr rfl)
          refine ⟨_, _, ws ++ [V.ref T], rfl, same_new nFD s05, WF W5 ⟨_, e5⟩, upd_same, ?_⟩
          rw [et, h2, if_pos rfl]
          have pn := fun n => MO.pair_noL W5 n
          exact dpAll_end (dp_mapAll (fun c xs q => by
            rcases q with (q | ⟨u, q⟩) | q
            · exact .inl (.inl (bF _ _ (fun z => (nt c z xs).1 q) q))
            · exact .inl (.inr ⟨u, bF _ _ (fun z => (nt c z xs).2 u q) q⟩)
            · exact .inr q) _ _ (noLA_of fun d hd => by
              obtain ⟨n, _, rfl⟩ := List.mem_map.mp hd
              exact pn n) d5) (dp_butM nt bF (pn m) dT)
    · rintro σ H2 ⟨v5, v6, ws, rfl, s2, W2, e2, d2⟩
      rw [li, List.take_length] at d2
      walk_at "go"
      exact q FD ws _ s2 nFD e2 d2

theorem ok_end_of {f : Addr} {fd : FuncData} (F : Fun K "end_of" "end_of" s_end_of f fd) (E : Bi K mg) (D_arity_of : Has P w K mg base 2 "arity_of" ["node"] (sp_arity_of K)) : FnOk P w K mg base CX0 3 f fd ["nodes", "start"] (sp_end_of K) := by
  obtain ⟨f_arity_of, fd_arity_of, G_arity_of, g_arity_of, kp_arity_of, b_arity_of⟩ := D_arity_of
  refine F.ok sc_end_of (fun vs H Q E h => ?_) (fun cdv A outer s H vs Q E' hr h => ?_)
  · obtain ⟨x, ds, i, k, rfl, _⟩ := h
    rfl
  · obtain ⟨x, ds, i, k, rfl, hd, hn, hc, q⟩ := h
    refine ⟨_, (pss_cons (ps_set (i := 2) sc_end_of.nd rfl (Or.inl rfl) pe_int)
      (pss_cons (ps_set (i := 3) sc_end_of.nd rfl (Or.inl rfl) (pv 1))
      (pss_cons (ps_while PassesOwn.never (pt_cmpR op_gt (pv 2) pe_int (nomark _)) (pss_cons (ps_aug (i := 2) sc_end_of.nd rfl (Or.inl rfl) (pe_op op_sub (pe_call G_arity_of (hr.mono (by decide)) (by rfl) g_arity_of kp_arity_of b_arity_of .nil pass0 (pa_cons (pe_ix ix_tup (pv 0) (pv 3) (fun _ _ => rfl)) pa_nil)) pe_int) ip_add)
      (pss_one (ps_aug (i := 3) sc_end_of.nd rfl (Or.inl rfl) pe_int ip_add))))
      (pss_one (ps_ret (pv 3)))))), ?_⟩
    cases hd with
    | @tup a xs _ hs ha =>
    refine seq_asg (gname (seq_asg ?_))
    refine ⟨_, rfl, ?_⟩
    refine gname (seq_any ?_)
    refine ⟨fun n σ H' => ∃ (m j kk : Nat), σ = [some (.ref a), some (.int (i : Int)), some (.int (m : Int)), some (.int (j : Int))] ∧ H' = H ∧ Cls kk (ds.drop j) ∧ m ≤ kk ∧ j + tk m (ds.drop j) = i + tk 1 (ds.drop i) ∧ n = ds.length - j,
      ⟨_, 1, i, k + 1, rfl, rfl, hc, by omega, rfl, rfl⟩, ?_⟩
    rintro n σ H1 ⟨m, j, kk, rfl, rfl, h1, h2, h3, rfl⟩
    refine ⟨_, rfl, _, _, rfl, rfl, _, rfl, ite2 (fun e => ?_) (fun e => ?_)⟩
    · have hm : 0 < m := by
        have := of_decide_eq_true e
        omega
      cases hl : ds.drop j with
      | nil =>
        rw [hl] at h1
        have : kk = 0 := h1
        omega
      | cons d r =>
        rw [hl] at h1 h3
        have hj : j < ds.length := by
          rcases Nat.lt_or_ge j ds.length with h | h
          · exact h
          · rw [List.drop_of_length_le h] at hl; cases hl
        have hdj : ds[j]? = some d := by
          rw [← List.head?_drop, hl]
          rfl
        have hr : ds.drop (j + 1) = r := by
          rw [← List.drop_drop, hl]
          rfl
        obtain ⟨v, hv, hdv⟩ := DpAll.get ha hdj
        refine ⟨fun σ' H' => ∃ (m' kk' : Nat), σ' = [some (.ref a), some (.int (i : Int)), some (.int (m' : Int)), some (.int ((j + 1 : Nat) : Int))] ∧ H' = H1 ∧ Cls kk' (ds.drop (j + 1)) ∧ m' ≤ kk' ∧ j + 1 + tk m' (ds.drop (j + 1)) = i + tk 1 (ds.drop i),
          fun σ' H' ⟨m', kk', g1, g2, g3, g4, g5⟩ => ⟨ds.length - (j + 1), by omega, m', j + 1, kk', g1, g2, g3, g4, g5, rfl⟩, ?_⟩
        refine ⟨_, rfl, _, rfl, _, rfl, _, _, _, _, rfl, rfl, hs, atI_nat (j := j) hv, v, d, rfl, hdv, hn d (List.mem_of_getElem? hdj), _, _, rfl, rfl, _, _, rfl, rfl, ?_⟩
        refine ⟨_, rfl, _, _, rfl, rfl, ?_⟩
        refine ⟨m - 1 + arN d, kk - 1 + arN d, ?_, rfl, by rw [hr]; exact h1.2, by omega, ?_⟩
        · rw [show ((m - 1 + arN d : Nat) : Int) = (m : Int) + ((arN d : Int) - 1) by omega]
          rfl
        · rw [tk_cons hm] at h3
          rw [hr]
          omega
    · have hm : m = 0 := by
        cases m with
        | zero => rfl
        | succ m => exact absurd (decide_eq_true (by omega)) e
      subst hm
      refine nxp ?_
      refine ⟨_, rfl, ?_⟩
      rw [tk_zero] at h3
      rw [← h3] at q
      exact q

theorem ok__law_numbered {f : Addr} {fd : FuncData} (F : Fun K "_law_numbered" "_law_numbered" s__law_numbered f fd) (E : Bi K mg) (D__law_is_variable : Has P w K mg base 1 "_law_is_variable" ["node"] (sp__law_is_variable K)) (D__law_put : Has P w K mg base 2 "_law_put" ["table", "term"] (sp__law_put K)) : FnOk P w K mg base CX0 3 f fd ["terms", "first"] (sp__law_numbered K) := by
  obtain ⟨f__law_is_variable, fd__law_is_variable, G__law_is_variable, g__law_is_variable, kp__law_is_variable, b__law_is_variable⟩ := D__law_is_variable
  obtain ⟨f__law_put, fd__law_put, G__law_put, g__law_put, kp__law_put, b__law_put⟩ := D__law_put
  refine F.ok sc__law_numbered (fun vs H Q E h => ?_) (fun cdv A outer s H vs Q E' hr h => ?_)
  · obtain ⟨a, ts, f, rfl, _⟩ := h
    rfl
  · obtain ⟨a, ts, f, rfl, ⟨xs, hs, ha⟩, nd, hf, sz, hl, q⟩ := h
    refine ⟨_, (pss_cons (ps_set (i := 2) sc__law_numbered.nd rfl (Or.inl rfl) pe_dnewK)
      (pss_cons (ps_set (i := 3) sc__law_numbered.nd rfl (Or.inl rfl) (pe_lst pa_nil))
      (pss_cons (ps_for PassesOwn.never rfl (pi_list (pv 0)) (pg_name (i := 4) sc__law_numbered.nd rfl (Or.inl rfl)) (pss_cons (ps_for PassesOwn.never rfl (pi_tup (pv 4)) (pg_name (i := 5) sc__law_numbered.nd rfl (Or.inl rfl)) (pss_one (ps_if (pw_and (pt_val (pe_call G__law_is_variable (hr.mono (by decide)) (by rfl) g__law_is_variable kp__law_is_variable b__law_is_variable .nil pass0 (pa_cons (pv 5) pa_nil))) (pw_and1 (pt_cmp (pc_dnotin (hu_of hr) (pe_ix ix_tup (pv 5) pe_int (fun _ _ => rfl)) (pv 2))))).pt (pss_one (ps_dput (hu_of hr) (pv 2) (pe_ix ix_tup (pv 5) pe_int (fun _ _ => rfl)) (pe_tup (pa_cons (pe_tup (pa_cons pe_str (pa_cons (pe_op op_add (pv 1) (pe_callB call_lenD (by rfl) E.b_len PySem.boot_len (pa_cons (pv 2) pa_nil))) pa_nil))) pa_nil)) (by rfl))) pss_nil)))
      (pss_one (ps_expr (pe_bm PySem.F.plainAttrs_list PySem.F.slot_list_append PySem.F.type_list_append mt_append (pv 3) (pa_cons (pe_call G__law_put (hr.mono (by decide)) (by rfl) g__law_put kp__law_put b__law_put .nil pass0 (pa_cons (pv 2) (pa_cons (pv 4) pa_nil))) pa_nil))))))
      (pss_one (ps_ret (pv 3)))))), ?_⟩
    refine st_of (σ := [some _, some _, none, none, none, none]) rfl ?_
    walk_at "go"
    have lx := DpAll.len ha
    rw [List.length_map] at lx
    intro D nD
    have sD := same_upd (o := .dK []) nD
    walk_at "go"
    refine newN (n := 0) rfl (by decide) fun R nR => ?_
    have DR : D ≠ R := fun z => by rw [← z, upd_same] at nR; cases nR
    have nRH : H R = Option.none := none_back sD nR
    have sR := same_upd (o := .lst []) nR
    walk_at "go"
    have fD : FndA K (upd (upd H D (.dK [])) R (.lst [])) D (tbl f (nums [])) := ⟨[], sR _ _ upd_same, True.intro⟩
    have eR : (upd (upd H D (.dK [])) R (.lst [])) R = some (.lst []) := upd_same
    have s0 := sD.trans sR
    generalize (upd (upd H D (.dK [])) R (.lst [])) = H0 at fD eR s0 ⊢
    refine ⟨a, rfl, ⟨_, same_sqL s0 hs⟩, for_list (K := K) (a := a) (xs := xs) (fun i σ H' => ∃ (v4 v5 : Option V) (ys : List V), σ = [some (.ref a), some (.int f), some (.ref D), some (.ref R), v4, v5] ∧ Same H H' ∧ FndA K H' D (tbl f (nums (ts.take i).flatten)) ∧ H' R = some (.lst ys) ∧ DpAll K H' ys (((renT f ts).take i).map PyData.tuple))
      ⟨none, none, [], rfl, s0, fD, eR, .nil⟩ (fun i σ H' _ ⟨_, _, _, _, e, _⟩ => same_sqL e hs) ?_ ?_⟩
    · rintro i z σ H2 hz ⟨v4, v5, ys, rfl, s2, f2, e2, d2⟩
      obtain ⟨dd, hd, dz0⟩ := DpAll.getV ha hz
      rw [List.getElem?_map] at hd
      obtain ⟨t, ht, rfl⟩ := Option.map_eq_some_iff.mp hd
      obtain ⟨pz, ws, rfl, sz2, az⟩ := dp_tup dz0
      have lw := DpAll.len az
      have lys := DpAll.len d2
      rw [List.length_map, List.length_take, renT_len] at lys
      have l1 := szT_le ts (i + 1)
      unfold szT at l1
      walk_at "gs"
      refine ⟨pz, rfl, ⟨_, same_sqT s2 sz2⟩, for_tup (K := K) (a := pz) (xs := ws) (fun j σ H' => ∃ (v5 : Option V), σ = [some (.ref a), some (.int f), some (.ref D), some (.ref R), some (.ref pz), v5] ∧ Same H H' ∧ FndA K H' D (tbl f (nums ((ts.take i).flatten ++ t.take j))) ∧ H' R = some (.lst ys) ∧ DpAll K H' ys (((renT f ts).take i).map PyData.tuple))
        ⟨v5, rfl, s2, by rw [List.take_zero, List.append_nil]; exact f2, e2, d2⟩ (fun i σ H' _ ⟨_, _, e, _⟩ => same_sqT e sz2) ?_ ?_⟩
      · rintro j z σ H3 hz2 ⟨v5, rfl, s3, f3, e3, d3⟩
        obtain ⟨d, hd2, dz2⟩ := DpAll.getV az hz2
        have dz3 := dp_same s3 _ _ dz2
        have ndd := nd t (List.mem_of_getElem? ht) d (List.mem_of_getElem? hd2)
        have stp := nums_one ((ts.take i).flatten ++ t.take j) d
        have tk1 : (ts.take i).flatten ++ t.take (j + 1) = ((ts.take i).flatten ++ t.take j) ++ [d] := by rw [List.take_add_one, hd2, List.append_assoc]; rfl
        rw [← tk1] at stp
        have lac := nums_len ((ts.take i).flatten ++ t.take j)
        have lll : ((ts.take i).flatten ++ t.take j).length ≤ 100000 := by
          rw [flat_take ht, List.length_append] at l1
          rw [List.length_append, List.length_take]
          have : ts.flatten.length ≤ 100000 := sz
          omega
        generalize hacc : nums ((ts.take i).flatten ++ t.take j) = acc at f3 stp lac
        have nac : acc.Nodup := by rw [← hacc]; exact nums_nodup _
        walk_at "gs"
        refine ifc (isVarN d && decide (numN d ∉ acc)) (fun QT hQ => ?_) (fun hA => ?_) (fun hB => ?_)
        · walk_at "go"
          refine ⟨z, d, rfl, dz3, ndd, ?_⟩
          walk_at "go"
          by_cases va : isVarN d = true
          · rw [va] at hQ ⊢
            obtain ⟨n, n0, rfl⟩ := var_num ndd va
            obtain ⟨b, ws2, rfl, sq, aq⟩ := dp_tup dz3
            obtain ⟨w1, hw1, dw1⟩ := DpAll.get (i := 1) aq rfl
            cases dw1
            obtain ⟨kvs, h3, t3⟩ := f3.at_
            walk_at "go"
            refine ixT (j := 1) sq hw1 ?_
            walk_at "go"
            refine ⟨D, _, rfl, DGet.k (k := Sum.inl n) h3, _, rfl, ?_⟩
            rcases TabK.val n t3 with ⟨w1, w2⟩ | ⟨v', w, w1, w2, _⟩
            · have hn : n ∉ acc := fun hm => by rw [tbl_in nac hm] at w2; cases w2
              rw [show decide (numN (.tuple [.str "v", .int n]) ∉ acc) = true from decide_eq_true hn] at hQ
              rw [w1]
              exact hQ
            · have hn : n ∈ acc := Classical.byContradiction fun hm => by rw [tbl_out hm] at w2; cases w2
              rw [show decide (numN (.tuple [.str "v", .int n]) ∉ acc) = false from decide_eq_false fun z => z hn] at hQ
              rw [w1]
              exact hQ
          · rw [Bool.eq_false_iff.mpr va] at hQ ⊢
            exact hQ
        · obtain ⟨va, hn⟩ := Bool.and_eq_true_iff.mp hA
          have hn := of_decide_eq_true hn
          obtain ⟨kvs, h3, t3⟩ := f3.at_
          have lkv := TabK.len t3
          rw [tbl_len] at lkv
          obtain ⟨n, n0, rfl⟩ := var_num ndd va
          obtain ⟨b, ws2, rfl, sq, aq⟩ := dp_tup dz3
          obtain ⟨w1, hw1, dw1⟩ := DpAll.get (i := 1) aq rfl
          cases dw1
          walk_at "go"
          refine ⟨D, kvs, rfl, h3, ?_⟩
          walk_at "go"
          refine newN (n := 2) rfl (by decide) fun p1 np1 => ?_
          walk_at "go"
          refine newN (n := 1) rfl (by decide) fun p2 np2 => ?_
          walk_at "go"
          have sp1 := same_upd (o := .tup [V.str (Str.ofString "v"), V.int (f + (kvs.length : Nat))]) np1
          have sp2 := same_upd (o := .tup [V.ref p1]) np2
          have sp := sp1.trans sp2
          have pp : p1 ≠ p2 := fun z => by rw [← z, upd_same] at np2; cases np2
          have dv : Dp K (upd (upd H3 p1 (.tup [V.str (Str.ofString "v"), V.int (f + (kvs.length : Nat))])) p2 (.tup [V.ref p1])) (.ref p2) (.tuple [vN (f + (acc.length : Nat))]) := by
            refine .tup (SqT.of upd_same) (.cons (.tup (SqT.of (by rw [upd_ne pp]; exact upd_same)) (.cons (.str _) (.cons ?_ .nil))) .nil)
            rw [lkv]
            exact .int _
          have h5 := sp _ _ h3
          have e5 := sp _ _ e3
          refine ixT (j := 1) (same_sqT sp sq) hw1 ?_
          refine ⟨D, _, rfl, DPut.k (k := Sum.inl n) h5 (Nat.lt_of_le_of_lt (show _ ≤ 1000000 by omega) (by decide)), ?_⟩
          have tT := tbl_tm hf acc
          have t5 := tab_same sp tT.nd t3
          have d5 := dp_sameAll sp _ _ d3
          have s5 := s3.trans sp
          generalize (upd (upd H3 p1 (.tup [V.str (Str.ofString "v"), V.int (f + (kvs.length : Nat))])) p2 (.tup [V.ref p1])) = H5 at dv h5 e5 t5 d5 s5 ⊢
          have nt5 : notTup H5 D := .inr (.inl ⟨_, h5⟩)
          refine ⟨_, rfl, same_new nD s5, ⟨_, upd_same, ?_⟩, by rw [upd_ne DR.symm]; exact e5, dp_putAll nt5 _ _ (by unfold renT; rw [← List.map_take]; exact renT_noL fun x hx => nd x (List.mem_of_mem_take hx)) d5⟩
          rw [stp, numS_new (d := .tuple [.str "v", .int n]) rfl hn, tbl_snoc f hn]
          exact TabK.add (tab_put nt5 tT.nd t5) (by rw [tbl_keys]; exact hn) (dp_put nt5 _ _ (by simp [noL, noLA, vN]) dv)
        · refine ⟨_, rfl, s3, ?_, e3, d3⟩
          rw [stp]
          have : numS acc d = acc := by
            by_cases va : isVarN d = true
            · refine numS_old (Classical.byContradiction fun hn => ?_)
              rw [va, decide_eq_true hn] at hB
              cases hB
            · exact numS_non va
          rw [this]
          exact f3
      · rintro σ H3 ⟨v5, rfl, s3, f3, e3, d3⟩
        rw [lw, List.take_length, ← flat_take ht] at f3
        have tT := tbl_tm hf (nums (ts.take (i + 1)).flatten)
        have row := tbl_row (f := f) nd ht
        have lt : t.length ≤ 100000 := by
          rw [flat_take ht, List.length_append] at l1
          have : ts.flatten.length ≤ 100000 := sz
          omega
        walk_at "gs"
        refine tyl (SqL.of e3) ?_
        walk_at "gs"
        refine ⟨D, _, .ref pz, t, rfl, f3, tT.nd, dp_same s3 _ _ dz0, nd t (List.mem_of_getElem? ht), by rw [row, List.length_map]; omega, fun v H4 s4 d4 => ?_⟩
        rw [row] at d4
        have e4 := s4 _ _ e3
        have nt : notTup H4 R := .inl ⟨_, e4⟩
        walk_at "gs"
        refine ⟨_, _, _, rfl, rfl, e4, Nat.lt_of_le_of_lt (show _ ≤ 1000000 by omega) (by decide), ?_⟩
        walk_at "gs"
        refine ⟨_, _, ys ++ [v], rfl, same_new nRH (s3.trans s4), ?_, upd_same, ?_⟩
        · refine (f3.same' tT.nd s4).kp tT.nd (a := R) (b := R) (fun b o hb _ e => by rw [upd_ne hb]; exact e) ⟨_, e4, (fun _ w => by cases w), (fun _ _ w => by cases w)⟩ ⟨_, e4, (fun _ w => by cases w), (fun _ _ w => by cases w)⟩ DR DR
        · rw [List.take_add_one, renT_at (f := f) ht, List.map_append]
          exact dpAll_end (dp_putAll nt _ _ (by unfold renT; rw [← List.map_take]; exact renT_noL fun x hx => nd x (List.mem_of_mem_take hx)) (dp_sameAll s4 _ _ d3)) (dp_put nt _ _ (renT_noL1 (nd t (List.mem_of_getElem? ht))) d4)
    · rintro σ H2 ⟨v4, v5, ys, rfl, s2, f2, e2, d2⟩
      rw [lx, ← renT_len f ts, List.take_length] at d2
      walk_at "go"
      exact q R _ ys s2 nRH e2 d2

theorem ok__law_open {f : Addr} {fd : FuncData} (F : Fun K "_law_open" "_law_open" s__law_open f fd) (E : Bi K mg) (D__law_clauses : Has P w K mg base 2 "_law_clauses" ["model", "name", "arity", "at"] (sp__law_clauses K)) : FnOk P w K mg base CX0 3 f fd ["model", "name", "arity", "erasing"] (sp__law_open K) := by
  obtain ⟨f__law_clauses, fd__law_clauses, G__law_clauses, g__law_clauses, kp__law_clauses, b__law_clauses⟩ := D__law_clauses
  refine F.ok sc__law_open (fun vs H Q E h => ?_) (fun cdv A outer s H vs Q E' hr h => ?_)
  · obtain ⟨B, M, nm, ar, rfl, _⟩ := h
    rfl
  · obtain ⟨B, M, nm, ar, rfl, W, O, okn, a0, a8, q⟩ := h
    refine ⟨_, (pss_cons (ps_setLc (i := 4) (own := [("pair", 5)]) (g := gName 5) (tt := tYes) rfl sc__law_open.nd rfl rfl (by rfl) (pi_list (pe_call G__law_clauses (hr.mono (by decide)) (by rfl) g__law_clauses kp__law_clauses b__law_clauses .nil pass0 (pa_cons (pv 0) (pa_cons (pv 1) (pa_cons (pv 2) (pa_cons (pe_dget (hu_of hr) (pv 0) pe_str (fun _ _ => rfl)) pa_nil)))))) (blkOk_by (N := N__law_open) (sc := defScope s__law_open) (by decide +kernel)) (fun _ _ _ _ _ => pg_name (i := 5) sc__law_open.nd rfl (Or.inl rfl)) (fun _ _ _ _ _ => pts_nil) (fun _ _ _ _ _ => (pe_ix (show IxR _ (rIxT K) from ix_tup) (pv 5) pe_int (fun _ _ => rfl))))
      (pss_cons (ps_expr (pe_bm PySem.F.plainAttrs_list PySem.F.slot_list_append PySem.F.type_list_append mt_append (pe_dget (hu_of hr) (pv 0) pe_str (fun _ _ => rfl)) (pa_cons (pe_lst (pa_cons (pv 4) (pa_cons (pv 3) (pa_cons pe_bl pa_nil)))) pa_nil)))
      (pss_one (ps_ret (pe_op op_sub (pe_callB call_len_seq (by rfl) E.b_len PySem.boot_len (pa_cons (pe_dget (hu_of hr) (pv 0) pe_str (fun _ _ => rfl)) pa_nil)) pe_int))))), ?_⟩
    refine st_of (σ := [some _, some _, some _, some _, none, none]) rfl ?_
    walk_at "go"
    refine ⟨_, _, rfl, by have := DGet.k (k := Sum.inr "generation") W.em; rw [val_g] at this; exact this, ?_⟩
    walk_at "go"
    refine ⟨B, M, nm, ar, rfl, W, O, okn, a0, a8, fun r zs H1 s1 nr er dr => ?_⟩
    walk_at "go"
    refine ⟨r, rfl, ⟨_, SqL.of er⟩, fun D nD => ?_⟩
    have sD := same_upd (o := .lst []) nD
    have lz := DpAll.len dr
    unfold MO.look at lz
    rw [List.length_map] at lz
    have lnum : (M.nums nm ar).length ≤ 1000 := Nat.le_trans (List.length_filter_le _ _) O.so
    refine lc_it walk_list (fun j H' => Same H1 H' ∧ H' D = some (.lst (intN ((M.nums nm ar).take j)))) ⟨sD, upd_same⟩ (fun j H' _ h => SqL.of (h.1 _ _ er)) ?_ ?_
    · rintro j z H5 H6 hj ⟨s5, e5⟩ ⟨rfl, hz⟩
      obtain ⟨d, hd, dz⟩ := DpAll.getV dr hz
      unfold MO.look at hd
      rw [List.getElem?_map] at hd
      obtain ⟨m, hm, rfl⟩ := Option.map_eq_some_iff.mp hd
      obtain ⟨tz, zs2, rfl, htz, atz⟩ := dp_tup dz
      obtain ⟨w0, hw0, dw0⟩ := DpAll.get (i := 0) atz rfl
      cases dw0
      walk_at "wp"
      walk_at "go"
      refine ⟨rfl, ?_⟩
      dsimp only [tYes]
      rw [if_pos rfl]
      walk_at "go"
      refine ixT (j := 0) (same_sqT s5 htz) hw0 ?_
      refine ⟨_, e5, Nat.lt_of_le_of_lt (show _ ≤ 100000 by unfold intN; rw [List.length_map, List.length_take]; omega) (by decide), same_new nD s5, ?_⟩
      rw [upd_same, List.take_add_one, hm]
      unfold intN
      rw [List.map_append]
      rfl
    · rintro H5 ⟨s5, e5⟩
      rw [lz, List.take_length] at e5
      have W5 := W.keep (s1.trans s5)
      have nD0 := s1.free nD
      walk_at "wp"
      walk_at "go"
      refine ⟨_, _, rfl, by have := DGet.k (k := Sum.inr "calls") W5.em; rw [val_c] at this; exact this, ?_⟩
      walk_at "go"
      refine tyl (SqL.of W5.eC) ?_
      walk_at "go"
      refine newN (n := 3) rfl (by decide) fun T nT => ?_
      have sT := same_upd (o := .lst [V.ref D, V.bl false, V.bl true]) nT
      have eT : (upd H5 T (.lst [V.ref D, V.bl false, V.bl true])) T = some (mcaO ⟨T, D, M.nums nm ar, true⟩) := upd_same
      have TD : D ≠ T := fun z => by rw [← z, e5] at nT; cases nT
      have s06 := (s1.trans s5).trans sT
      have nT0 := (s1.trans s5).free nT
      have eD6 := sT _ _ e5
      have W6 := W5.keep sT
      generalize upd H5 T (.lst [V.ref D, V.bl false, V.bl true]) = H6 at s06 eT eD6 W6 ⊢
      walk_at "go"
      refine ⟨B.C, _, _, rfl, rfl, W6.eC, by rw [List.length_map]; exact lt_size (Nat.le_trans O.sc (by decide)), ?_⟩
      have W7 := W.pushCa s06 ⟨T, D, M.nums nm ar, true⟩ nT0 nD0 TD eT eD6
      have ec : ((M.cas ++ [(⟨T, D, M.nums nm ar, true⟩ : MCa)]).map fun y => V.ref y.ad) = (M.cas.map fun y => V.ref y.ad) ++ [V.ref T] := by rw [List.map_append]; rfl
      have W7 : Mo K (upd H6 B.C (.lst ((M.cas.map fun y => V.ref y.ad) ++ [V.ref T]))) B { M with cas := M.cas ++ [⟨T, D, M.nums nm ar, true⟩] } := by rw [← ec]; exact W7
      have b7 : ButM (B.L M) H (upd H6 B.C (.lst ((M.cas.map fun y => V.ref y.ad) ++ [V.ref T]))) := (ButM.of s06).put mo_top.2.2.1
      generalize upd H6 B.C (.lst ((M.cas.map fun y => V.ref y.ad) ++ [V.ref T])) = H7 at W7 b7 ⊢
      walk_at "go"
      refine ⟨_, _, rfl, by have := DGet.k (k := Sum.inr "calls") W7.em; rw [val_c] at this; exact this, ?_⟩
      walk_at "go"
      refine ⟨B.C, _, rfl, .inl (SqL.of W7.eC), ?_⟩
      walk_at "go"
      have lc : (((M.cas ++ [(⟨T, D, M.nums nm ar, true⟩ : MCa)]).map fun y => V.ref y.ad).length : Int) - 1 = (M.cas.length : Nat) := by
        rw [List.length_map, List.length_append]
        show ((M.cas.length + 1 : Nat) : Int) - 1 = _
        omega
      rw [lc]
      exact q T D _ nT0 nD0 b7 W7

theorem ok_split_clause {f : Addr} {fd : FuncData} (F : Fun K "split_clause" "split_clause" s_split_clause f fd) (E : Bi K mg) (D_end_of : Has P w K mg base 3 "end_of" ["nodes", "start"] (sp_end_of K)) : FnOk P w K mg base CX0 4 f fd ["clause"] (sp_split_clause K) := by
  obtain ⟨f_end_of, fd_end_of, G_end_of, g_end_of, kp_end_of, b_end_of⟩ := D_end_of
  obtain ⟨u_CLAUSE_SYMBOL, v_CLAUSE_SYMBOL, e_CLAUSE_SYMBOL, r_CLAUSE_SYMBOL, d_CLAUSE_SYMBOL⟩ := E.c_CLAUSE_SYMBOL
  obtain ⟨u_TRUE, v_TRUE, e_TRUE, r_TRUE, d_TRUE⟩ := E.c_TRUE
  refine F.ok sc_split_clause (fun vs H Q E h => ?_) (fun cdv A outer s H vs Q E' hr h => ?_)
  · obtain ⟨x, d, r, rfl, _⟩ := h
    rfl
  · obtain ⟨x, d, r, rfl, hx, hn, hc, hl, q⟩ := h
    refine ⟨_, (pss_cons (ps_if (pt_cmpR (op_neD hr.units) (pe_ix ix_tup (pv 0) pe_int (fun _ _ => rfl)) (pe_glob (by rfl) e_CLAUSE_SYMBOL r_CLAUSE_SYMBOL) (nomark _)) (pss_one (ps_ret (pe_tup (pa_cons (pv 0) (pa_cons (pe_glob (by rfl) e_TRUE r_TRUE) pa_nil))))) pss_nil)
      (pss_cons (ps_set (i := 1) sc_split_clause.nd rfl (Or.inl rfl) (pe_call G_end_of (hr.mono (by decide)) (by rfl) g_end_of kp_end_of b_end_of .nil pass0 (pa_cons (pv 0) (pa_cons pe_int pa_nil))))
      (pss_one (ps_ret (pe_tup (pa_cons (pe_slice sl_tupA (pv 0) (po_some pe_int) (po_some (pv 1))) (pa_cons (pe_slice sl_tupA (pv 0) (po_some (pv 1)) po_none) pa_nil))))))), ?_⟩
    cases id hx with
    | @tup a xs _ hs ha =>
    have hxl := DpAll.len ha
    rw [List.length_cons] at hxl
    obtain ⟨v0, hv0, dv0⟩ := DpAll.get (i := 0) ha rfl
    refine seq_ifN ?_
    refine ⟨_, rfl, _, _, _, _, rfl, rfl, hs, atI_nat (j := 0) hv0, d, clN, dv0, dp_same (none_same _) _ _ d_CLAUSE_SYMBOL, nd_shaped (hn d List.mem_cons_self), nd_shaped cl_nd, _, rfl, ?_⟩
    cases e : PyData.eqv d clN with
    | true =>
      have es : splitM (d :: r) = (r.take (tk 1 r), r.drop (tk 1 r)) := by
        show (if PyData.eqv d clN = true then (r.take (tk 1 r), r.drop (tk 1 r)) else (d :: r, [trueN])) = _
        rw [if_pos e]
      rw [es] at q
      have hk := tk_le r 1
      refine iteF (seq_asg ?_)
      refine ⟨_, rfl, .ref a, d :: r, 1, 1, rfl, hx, hn, hc e, ?_⟩
      refine gname ?_
      refine ⟨_, rfl, _, rfl, _, rfl, _, rfl, ?_⟩
      show rSlA K (.ref a) (some ((1 : Nat) : Int)) (some ((1 + tk 1 r : Nat) : Int)) H _
      refine slA_nat hs (by omega) (by omega) fun b1 H1 s1 t1 _ => ?_
      refine ⟨_, rfl, _, rfl, _, rfl, nopart_of ?_⟩
      show rSlA K (.ref a) (some ((1 + tk 1 r : Nat) : Int)) Option.none H1 _
      refine dp_drop (dp_same s1 _ _ hx) (by rw [List.length_cons]; omega) fun v2 H2 s2 d2 => ?_
      refine ⟨(by show 2 ≤ sizeLine; decide), fun p np => ?_⟩
      have s3 := same_upd (o := .tup [.ref b1, v2]) np
      refine q _ _ ((s1.trans s2).trans s3) (.tup (SqT.of upd_same) (.cons (.tup (same_sqT (s2.trans s3) t1) ?_) (.cons ?_ .nil)))
      · have := DpAll.taket (1 + tk 1 r - 1) (DpAll.dropt 1 (dp_sameAll ((s1.trans s2).trans s3) _ _ ha))
        rw [show 1 + tk 1 r - 1 = tk 1 r by omega, List.drop_succ_cons, List.drop_zero] at this
        show DpAll K _ ((xs.drop 1).take (1 + tk 1 r - 1)) _
        rw [show 1 + tk 1 r - 1 = tk 1 r by omega]
        exact this
      · rw [show (d :: r).drop (1 + tk 1 r) = r.drop (tk 1 r) by rw [Nat.add_comm, List.drop_succ_cons]] at d2
        exact dp_same s3 _ _ d2
    | false =>
      have es : splitM (d :: r) = (d :: r, [trueN]) := by
        show (if PyData.eqv d clN = true then (r.take (tk 1 r), r.drop (tk 1 r)) else (d :: r, [trueN])) = _
        rw [if_neg (by rw [e]; exact Bool.false_ne_true)]
      rw [es] at q
      refine iteT ⟨_, rfl, (by show 2 ≤ sizeLine; decide), fun p np => ?_⟩
      have s3 := same_upd (o := .tup [.ref a, v_TRUE]) np
      exact q _ _ s3 (.tup (SqT.of upd_same) (.cons (dp_same s3 _ _ hx) (.cons (dp_same (none_same _) _ _ d_TRUE) .nil)))

theorem ok__law_add {f : Addr} {fd : FuncData} (F : Fun K "_law_add" "_law_add" s__law_add f fd) (E : Bi K mg) (D__law_numbered : Has P w K mg base 3 "_law_numbered" ["terms", "first"] (sp__law_numbered K)) : FnOk P w K mg base CX0 4 f fd ["model", "clause", "first"] (sp__law_add K) := by
  obtain ⟨f__law_numbered, fd__law_numbered, G__law_numbered, g__law_numbered, kp__law_numbered, b__law_numbered⟩ := D__law_numbered
  refine F.ok sc__law_add (fun vs H Q E h => ?_) (fun cdv A outer s H vs Q E' hr h => ?_)
  · obtain ⟨B, M, x, ds, nm, ar, rfl, _⟩ := h
    rfl
  · obtain ⟨B, M, x, ds, nm, ar, rfl, W, O, dx, nd, ld, q⟩ := h
    refine ⟨_, (pss_cons (ps_dput (hu_of hr) (pv 0) pe_str (pe_op op_add (pe_dget (hu_of hr) (pv 0) pe_str (fun _ _ => rfl)) pe_int) (by rfl))
      (pss_cons (ps_set (i := 3) sc__law_add.nd rfl (Or.inl rfl) (pe_callB call_len_seq (by rfl) E.b_len PySem.boot_len (pa_cons (pe_dget (hu_of hr) (pv 0) pe_str (fun _ _ => rfl)) pa_nil)))
      (pss_cons (ps_expr (pe_bm PySem.F.plainAttrs_list PySem.F.slot_list_append PySem.F.type_list_append mt_append (pe_dget (hu_of hr) (pv 0) pe_str (fun _ _ => rfl)) (pa_cons (pe_lst (pa_cons (pe_ix ix_list (pe_call G__law_numbered (hr.mono (by decide)) (by rfl) g__law_numbered kp__law_numbered b__law_numbered .nil pass0 (pa_cons (pe_lst (pa_cons (pv 1) pa_nil)) (pa_cons pe_int pa_nil))) pe_int (fun _ _ => rfl)) (pa_cons (pe_dget (hu_of hr) (pv 0) pe_str (fun _ _ => rfl)) (pa_cons pe_non pa_nil)))) pa_nil)))
      (pss_cons (ps_if (pt_val (pv 2)) (pss_one (ps_dput (hu_of hr) (pv 0) pe_str (pe_op op_cat (pe_lst (pa_cons (pv 3) pa_nil)) (pe_dget (hu_of hr) (pv 0) pe_str (fun _ _ => rfl))) (by rfl))) (pss_one (ps_dput (hu_of hr) (pv 0) pe_str (pe_op op_cat (pe_dget (hu_of hr) (pv 0) pe_str (fun _ _ => rfl)) (pe_lst (pa_cons (pv 3) pa_nil))) (by rfl))))
      (pss_one (ps_ret (pv 3))))))), ?_⟩
    refine st_of (σ := [some _, some _, some _, none]) rfl ?_
    walk_at "go"
    refine ⟨_, _, rfl, by have := DGet.k (k := Sum.inr "generation") W.em; rw [val_g] at this; exact this, ?_⟩
    walk_at "go"
    refine ⟨_, _, rfl, DPut.k (k := Sum.inr "generation") W.em (show 5 < sizeLine by decide), ?_⟩
    have ep : putK (moD B M) (Sum.inr "generation") (.int ((M.g : Int) + 1)) = moD B { M with g := M.g + 1 } := put_g (M.g + 1)
    rw [ep]
    have W1 := W.setG (M.g + 1)
    have b1 : ButM (B.L M) H (upd H B.m (.dK (moD B { M with g := M.g + 1 }))) := ButM.refl.put mo_top.1
    have dx1 := dp_butM W.noTups b1 (tup_noL nd) dx
    generalize upd H B.m (.dK (moD B { M with g := M.g + 1 })) = H1 at W1 b1 dx1 ⊢
    walk_at "go"
    refine ⟨_, _, rfl, by have := DGet.k (k := Sum.inr "rows") W1.em; rw [val_r] at this; exact this, ?_⟩
    walk_at "go"
    refine ⟨B.R, _, rfl, .inl (SqL.of W1.eR), ?_⟩
    rw [List.length_map]
    walk_at "go"
    refine ⟨_, _, rfl, by have := DGet.k (k := Sum.inr "rows") W1.em; rw [val_r] at this; exact this, ?_⟩
    walk_at "go"
    refine tyl (SqL.of W1.eR) ?_
    walk_at "go"
    refine newN (n := 1) rfl (by decide) fun L nL => ?_
    have s2 := same_upd (o := .lst [x]) nL
    have e2 : (upd H1 L (.lst [x])) L = some (.lst [x]) := upd_same
    have dx2 := dp_same s2 _ _ dx1
    generalize upd H1 L (.lst [x]) = H2 at s2 e2 dx2 ⊢
    walk_at "go"
    refine ⟨L, [ds], 0, rfl, ⟨[x], SqL.of e2, .cons dx2 .nil⟩, fun t ht => by rw [List.mem_singleton.mp ht]; exact nd, Int.le_refl 0, by show [ds].flatten.length ≤ 100000; rw [show [ds].flatten = ds by simp]; omega, by show 1 ≤ 1000; decide, fun N H3 zs s3 nN eN dN => ?_⟩
    rw [ren_one] at dN
    obtain ⟨v, hv, dv⟩ := DpAll.get (i := 0) dN rfl
    have W3 := W1.keep (s2.trans s3)
    walk_at "go"
    refine ixL (j := 0) (SqL.of eN) hv ?_
    walk_at "go"
    refine ⟨_, _, rfl, by have := DGet.k (k := Sum.inr "generation") W3.em; rw [val_g] at this; exact this, ?_⟩
    walk_at "go"
    refine newN (n := 3) rfl (by decide) fun a na => ?_
    have s4 := same_upd (o := .lst [v, V.int ((M.g + 1 : Nat) : Int), V.non]) na
    have e4 : (upd H3 a (.lst [v, V.int ((M.g + 1 : Nat) : Int), V.non])) a = some (rowO ⟨a, v, renM 0 ds, nm, ar, M.g + 1, none⟩) := upd_same
    have W4 := W3.keep s4
    have dv4 := dp_same s4 _ _ dv
    have b4 : ButM (B.L M) H (upd H3 a (.lst [v, V.int ((M.g + 1 : Nat) : Int), V.non])) := fun z o hz ho => (s2.trans (s3.trans s4)) _ _ (b1 z o hz ho)
    have aL := (W3.out na).1
    have a0 : H a = Option.none := freshM (H' := H3) (fun z o hz ho => (s2.trans s3) _ _ (b1 z o hz ho)) aL na
    generalize upd H3 a (.lst [v, V.int ((M.g + 1 : Nat) : Int), V.non]) = H4 at s4 e4 W4 dv4 b4 ⊢
    walk_at "go"
    refine ⟨B.R, _, _, rfl, rfl, W4.eR, by rw [List.length_map]; exact lt_size (Nat.le_trans O.sr (by decide)), ?_⟩
    have W5 := W3.pushRow s4 ⟨a, v, renM 0 ds, nm, ar, M.g + 1, none⟩ na e4 dv4 (ren_nd nd (Int.le_refl 0))
    have er : ((M.rows ++ [(⟨a, v, renM 0 ds, nm, ar, M.g + 1, none⟩ : MRow)]).map fun y => V.ref y.ad) = (M.rows.map fun y => V.ref y.ad) ++ [V.ref a] := by rw [List.map_append]; rfl
    have W5 : Mo K (upd H4 B.R (.lst ((M.rows.map fun y => V.ref y.ad) ++ [V.ref a]))) B { M with g := M.g + 1, rows := M.rows ++ [⟨a, v, renM 0 ds, nm, ar, M.g + 1, none⟩] } := by rw [← er]; exact W5
    have b5 := b4.put (o := .lst ((M.rows.map fun y => V.ref y.ad) ++ [V.ref a])) mo_top.2.1
    generalize upd H4 B.R (.lst ((M.rows.map fun y => V.ref y.ad) ++ [V.ref a])) = H5 at W5 b5 ⊢
    walk_at "go"
    refine ⟨_, _, rfl, by have := DGet.k (k := Sum.inr "order") W5.em; rw [val_o] at this; exact this, ?_⟩
    walk_at "go"
    refine newN (n := 1) rfl (by decide) fun t6 n6 => ?_
    have s6 := same_upd (o := .lst [V.int (M.rows.length : Nat)]) n6
    have e6 : (upd H5 t6 (.lst [V.int (M.rows.length : Nat)])) t6 = some (.lst [V.int (M.rows.length : Nat)]) := upd_same
    have W6 := W5.keep s6
    generalize upd H5 t6 (.lst [V.int (M.rows.length : Nat)]) = H6 at s6 e6 W6 ⊢
    have lord : (intN M.ord).length + [V.int (M.rows.length : Nat)].length ≤ sizeLine := by
      have l : (intN M.ord).length = M.ord.length := by unfold intN; rw [List.length_map]
      rw [l]
      exact Nat.le_trans (Nat.succ_le_succ O.so) (by decide)
    refine ⟨_, t6, _, _, rfl, rfl, W6.eO, e6, lord, fun o no => ?_⟩
    have s7 := same_upd (o := .lst (intN M.ord ++ [V.int (M.rows.length : Nat)])) no
    have e7 : (upd H6 o (.lst (intN M.ord ++ [V.int (M.rows.length : Nat)]))) o = some (.lst (intN (M.ord ++ [M.rows.length]))) := by rw [upd_same]; unfold intN; rw [List.map_append]; rfl
    have W7 := W6.keep s7
    have oL := (W6.out no).1
    have b7 : ButM (B.L M) H (upd H6 o (.lst (intN M.ord ++ [V.int (M.rows.length : Nat)]))) := fun z u hz hu => (s6.trans s7) _ _ (b5 z u hz hu)
    have oM : o ∉ B.L M := fun z => oL (by
      unfold MAd.L at z ⊢
      rw [List.map_append, List.append_assoc]
      rcases List.mem_append.mp z with z | z
      · exact List.mem_append_left _ z
      · rcases List.mem_append.mp z with z | z
        · exact List.mem_append_right _ (List.mem_append_left _ z)
        · exact List.mem_append_right _ (List.mem_append_right _ (List.mem_append_right _ z)))
    have o0 : H o = Option.none := freshM (H' := H6) (fun z u hz hu => s6 _ _ (b5 z u hz hu)) oM no
    generalize upd H6 o (.lst (intN M.ord ++ [V.int (M.rows.length : Nat)])) = H7 at s7 e7 W7 b7 ⊢
    walk_at "go"
    refine ⟨_, _, rfl, DPut.k (k := Sum.inr "order") W7.em (show 5 < sizeLine by decide), ?_⟩
    rw [put_o o (M.ord ++ [M.rows.length])]
    have W8 := W7.setO e7 oL
    walk_at "go"
    exact q a v o _ a0 o0 (b7.put mo_top.1) W8

theorem ok_head_and_body {f : Addr} {fd : FuncData} (F : Fun K "head_and_body" "head_and_body" s_head_and_body f fd) (E : Bi K mg) (D_split_clause : Has P w K mg base 4 "split_clause" ["clause"] (sp_split_clause K)) (D_is_symbol : Has P w K mg base 1 "is_symbol" ["node"] (sp_is_symbol K)) (D_is_built_in : Has P w K mg base 1 "is_built_in" ["name", "arity"] (sp_is_built_in K)) (D_is_control : Has P w K mg base 1 "is_control" ["name", "arity"] (sp_is_control K)) : FnOk P w K mg base (L2.CX P w) 5 f fd ["clause"] (sp_head_and_body K) := by
  obtain ⟨f_split_clause, fd_split_clause, G_split_clause, g_split_clause, kp_split_clause, b_split_clause⟩ := D_split_clause
  obtain ⟨f_is_symbol, fd_is_symbol, G_is_symbol, g_is_symbol, kp_is_symbol, b_is_symbol⟩ := D_is_symbol
  obtain ⟨f_is_built_in, fd_is_built_in, G_is_built_in, g_is_built_in, kp_is_built_in, b_is_built_in⟩ := D_is_built_in
  obtain ⟨f_is_control, fd_is_control, G_is_control, g_is_control, kp_is_control, b_is_control⟩ := D_is_control
  refine F.okX sc_head_and_body (fun vs H Q E h => ?_) (fun cdv A outer s H vs Q E' hr h => ?_)
  · obtain ⟨x, d, r, nm, ar, rfl, _⟩ := h
    rfl
  · obtain ⟨x, d, r, nm, ar, rfl, dx, ok, q⟩ := h
    refine ⟨_, (pss_cons (ps_asg (pe_call G_split_clause (hr.mono (by decide)) (by rfl) g_split_clause kp_split_clause b_split_clause .nil pass0 (pa_cons (pv 0) pa_nil)) (pg_tup rfl (pgs_cons (pg_name (i := 1) sc_head_and_body.nd rfl (Or.inl rfl)) (pgs_cons (pg_name (i := 2) sc_head_and_body.nd rfl (Or.inl rfl)) pgs_nil))))
      (pss_cons (ps_if (pt_not (pt_val (pe_call G_is_symbol (hr.mono (by decide)) (by rfl) g_is_symbol kp_is_symbol b_is_symbol .nil pass0 (pa_cons (pe_ix ix_tup (pv 1) pe_int (fun _ _ => rfl)) pa_nil)))) (pss_one (ps_raise rfl (takes_of rfl rfl rfl rfl) (pmk_own PySem.F.excBase_ValueError E.x_BadClause.xC E.x_BadClause.gC E.x_BadClause.kC (raises_own E.x_BadClause.bC E.x_BadClause.tC) rfl))) pss_nil)
      (pss_cons (ps_asg (pe_ix ix_tup (pv 1) pe_int (fun _ _ => rfl)) (pg_tup rfl (pgs_cons (pg_name (i := 3) sc_head_and_body.nd rfl (Or.inl rfl)) (pgs_cons (pg_name (i := 4) sc_head_and_body.nd rfl (Or.inl rfl)) (pgs_cons (pg_name (i := 5) sc_head_and_body.nd rfl (Or.inl rfl)) pgs_nil)))))
      (pss_cons (ps_if (pw_or (pt_val (pe_call G_is_control (hr.mono (by decide)) (by rfl) g_is_control kp_is_control b_is_control .nil pass0 (pa_cons (pv 4) (pa_cons (pv 5) pa_nil)))) (pw_or1 (pt_val (pe_call G_is_built_in (hr.mono (by decide)) (by rfl) g_is_built_in kp_is_built_in b_is_built_in .nil pass0 (pa_cons (pv 4) (pa_cons (pv 5) pa_nil)))))).pt (pss_one (ps_raise rfl (takes_of rfl rfl rfl rfl) (pmk_own1 PySem.F.excBase_ValueError E.x_BadClause.xC E.x_BadClause.gC E.x_BadClause.kC (raises_own E.x_BadClause.bC E.x_BadClause.tC) rfl (pe_joined (PJ.cons pe_str (PJ.cons (pe_fmt (pv 4)) (PJ.cons pe_str (PJ.cons (pe_fmt (pv 5)) (PJ.cons pe_str PJ.nil))))))))) pss_nil)
      (pss_cons (ps_if (pt_cmpR op_gt (pe_callB call_len_seq (by rfl) E.b_len PySem.boot_len (pa_cons (pv 0) pa_nil)) (pe_gC (by rfl) E.c_MOST_CLAUSE_NODES) (nomark _)) (pss_one (ps_raise rfl (takes_of rfl rfl rfl rfl) (pmk_own PySem.F.excBase_ValueError E.x_BadClause.xC E.x_BadClause.gC E.x_BadClause.kC (raises_own E.x_BadClause.bC E.x_BadClause.tC) rfl))) pss_nil)
      (pss_one (ps_ret (pe_tup (pa_cons (pv 1) (pa_cons (pv 2) pa_nil)))))))))), ?_⟩
    refine st_of (σ := [some _, none, none, none, none, none]) rfl ?_
    walk_at "go"
    refine ⟨x, d, r, rfl, dx, ok.nd, ok.two, by have := ok.len; rw [List.length_cons] at this; omega, fun v H1 s1 dv => ?_⟩
    obtain ⟨tl, ehd⟩ := ok.hd
    have nds := split_facts ok.nd
    have llen := ok.len
    obtain ⟨c, zs, rfl, hc, az⟩ := dp_tup dv
    obtain ⟨hv, bv, rfl, dh, db⟩ : ∃ hv bv, zs = [hv, bv] ∧ Dp K H1 hv (.tuple (splitM (d :: r)).1) ∧ Dp K H1 bv (.tuple (splitM (d :: r)).2) := by
      cases az with
      | cons a1 r1 =>
        cases r1 with
        | cons a2 r2 =>
          cases r2
          exact ⟨_, _, rfl, a1, a2⟩
    have dh0 := dh
    rw [ehd] at dh
    have nd0 : NdA (nodeF nm ar) := nds.1 _ (by rw [ehd]; exact .head _)
    obtain ⟨hp, hs, rfl, shp, ahp⟩ := dp_tup dh
    obtain ⟨w0, hw0, dw0⟩ := DpAll.get (i := 0) ahp rfl
    refine g_gtup hc rfl ?_
    walk_at "go"
    refine ixT (j := 0) shp hw0 ?_
    walk_at "go"
    refine ⟨w0, _, rfl, dw0, nd0, ?_⟩
    walk_at "go"
    refine iteF ?_
    walk_at "go"
    refine ixT (j := 0) shp hw0 ?_
    obtain ⟨c3, z3, rfl, hc3, az3⟩ := dp_tup dw0
    obtain ⟨y0, y1, y2, rfl, dy0, dy1, dy2⟩ : ∃ u v w, z3 = [u, v, w] ∧ Dp K H1 u (.str "f") ∧ Dp K H1 v (.str nm) ∧ Dp K H1 w (.int ar) := by
      cases az3 with
      | cons a1 r1 =>
        cases r1 with
        | cons a2 r2 =>
          cases r2 with
          | cons a3 r3 =>
            cases r3
            exact ⟨_, _, _, rfl, a1, a2, a3⟩
    cases dy0
    cases dy1
    cases dy2
    refine g_gtup hc3 rfl ?_
    walk_at "go"
    refine ⟨nm, ar, rfl, ok.ok, fun H2 s2 => ?_⟩
    rw [decide_eq_false ok.ctl]
    walk_at "go"
    refine ⟨nm, ar, rfl, ok.ok, fun H3 s3 => ?_⟩
    rw [decide_eq_false ok.bin]
    walk_at "go"
    obtain ⟨ax, xs, rfl, sx, axs⟩ := dp_tup dx
    have lx := DpAll.len axs
    have s13 := (s1.trans s2).trans s3
    refine ⟨ax, xs, rfl, .inr (same_sqT s13 sx), ?_⟩
    walk_at "go"
    rw [decide_eq_false (show ¬ ((200 : Int) < (xs.length : Nat)) by omega)]
    walk_at "go"
    refine newN (n := 2) rfl (by decide) fun pp npp => ?_
    have spp := same_upd (o := .tup [V.ref hp, bv]) npp
    walk_at "go"
    exact q pp _ bv _ (s13.trans spp) upd_same (dp_same (s2.trans (s3.trans spp)) _ _ dh0)

theorem ok_Database_add {f : Addr} {fd : FuncData} (F : FunD K "add" "Database.add" (defArgs s_Database_add) (defBody s_Database_add) (defScope s_Database_add) [] [("first", V.bl false)] f fd) (E : Bi K mg) (D_head_and_body : HasX P w K mg base 5 "head_and_body" ["clause"] (sp_head_and_body K)) (D_renumber : HasD P w K mg base 2 "renumber" ["term", "first"] [V.int 0] (sp_renumber K)) : FnOk P w K mg base (L2.CX P w) 6 f fd ["self", "clause", "first"] (sp_Database_add K) := by
  obtain ⟨f_head_and_body, fd_head_and_body, G_head_and_body, g_head_and_body, kp_head_and_body, b_head_and_body⟩ := D_head_and_body
  obtain ⟨f_renumber, fd_renumber, G_renumber, g_renumber, kp_renumber, ⟨ds_renumber, v_renumber, b_renumber⟩, ⟨df_renumber, vf_renumber, bf_renumber⟩⟩ := D_renumber
  refine F.ok sc_Database_add (fun vs H Q E h => ?_) (fun cdv A outer s H vs Q E' hr h => ?_)
  · obtain ⟨A, S, x, d, r, nm, ar, first, rfl, _⟩ := h
    rfl
  · obtain ⟨A, S, x, d, r, nm, ar, first, rfl, D, O, dx, ok, q⟩ := h
    refine ⟨_, (pss_cons (ps_asg (pe_callS G_head_and_body (hr.mono (by decide)) (by rfl) g_head_and_body kp_head_and_body b_head_and_body (fun σ => passAt (takes_of rfl rfl rfl rfl) σ) (pa_cons (pv 1) pa_nil)) (pg_tup rfl (pgs_cons (pg_name (i := 3) sc_Database_add.nd rfl (Or.inl rfl)) (pgs_cons (pg_name (i := 4) sc_Database_add.nd rfl (Or.inl rfl)) pgs_nil))))
      (pss_cons (ps_asg (pe_ix ix_tup (pv 3) pe_int (fun _ _ => rfl)) (pg_tup rfl (pgs_cons (pg_name (i := 4) sc_Database_add.nd rfl (Or.inl rfl)) (pgs_cons (pg_name (i := 5) sc_Database_add.nd rfl (Or.inl rfl)) (pgs_cons (pg_name (i := 6) sc_Database_add.nd rfl (Or.inl rfl)) pgs_nil)))))
      (pss_cons (ps_set (i := 7) sc_Database_add.nd rfl (Or.inl rfl) (pe_fld (pv 0) rfl))
      (pss_cons (ps_fldaug (pv 0) pe_int in_add)
      (pss_cons (ps_fldaug (pv 0) pe_int in_add)
      (pss_cons (ps_dput (hu_of hr) (pe_fld (pv 0) rfl) (pv 7) (pe_tup (pa_cons (pe_tup (pa_cons (pv 5) (pa_cons (pv 6) pa_nil))) (pa_cons (pe_call G_renumber (hr.mono (by decide)) (by rfl) g_renumber kp_renumber b_renumber v_renumber pass0 (pa_cons (pv 1) pa_nil)) pa_nil))) (by rfl))
      (pss_cons (ps_dput (hu_of hr) (pe_fld (pv 0) rfl) (pv 7) (pe_fld (pv 0) rfl) (by rfl))
      (pss_cons (ps_set (i := 8) sc_Database_add.nd rfl (Or.inl rfl) (pe_dsetT (hu_of hr) (pe_fld (pv 0) rfl) (pe_tup (pa_cons (pv 5) (pa_cons (pv 6) pa_nil))) (pe_lst pa_nil) ⟨by rfl, by rfl, by rfl, by rfl⟩))
      (pss_cons (ps_if (pt_val (pv 2)) (pss_one (ps_expr (pe_bm PySem.F.plainAttrs_list PySem.F.slot_list_insert PySem.F.type_list_insert mt_insert (pv 8) (pa_cons pe_int (pa_cons (pv 7) pa_nil))))) (pss_one (ps_expr (pe_bm PySem.F.plainAttrs_list PySem.F.slot_list_append PySem.F.type_list_append mt_append (pv 8) (pa_cons (pv 7) pa_nil)))))
      (pss_one (ps_ret (pv 7)))))))))))), ?_⟩
    refine st_of (σ := [some _, some _, some _, none, none, none, none, none, none]) rfl ?_
    obtain ⟨z1, z2, z3, z4, z5, z6⟩ := O.sz
    walk_at "go"
    refine ⟨x, d, r, nm, ar, rfl, dp_same hidL_same _ _ dx, ok, fun p hv bv H1 s1 e1 d1 => ?_⟩
    obtain ⟨tl, ehd⟩ := ok.hd
    rw [ehd] at d1
    obtain ⟨hp, hs, rfl, shp, ahp⟩ := dp_tup d1
    obtain ⟨w0, hw0, dw0⟩ := DpAll.get (i := 0) ahp rfl
    obtain ⟨c3, zz, rfl, hc3, az3⟩ := dp_tup dw0
    obtain ⟨y0, y1, y2, rfl, dy0, dy1, dy2⟩ : ∃ u v w, zz = [u, v, w] ∧ Dp K H1 u (.str "f") ∧ Dp K H1 v (.str nm) ∧ Dp K H1 w (.int ar) := by
      cases az3 with
      | cons a1 r1 =>
        cases r1 with
        | cons a2 r2 =>
          cases r2 with
          | cons a3 r3 =>
            cases r3
            exact ⟨_, _, _, rfl, a1, a2, a3⟩
    cases dy0
    cases dy1
    cases dy2
    refine g_gtup (SqT.of e1) rfl ?_
    walk_at "go"
    refine ixT (j := 0) shp hw0 ?_
    refine g_gtup hc3 rfl ?_
    walk_at "go"
    have D1 := D.keep s1
    have dx1 := dp_same (hidL_mono (L := A.L S) NewL.refl (ButM.of s1)) _ _ dx
    have b1 : ButM (A.L S) H H1 := ButM.of s1
    refine ⟨_, _, _, _, _, rfl, D1.ob, E.cl_Database, E.nA_Database__next_number, fs_Database__next_number, ?_⟩
    walk_at "go"
    refine ⟨_, _, _, _, _, rfl, D1.ob, E.cl_Database, E.nA_Database__next_number, fs_Database__next_number, ?_⟩
    walk_at "go"
    refine ⟨_, _, rfl, rfl, _, _, D1.ob, by show 9 < 1000; decide, ?_⟩
    rw [ps_Database__next_number]
    have D2 : Db K (upd H1 A.p (dbO K A S.gen ((S.nn : Int) + 1) S.nc)) A { S with nn := S.nn + 1 } := D1.fld S.gen (S.nn + 1) S.nc
    have b2 : ButM (A.L S) H (upd H1 A.p (dbO K A S.gen ((S.nn : Int) + 1) S.nc)) := b1.put D.mem.1
    have dx2 : Dp K (hidL (A.L S) (upd H1 A.p (dbO K A S.gen ((S.nn : Int) + 1) S.nc))) x (.tuple (d :: r)) := by rw [hidL_put D.mem.1]; exact dx1
    generalize upd H1 A.p (dbO K A S.gen ((S.nn : Int) + 1) S.nc) = H2 at D2 b2 dx2 ⊢
    walk_at "go"
    refine ⟨_, _, _, _, _, rfl, D2.ob, E.cl_Database, E.nA_Database_generation, fs_Database_generation, ?_⟩
    walk_at "go"
    refine ⟨_, _, rfl, rfl, _, _, D2.ob, by show 9 < 1000; decide, ?_⟩
    rw [ps_Database_generation]
    have D3 : Db K (upd H2 A.p (dbO K A ((S.gen : Int) + 1) ((S.nn + 1 : Nat) : Int) S.nc)) A { S with gen := S.gen + 1, nn := S.nn + 1 } := D2.fld (S.gen + 1) (S.nn + 1) S.nc
    have b3 : ButM (A.L S) H (upd H2 A.p (dbO K A ((S.gen : Int) + 1) ((S.nn + 1 : Nat) : Int) S.nc)) := b2.put D.mem.1
    have dx3 : Dp K (hidL (A.L S) (upd H2 A.p (dbO K A ((S.gen : Int) + 1) ((S.nn + 1 : Nat) : Int) S.nc))) x (.tuple (d :: r)) := by rw [hidL_put D.mem.1]; exact dx2
    generalize upd H2 A.p (dbO K A ((S.gen : Int) + 1) ((S.nn + 1 : Nat) : Int) S.nc) = H3 at D3 b3 dx3 ⊢
    walk_at "go"
    refine newN (n := 2) rfl (by decide) fun t4 nt4 => ?_
    have s4 := same_upd (o := .tup [V.str nm, V.int ar]) nt4
    have e4 : (upd H3 t4 (.tup [V.str nm, V.int ar])) t4 = some (.tup [V.str nm, V.int ar]) := upd_same
    have D4 := D3.keep s4
    have b4 := b3.new (o := .tup [V.str nm, V.int ar]) nt4
    have dx4 := dp_same (hidL_mono (L := A.L S) NewL.refl (ButM.of s4)) _ _ dx3
    have t4L : t4 ∉ A.L S := fun z => by
      obtain ⟨o, ho⟩ := D3.there z
      rw [nt4] at ho
      cases ho
    generalize upd H3 t4 (.tup [V.str nm, V.int ar]) = H4 at s4 e4 D4 b4 dx4 ⊢
    walk_at "go"
    refine ⟨x, d :: r, 0, rfl, dp_same hidL_same _ _ dx4, ok.nd, by have := ok.len; omega, fun v5 H5 s5 d5 => ?_⟩
    have D5 := D4.keep s5
    have e45 := s5 _ _ e4
    have b5 : ButM (A.L S) H H5 := fun z o hz ho => s5 _ _ (b4 z o hz ho)
    have d5h : Dp K (hidL (A.L S) H5) v5 (.tuple (renM 0 (d :: r))) := hidL_dpN D5.noTups (tup_noL (ren_nd ok.nd (Int.le_refl 0))) d5
    walk_at "go"
    refine newN (n := 2) rfl (by decide) fun t6 nt6 => ?_
    have s6 := same_upd (o := .tup [V.ref t4, v5]) nt6
    have e6 : (upd H5 t6 (.tup [V.ref t4, v5])) t6 = some (.tup [V.ref t4, v5]) := upd_same
    have D6 := D5.keep s6
    have b6 := b5.new (o := .tup [V.ref t4, v5]) nt6
    have h56 := hidL_mono (L := A.L S) NewL.refl (ButM.of s6)
    have t6L : t6 ∉ A.L S := fun z => by
      obtain ⟨o, ho⟩ := D5.there z
      rw [nt6] at ho
      cases ho
    have dcl : Dp K (hidL (A.L S) (upd H5 t6 (.tup [V.ref t4, v5]))) (.ref t6) (clD ⟨S.nn, .ref t6, nm, ar, renM 0 (d :: r)⟩) :=
      .tup (SqT.of (by rw [hidL_out t6L]; exact e6)) (.cons (.tup (SqT.of (by rw [hidL_out t4L]; exact s6 _ _ e45)) (.cons (.str _) (.cons (.int _) .nil))) (.cons (dp_same h56 _ _ d5h) .nil))
    generalize upd H5 t6 (.tup [V.ref t4, v5]) = H6 at s6 e6 D6 b6 dcl ⊢
    walk_at "go"
    refine ⟨_, _, _, _, _, rfl, D6.ob, E.cl_Database, E.nA_Database__clauses, fs_Database__clauses, ?_⟩
    walk_at "go"
    refine ⟨_, _, rfl, DPut.k (k := kN S.nn) D6.ec (by rw [List.length_map]; exact lt_size z1), ?_⟩
    have D7 := D6.putC ⟨S.nn, .ref t6, nm, ar, renM 0 (d :: r)⟩ dcl
    have ep7 : putK (S.cl.map clE) (kN S.nn) (.ref t6) = (S.cl ++ [(⟨S.nn, .ref t6, nm, ar, renM 0 (d :: r)⟩ : DCl)]).map clE := by
      rw [putK_new (by rw [val_cl]; unfold DB.clAt; rw [find_lt (f := DCl.n) O.cl]; rfl), List.map_append]
      rfl
    have D7 : Db K (upd H6 A.c (.dK (putK (S.cl.map clE) (kN S.nn) (.ref t6)))) A { S with gen := S.gen + 1, nn := S.nn + 1, cl := S.cl ++ [⟨S.nn, .ref t6, nm, ar, renM 0 (d :: r)⟩] } := by rw [ep7]; exact D7
    have b7 := b6.put (o := .dK (putK (S.cl.map clE) (kN S.nn) (.ref t6))) D.mem.2.1
    generalize upd H6 A.c (.dK (putK (S.cl.map clE) (kN S.nn) (.ref t6))) = H7 at D7 b7 ⊢
    walk_at "go"
    refine ⟨_, _, _, _, _, rfl, D7.ob, E.cl_Database, E.nA_Database_generation, fs_Database_generation, ?_⟩
    walk_at "go"
    refine ⟨_, _, _, _, _, rfl, D7.ob, E.cl_Database, E.nA_Database__births, fs_Database__births, ?_⟩
    walk_at "go"
    refine ⟨_, _, rfl, DPut.k (k := kN S.nn) D7.eb (by rw [List.length_map]; exact lt_size z2), ?_⟩
    have D8 := D7.putB (S.bi ++ [(S.nn, S.gen + 1)])
    rw [← put_new (find_lt (f := Prod.fst) O.bi)] at D8
    have b8 := b7.put (o := .dK (putK (S.bi.map prE) (kN S.nn) (.int ((S.gen + 1 : Nat) : Int)))) D.mem.2.2.1
    generalize upd H7 A.b (.dK (putK (S.bi.map prE) (kN S.nn) (.int ((S.gen + 1 : Nat) : Int)))) = H8 at D8 b8 ⊢
    walk_at "go"
    refine g_dsetT ?_
    walk_at "go"
    refine ⟨_, _, _, _, _, rfl, D8.ob, E.cl_Database, E.nA_Database__rows, fs_Database__rows, ?_⟩
    refine ⟨_, rfl, .inr ⟨_, .inl D8.er⟩, ?_⟩
    walk_at "go"
    refine newN (n := 2) rfl (by decide) fun t9 nt9 => ?_
    have s9 := same_upd (o := .tup [V.str nm, V.int ar]) nt9
    have e9 : (upd H8 t9 (.tup [V.str nm, V.int ar])) t9 = some (.tup ((kI nm ar).map kV)) := upd_same
    have D9 := D8.keep s9
    have b9 := b8.new (o := .tup [V.str nm, V.int ar]) nt9
    generalize upd H8 t9 (.tup [V.str nm, V.int ar]) = H9 at s9 e9 D9 b9 ⊢
    walk_at "go"
    refine newN (n := 0) rfl (by decide) fun a10 na10 => ?_
    have s10 := same_upd (o := .lst []) na10
    have e10 : (upd H9 a10 (.lst [])) a10 = some (.lst []) := upd_same
    have D10 := D9.keep s10
    have b10 := b9.new (o := .lst []) na10
    have e910 := s10 _ _ e9
    have na0 : H a10 = Option.none := by
      cases e : H a10 with
      | none => rfl
      | some o =>
        by_cases c : a10 ∈ A.L S
        · obtain ⟨o', ho⟩ := D9.there c
          rw [na10] at ho
          cases ho
        · have := b9 _ _ c e
          rw [na10] at this
          cases this
    generalize upd H9 a10 (.lst []) = H10 at s10 e10 D10 b10 e910 ⊢
    refine ⟨_, kI nm ar, t9, D10.er, rfl, e910, by rw [List.length_map]; exact lt_size z4, fun v hv => ?_, fun hn => ?_⟩
    · have ev := val_ro S nm ar
      have hv : valV (S.ro.map roE) (kI nm ar) = some v := hv
      rw [ev] at hv
      cases hr : S.roAt nm ar with
      | none => rw [hr] at hv; cases hv
      | some y =>
        rw [hr] at hv
        obtain rfl : v = .ref y.ad := (Option.some.inj hv).symm
        have my : y ∈ S.ro := List.mem_of_find?_eq_some hr
        have ly := D10.lr y my
        have ry : y.ns.length ≤ 100000 := z6 y my
        have lny : (intN y.ns).length < sizeLine := by unfold intN; rw [List.length_map]; exact lt_size ry
        walk_at "go"
        cases first with
        | true =>
          walk_at "go"
          refine tyl (SqL.of ly) ?_
          walk_at "go"
          refine ⟨y.ad, _, 0, _, rfl, rfl, ly, lny, Int.le_refl 0, by decide, ?_⟩
          walk_at "go"
          have D11 := D10.rowL my (S.nn :: y.ns)
          refine q (.ref t6) a10 _ na0 (b10.put (ro_mem my)) ?_
          unfold DB.add DB.rowPut
          rw [hr]
          exact D11
        | false =>
          walk_at "go"
          refine tyl (SqL.of ly) ?_
          walk_at "go"
          refine ⟨y.ad, _, _, rfl, rfl, ly, lny, ?_⟩
          walk_at "go"
          have D11 := D10.rowL my (y.ns ++ [S.nn])
          refine q (.ref t6) a10 _ na0 (b10.put (ro_mem my)) ?_
          unfold DB.add DB.rowPut
          rw [hr]
          have e : intN (y.ns ++ [S.nn]) = intN y.ns ++ [V.int (S.nn : Nat)] := by unfold intN; rw [List.map_append]; rfl
          rw [e] at D11
          exact D11
    · have ev := val_ro S nm ar
      have hn : valV (S.ro.map roE) (kI nm ar) = none := hn
      have hr : S.roAt nm ar = none := by
        rw [ev] at hn
        cases hr : S.roAt nm ar with
        | none => rfl
        | some y => rw [hr] at hn; cases hn
      have D11 := D9.newRow s10 na10 nm ar e10
      have ep : putK (S.ro.map roE) (kI nm ar) (.ref a10) = (S.ro ++ [(⟨nm, ar, [], a10⟩ : DRow)]).map roE := by
        rw [putK_new hn, List.map_append]
        rfl
      have b11 := b10.put (o := .dT (putK (S.ro.map roE) (kI nm ar) (.ref a10))) D.mem.2.2.2.2.1
      have nL : a10 ∉ A.L S := fun z => by
        obtain ⟨o', ho⟩ := D9.there z
        rw [na10] at ho
        cases ho
      have D11 : Db K (upd H10 A.r (.dT (putK (S.ro.map roE) (kI nm ar) (.ref a10)))) A { S with gen := S.gen + 1, nn := S.nn + 1, cl := S.cl ++ [⟨S.nn, .ref t6, nm, ar, renM 0 (d :: r)⟩], bi := S.bi ++ [(S.nn, S.gen + 1)], ro := S.ro ++ [⟨nm, ar, [], a10⟩] } := by rw [ep]; exact D11
      generalize upd H10 A.r (.dT (putK (S.ro.map roE) (kI nm ar) (.ref a10))) = H11 at D11 b11 ⊢
      have my : (⟨nm, ar, [], a10⟩ : DRow) ∈ S.ro ++ [(⟨nm, ar, [], a10⟩ : DRow)] := List.mem_append_right _ (.head _)
      have ly := D11.lr _ my
      have D12 := D11.rowL my [S.nn]
      have eL : setRow (S.ro ++ [(⟨nm, ar, [], a10⟩ : DRow)]) a10 [S.nn] = S.ro ++ [⟨nm, ar, [S.nn], a10⟩] := setRow_last _ fun y hy z => nL (by rw [← z]; exact ro_mem hy)
      have fin : ButM (A.L S) H (upd H11 a10 (.lst [V.int (S.nn : Nat)])) := fun z o hz ho => by
        have ne : z ≠ a10 := fun c => by rw [c, na0] at ho; cases ho
        rw [upd_ne ne]
        exact b11 z o hz ho
      have qq := q (.ref t6) a10 (upd H11 a10 (.lst [V.int (S.nn : Nat)])) na0 fin (by
        unfold DB.add DB.rowPut
        rw [hr]
        have D12 : Db K _ A { S with gen := S.gen + 1, nn := S.nn + 1, cl := S.cl ++ [⟨S.nn, .ref t6, nm, ar, renM 0 (d :: r)⟩], bi := S.bi ++ [(S.nn, S.gen + 1)], ro := setRow (S.ro ++ [(⟨nm, ar, [], a10⟩ : DRow)]) a10 [S.nn] } := D12
        rw [eL] at D12
        exact D12)
      walk_at "go"
      cases first with
      | true =>
        walk_at "go"
        refine tyl (SqL.of ly) ?_
        walk_at "go"
        refine ⟨a10, _, 0, _, rfl, rfl, ly, (show 0 < sizeLine by decide), Int.le_refl 0, by decide, ?_⟩
        walk_at "go"
        exact qq
      | false =>
        walk_at "go"
        refine tyl (SqL.of ly) ?_
        walk_at "go"
        refine ⟨a10, _, _, rfl, rfl, ly, (show 0 < sizeLine by decide), ?_⟩
        walk_at "go"
        exact qq

theorem ok_law {f : Addr} {fd : FuncData} (F : Fun K "law" "law" s_law f fd) (E : Bi K mg) (D__law_stream : Has P w K mg base 1 "_law_stream" ["script"] (sp__law_stream K)) (D_Database___init__ : HasI P w K mg base 1 "Database" ["self"] (sp_Database___init__ K)) (D__law_model : Has P w K mg base 1 "_law_model" [] (sp__law_model K)) (D__law_draw : Has P w K mg base 1 "_law_draw" ["stream", "many"] (sp__law_draw K)) (D__law_stored : Has P w K mg base 2 "_law_stored" ["stream"] (sp__law_stored K)) (D_Database_add : HasMKX P w K mg base 6 "Database" "add" ["self", "clause", "first"] [("first", V.bl false)] (sp_Database_add K)) (D__law_add : Has P w K mg base 4 "_law_add" ["model", "clause", "first"] (sp__law_add K)) (D_Database_erase : HasM P w K mg base 2 "Database" "erase" ["self", "number"] (sp_Database_erase K)) (D__law_erase : Has P w K mg base 1 "_law_erase" ["model", "number"] (sp__law_erase K)) (D__law_head : Has P w K mg base 1 "_law_head" ["clause"] (sp__law_head K)) (D_Database_open_call : HasMK P w K mg base 2 "Database" "open_call" ["self", "name", "arity", "erasing"] [("erasing", V.bl false)] (sp_Database_open_call K)) (D__law_open : Has P w K mg base 3 "_law_open" ["model", "name", "arity", "erasing"] (sp__law_open K)) (D_Database_clauses : HasMKX P w K mg base 1 "Database" "clauses" ["self", "name", "arity", "at"] [("at", V.non)] (sp_Database_clauses K)) (D__law_clauses : Has P w K mg base 2 "_law_clauses" ["model", "name", "arity", "at"] (sp__law_clauses K)) (D_Database_next_clause : HasMX P w K mg base 2 "Database" "next_clause" ["self", "call"] (sp_Database_next_clause K)) (D__law_next : Has P w K mg base 1 "_law_next" ["model", "call"] (sp__law_next K)) : FnOk P w K mg base CX0 8 f fd ["script"] (sp_law K) := by
  obtain ⟨f__law_stream, fd__law_stream, G__law_stream, g__law_stream, kp__law_stream, b__law_stream⟩ := D__law_stream
  obtain ⟨f_Database___init__, fd_Database___init__, G_Database___init__, M_Database___init__, g_Database___init__, b_Database___init__⟩ := D_Database___init__
  obtain ⟨f__law_model, fd__law_model, G__law_model, g__law_model, kp__law_model, b__law_model⟩ := D__law_model
  obtain ⟨f__law_draw, fd__law_draw, G__law_draw, g__law_draw, kp__law_draw, b__law_draw⟩ := D__law_draw
  obtain ⟨f__law_stored, fd__law_stored, G__law_stored, g__law_stored, kp__law_stored, b__law_stored⟩ := D__law_stored
  obtain ⟨f_Database_add, fd_Database_add, G_Database_add, M_Database_add, ds_Database_add, v_Database_add, b_Database_add⟩ := D_Database_add
  obtain ⟨f__law_add, fd__law_add, G__law_add, g__law_add, kp__law_add, b__law_add⟩ := D__law_add
  obtain ⟨f_Database_erase, fd_Database_erase, G_Database_erase, M_Database_erase, b_Database_erase⟩ := D_Database_erase
  obtain ⟨f__law_erase, fd__law_erase, G__law_erase, g__law_erase, kp__law_erase, b__law_erase⟩ := D__law_erase
  obtain ⟨f__law_head, fd__law_head, G__law_head, g__law_head, kp__law_head, b__law_head⟩ := D__law_head
  obtain ⟨f_Database_open_call, fd_Database_open_call, G_Database_open_call, M_Database_open_call, ds_Database_open_call, v_Database_open_call, b_Database_open_call⟩ := D_Database_open_call
  obtain ⟨f__law_open, fd__law_open, G__law_open, g__law_open, kp__law_open, b__law_open⟩ := D__law_open
  obtain ⟨f_Database_clauses, fd_Database_clauses, G_Database_clauses, M_Database_clauses, ds_Database_clauses, v_Database_clauses, b_Database_clauses⟩ := D_Database_clauses
  obtain ⟨f__law_clauses, fd__law_clauses, G__law_clauses, g__law_clauses, kp__law_clauses, b__law_clauses⟩ := D__law_clauses
  obtain ⟨f_Database_next_clause, fd_Database_next_clause, G_Database_next_clause, M_Database_next_clause, b_Database_next_clause⟩ := D_Database_next_clause
  obtain ⟨f__law_next, fd__law_next, G__law_next, g__law_next, kp__law_next, b__law_next⟩ := D__law_next
  refine F.ok sc_law (fun vs H Q E h => ?_) (fun cdv A outer s H vs Q E' hr h => ?_)
  · obtain ⟨a, ns, rfl, _⟩ := h
    rfl
  · obtain ⟨a, ns, rfl, hS, hl, q⟩ := h
    have n9 : (2 : Nat) ^ 8 ≤ 2 ^ 9000 := Nat.pow_le_pow_right (by decide) (by decide)
    refine ⟨_, (pss_cons (ps_set (i := 1) sc_law.nd rfl (Or.inl rfl) (pe_call G__law_stream (hr.mono (by decide)) (by rfl) g__law_stream kp__law_stream b__law_stream .nil pass0 (pa_cons (pv 0) pa_nil)))
      (pss_cons (ps_set (i := 2) sc_law.nd rfl (Or.inl rfl) (pe_make0 M_Database___init__ G_Database___init__ (hr.mono (by decide)) (by rfl) g_Database___init__ b_Database___init__ .nil pass0))
      (pss_cons (ps_set (i := 3) sc_law.nd rfl (Or.inl rfl) (pe_call0 G__law_model (hr.mono (by decide)) (by rfl) g__law_model kp__law_model b__law_model .nil pass0))
      (pss_cons (ps_for PassesOwn.never rfl (pi_range1 (by rfl) E.b_range (pa_cons (pe_op op_add pe_int (pe_call G__law_draw (hr.mono (by decide)) (by rfl) g__law_draw kp__law_draw b__law_draw .nil pass0 (pa_cons (pv 1) (pa_cons pe_int pa_nil)))) pa_nil)) (pg_name (i := 4) sc_law.nd rfl (Or.inl rfl)) (pss_cons (ps_set (i := 5) sc_law.nd rfl (Or.inl rfl) (pe_call G__law_stored (hr.mono (by decide)) (by rfl) g__law_stored kp__law_stored b__law_stored .nil pass0 (pa_cons (pv 1) pa_nil)))
      (pss_one (ps_if (pt_cmpR op_ne (pe_meth (pv 2) E.cl_Database M_Database_add G_Database_add (hr.mono (by decide)) b_Database_add v_Database_add passL (pa_cons (pv 5) pa_nil)) (pe_call G__law_add (hr.mono (by decide)) (by rfl) g__law_add kp__law_add b__law_add .nil pass0 (pa_cons (pv 3) (pa_cons (pv 5) (pa_cons pe_bl pa_nil)))) (nomark _)) (pss_one (ps_ret pe_bl)) pss_nil))))
      (pss_cons (ps_for PassesOwn.never rfl (pi_range1 (by rfl) E.b_range (pa_cons (pe_call G__law_draw (hr.mono (by decide)) (by rfl) g__law_draw kp__law_draw b__law_draw .nil pass0 (pa_cons (pv 1) (pa_cons pe_int pa_nil))) pa_nil)) (pg_name (i := 4) sc_law.nd rfl (Or.inl rfl)) (pss_cons (ps_set (i := 6) sc_law.nd rfl (Or.inl rfl) (pe_call G__law_draw (hr.mono (by decide)) (by rfl) g__law_draw kp__law_draw b__law_draw .nil pass0 (pa_cons (pv 1) (pa_cons pe_int pa_nil))))
      (pss_one (ps_if (pt_cmpR (op_neD hr.units) (pe_meth (pv 2) E.cl_Database M_Database_erase G_Database_erase (hr.mono (by decide)) b_Database_erase .nil pass0 (pa_cons (pv 6) pa_nil)) (pe_call G__law_erase (hr.mono (by decide)) (by rfl) g__law_erase kp__law_erase b__law_erase .nil pass0 (pa_cons (pv 3) (pa_cons (pv 6) pa_nil))) (nomark _)) (pss_one (ps_ret pe_bl)) pss_nil))))
      (pss_cons (ps_set (i := 7) sc_law.nd rfl (Or.inl rfl) (pe_call G__law_head (hr.mono (by decide)) (by rfl) g__law_head kp__law_head b__law_head .nil pass0 (pa_cons (pe_ix ix_list (pe_ix ix_list (pe_dget (hu_of hr) (pv 3) pe_str (fun _ _ => rfl)) (pe_call G__law_draw (hr.mono (by decide)) (by rfl) g__law_draw kp__law_draw b__law_draw .nil pass0 (pa_cons (pv 1) (pa_cons (pe_callB call_len_seq (by rfl) E.b_len PySem.boot_len (pa_cons (pe_dget (hu_of hr) (pv 3) pe_str (fun _ _ => rfl)) pa_nil)) pa_nil))) (fun _ _ => rfl)) pe_int (fun _ _ => rfl)) pa_nil)))
      (pss_cons (ps_set (i := 8) sc_law.nd rfl (Or.inl rfl) (pe_op op_add pe_int (pe_call G__law_draw (hr.mono (by decide)) (by rfl) g__law_draw kp__law_draw b__law_draw .nil pass0 (pa_cons (pv 1) (pa_cons pe_int pa_nil)))))
      (pss_cons (ps_for PassesOwn.never rfl (pi_range1 (by rfl) E.b_range (pa_cons (pv 8) pa_nil)) (pg_name (i := 9) sc_law.nd rfl (Or.inl rfl)) (pss_one (ps_if (pt_cmpR op_ne (pe_meth (pv 2) E.cl_Database M_Database_open_call G_Database_open_call (hr.mono (by decide)) b_Database_open_call v_Database_open_call pass0 (pa_cons (pe_ix ix_tup (pv 7) pe_int (fun _ _ => rfl)) (pa_cons (pe_ix ix_tup (pv 7) pe_int (fun _ _ => rfl)) pa_nil))) (pe_call G__law_open (hr.mono (by decide)) (by rfl) g__law_open kp__law_open b__law_open .nil pass0 (pa_cons (pv 3) (pa_cons (pe_ix ix_tup (pv 7) pe_int (fun _ _ => rfl)) (pa_cons (pe_ix ix_tup (pv 7) pe_int (fun _ _ => rfl)) (pa_cons pe_bl pa_nil))))) (nomark _)) (pss_one (ps_ret pe_bl)) pss_nil)))
      (pss_cons (ps_for PassesOwn.never rfl (pi_range1 (by rfl) E.b_range (pa_cons (pe_call G__law_draw (hr.mono (by decide)) (by rfl) g__law_draw kp__law_draw b__law_draw .nil pass0 (pa_cons (pv 1) (pa_cons pe_int pa_nil))) pa_nil)) (pg_name (i := 4) sc_law.nd rfl (Or.inl rfl)) (pss_cons (ps_set (i := 6) sc_law.nd rfl (Or.inl rfl) (pe_call G__law_draw (hr.mono (by decide)) (by rfl) g__law_draw kp__law_draw b__law_draw .nil pass0 (pa_cons (pv 1) (pa_cons pe_int pa_nil))))
      (pss_one (ps_if (pt_cmpR (op_neD hr.units) (pe_meth (pv 2) E.cl_Database M_Database_erase G_Database_erase (hr.mono (by decide)) b_Database_erase .nil pass0 (pa_cons (pv 6) pa_nil)) (pe_call G__law_erase (hr.mono (by decide)) (by rfl) g__law_erase kp__law_erase b__law_erase .nil pass0 (pa_cons (pv 3) (pa_cons (pv 6) pa_nil))) (nomark _)) (pss_one (ps_ret pe_bl)) pss_nil))))
      (pss_cons (ps_if (pt_cmpR (op_neD hr.units) (pe_meth (pv 2) E.cl_Database M_Database_clauses G_Database_clauses (hr.mono (by decide)) b_Database_clauses v_Database_clauses passL (pa_cons (pe_ix ix_tup (pv 7) pe_int (fun _ _ => rfl)) (pa_cons (pe_ix ix_tup (pv 7) pe_int (fun _ _ => rfl)) pa_nil))) (pe_call G__law_clauses (hr.mono (by decide)) (by rfl) g__law_clauses kp__law_clauses b__law_clauses .nil pass0 (pa_cons (pv 3) (pa_cons (pe_ix ix_tup (pv 7) pe_int (fun _ _ => rfl)) (pa_cons (pe_ix ix_tup (pv 7) pe_int (fun _ _ => rfl)) (pa_cons (pe_dget (hu_of hr) (pv 3) pe_str (fun _ _ => rfl)) pa_nil))))) (nomark _)) (pss_one (ps_ret pe_bl)) pss_nil)
      (pss_cons (ps_for PassesOwn.never rfl (pi_range1 (by rfl) E.b_range (pa_cons pe_int pa_nil)) (pg_name (i := 4) sc_law.nd rfl (Or.inl rfl)) (pss_cons (ps_set (i := 9) sc_law.nd rfl (Or.inl rfl) (pe_call G__law_draw (hr.mono (by decide)) (by rfl) g__law_draw kp__law_draw b__law_draw .nil pass0 (pa_cons (pv 1) (pa_cons (pv 8) pa_nil))))
      (pss_one (ps_if (pw_and (pt_val (pe_ix ix_list (pe_ix ix_list (pe_dget (hu_of hr) (pv 3) pe_str (fun _ _ => rfl)) (pv 9) (fun _ _ => rfl)) pe_int (fun _ _ => rfl))) (pw_and1 (pt_cmpR (op_neD hr.units) (pe_meth (pv 2) E.cl_Database M_Database_next_clause G_Database_next_clause (hr.mono (by decide)) b_Database_next_clause .nil passL (pa_cons (pv 9) pa_nil)) (pe_call G__law_next (hr.mono (by decide)) (by rfl) g__law_next kp__law_next b__law_next .nil pass0 (pa_cons (pv 3) (pa_cons (pv 9) pa_nil))) (nomark _)))).pt (pss_one (ps_ret pe_bl)) pss_nil))))
      (pss_one (ps_ret pe_bl))))))))))))), ?_⟩
    refine st_of (σ := [some _, none, none, none, none, none, none, none, none, none]) rfl ?_
    walk_at "go"
    refine ⟨a, ns, rfl, hS, hl, fun s l H1 hs hl1 s1 St1 => ?_⟩
    walk_at "go"
    intro p dx n1 n2 ndx
    refine ⟨p, dx, rfl, upd_same, fun A H2 eA b2 nA D2 => ⟨rfl, ?_⟩⟩
    walk_at "go"
    refine ⟨rfl, fun B M H3 s3 nB g0 r0 o0 c0 W3 => ?_⟩
    have Z0 := LW.zero St1 n1 n2 ndx b2 nA D2 s3 nB g0 r0 o0 c0 W3
    walk_at "go"
    refine ⟨s, l, 12, rfl, Z0.st, by decide, Nat.lt_of_lt_of_le (by decide) n9, fun c1 H4 c10 c11 b4 S4 => ?_⟩
    have Z4 := Z0.but b4 S4
    walk_at "go"
    subst eA
    refine ⟨_, rfl, by omega, by omega, for_range (lo := 0) (n := (1 + c1).toNat) (fun i σ H' => ∃ (v4 v5 : Option V) (S : DB) (M : MO), σ = [some (.ref a), some (.ref s), some (.ref A.p), some (.ref B.m), v4, v5, none, none, none, none] ∧ LW K H' s l A S B M i ∧ M.rows.length = i ∧ M.cas.length = 0)
      ⟨none, none, DB0, M, rfl, Z4, by rw [r0]; rfl, by rw [c0]; rfl⟩ ?_ ?_⟩
    · rintro i σ H5 hi ⟨v4, v5, S, M, rfl, Z, hr, hc⟩
      walk_at "go"
      refine ⟨s, l, rfl, Z.st, fun v d r nm ar H6 ok hd b6 S6 dv => ?_⟩
      have Z6 := Z.but b6 S6
      walk_at "go"
      have hi' : i ≤ 12 := by omega
      refine ⟨_, _, _, rfl, Z6.D.ob, fs_Database_no_add, ?_⟩
      walk_at "go"
      refine ⟨A, S, v, d, r, nm, ar, false, rfl, Z6.D, Z6.dk.ok (by omega), hidL_dpN Z6.D.noTups (tup_noL ok.nd) dv, ok, fun vv aa H7 na b7 D7 => ?_⟩
      walk_at "go"
      refine ⟨B, M, v, d :: r, nm, ar, rfl, Z6.W1 b7, Z6.mok.ok (by omega), Z6.pair1 b7 (tup_noL ok.nd) dv, ok.nd, ok.len, fun a' v' o H8 na' no b8 W8 => ?_⟩
      have Z8 := Z6.add (by omega) hd ok.nd na b7 D7 na' no b8 W8
      walk_at "go"
      rw [decide_eq_true (show ((S.nn : Nat) : Int) = ((M.rows.length : Nat) : Int) by rw [Z6.R.nn])]
      walk_at "go"
      exact ⟨_, _, _, _, rfl, Z8, by show (M.rows ++ [_]).length = _; rw [List.length_append, hr]; rfl, hc⟩
    · rintro σ H5 ⟨v4, v5, S, M, rfl, Z5, hr5, hc5⟩
      have hr1 : M.rows.length ≤ 12 ∧ 0 < M.rows.length := by omega
      walk_at "go"
      refine ⟨s, l, 3, rfl, Z5.st, by decide, Nat.lt_of_lt_of_le (by decide) n9, fun c2 H6 c20 c21 b6 S6 => ?_⟩
      have Z6 := Z5.but b6 S6
      walk_at "go"
      refine ⟨_, rfl, by omega, by omega, for_range (lo := 0) (n := c2.toNat) (fun i σ H' => ∃ (v4 v6 : Option V) (S : DB) (M' : MO), σ = [some (.ref a), some (.ref s), some (.ref A.p), some (.ref B.m), v4, v5, v6, none, none, none] ∧ (∃ k ≤ 12 + i, LW K H' s l A S B M' k) ∧ M'.rows.length = M.rows.length ∧ M'.cas = M.cas)
        ⟨v4, none, S, M, rfl, ⟨_, by omega, Z6⟩, rfl, rfl⟩ ?_ ?_⟩
      · rintro i σ H7 hi ⟨v4, v6, S, M', rfl, ⟨k, hk, Z⟩, e1, e2⟩
        walk_at "go"
        refine ⟨s, l, 12, rfl, Z.st, by decide, Nat.lt_of_lt_of_le (by decide) n9, fun n1 H8 n10 n11 b8 S8 => ?_⟩
        have Z8 := Z.but b8 S8
        obtain ⟨n, rfl⟩ := Int.eq_ofNat_of_zero_le n10
        walk_at "go"
        refine ⟨_, _, _, rfl, Z8.D.ob, fs_Database_no_erase, ?_⟩
        walk_at "go"
        refine ⟨A, S, n, rfl, Z8.D, Z8.dk.ok (by omega), fun hf => ?_, fun ht H9 b9 D9 => ?_⟩
        · walk_at "go"
          refine ⟨B, M', n, rfl, Z8.W, fun hf2 => ?_, fun ht2 => by rw [← Z8.R.has, hf] at ht2; cases ht2⟩
          walk_at "go"
          refine ⟨_, _, .bl false, .bl false, rfl, rfl, ?_⟩
          rw [show PyData.eqv (.bool false) (.bool false) = true from rfl]
          walk_at "go"
          exact ⟨_, _, _, _, rfl, ⟨k, by omega, Z8⟩, e1, e2⟩
        · have ct : M'.canErase n = true := by rw [← Z8.R.has]; exact ht
          walk_at "go"
          refine ⟨B, M', n, rfl, Z8.W1 b9, (fun hf2 => by rw [ct] at hf2; cases hf2), fun _ H10 b10 W10 => ?_⟩
          have Z10 := Z8.erase ct b9 D9 b10 W10
          walk_at "go"
          refine ⟨_, _, .bl true, .bl true, rfl, rfl, ?_⟩
          rw [show PyData.eqv (.bool true) (.bool true) = true from rfl]
          walk_at "go"
          exact ⟨_, _, _, _, rfl, ⟨k + 1, by omega, Z10⟩, (erase_rows M' n).1.trans e1, (erase_rows M' n).2.trans e2⟩
      · rintro σ H7 ⟨v4, v6, S, M', rfl, ⟨k, hk, Z7⟩, e1, e2⟩
        walk_at "go"
        refine ⟨_, _, rfl, by have := DGet.k (k := Sum.inr "rows") Z7.W.em; rw [val_r] at this; exact this, ?_⟩
        walk_at "go"
        refine ⟨_, _, rfl, by have := DGet.k (k := Sum.inr "rows") Z7.W.em; rw [val_r] at this; exact this, ?_⟩
        walk_at "go"
        refine ⟨B.R, _, rfl, .inl (SqL.of Z7.W.eR), ?_⟩
        rw [List.length_map]
        walk_at "go"
        refine ⟨s, l, _, rfl, Z7.st, by omega, Nat.lt_of_lt_of_le (show _ < 2 ^ 8 from by omega) n9, fun j1 H8 j10 j11 b8 S8 => ?_⟩
        have Z8 := Z7.but b8 S8
        obtain ⟨j, rfl⟩ := Int.eq_ofNat_of_zero_le j10
        have jl : j < M'.rows.length := by omega
        obtain ⟨x, hx⟩ : ∃ x, M'.rows[j]? = some x := ⟨_, List.getElem?_eq_getElem jl⟩
        have mx : x ∈ M'.rows := List.mem_of_getElem? hx
        have gj : (M'.rows.map fun y => V.ref y.ad)[j]? = some (V.ref x.ad) := by rw [List.getElem?_map, hx]; rfl
        walk_at "go"
        refine ⟨_, _, _, _, rfl, rfl, SqL.of Z8.W.eR, at_of (j := j) rfl gj, ?_⟩
        walk_at "go"
        refine ⟨_, _, _, _, rfl, rfl, SqL.of (Z8.W.rw x mx), at_of (j := 0) rfl rfl, ?_⟩
        walk_at "go"
        have hd := Z8.mok.hd x mx
        refine ⟨x.v, x.ds, x.nm, x.ar, rfl, (Z8.W.dv x mx).1, hd, fun p H9 s9 np ep => ?_⟩
        have Z9 := Z8.same s9
        have ok := hd_name hd
        obtain ⟨ar0, ar8⟩ := nda_ar hd.1
        generalize x.nm = nm at ok ep
        generalize x.ar = ar at ar0 ar8 ep
        walk_at "go"
        refine ⟨s, l, 3, rfl, Z9.st, by decide, Nat.lt_of_lt_of_le (by decide) n9, fun c3 H10 c30 c31 b10 S10 => ?_⟩
        have Z10 := Z9.but b10 S10
        have ep10 : H10 p = some (.tup [.str nm, .int ar]) := keepT Z9.st.nts (but_M b10) ep
        walk_at "go"
        refine ⟨_, rfl, by omega, by omega, for_range (lo := 0) (n := (1 + c3).toNat) (fun i σ H' => ∃ (v9 : Option V) (S : DB) (M : MO), σ = [some (.ref a), some (.ref s), some (.ref A.p), some (.ref B.m), v4, v5, v6, some (.ref p), some (.int (1 + c3)), v9] ∧ (∃ k ≤ 15 + i, LW K H' s l A S B M k) ∧ M.cas.length = i ∧ H' p = some (.tup [.str nm, .int ar]))
          ⟨none, S, M', rfl, ⟨k, by omega, Z10⟩, by rw [e2, hc5], ep10⟩ ?_ ?_⟩
        · rintro i σ H11 hi ⟨v9, S, M, rfl, ⟨k, hk, Z⟩, hc, ep⟩
          walk_at "go"
          refine ⟨_, _, _, rfl, Z.D.ob, fs_Database_no_open_call, ?_⟩
          walk_at "go"
          refine ⟨_, _, _, _, rfl, rfl, SqT.of ep, at_of (j := 0) rfl rfl, ?_⟩
          walk_at "go"
          refine ⟨_, _, _, _, rfl, rfl, SqT.of ep, at_of (j := 1) rfl rfl, ?_⟩
          walk_at "go"
          refine ⟨A, S, nm, ar, false, rfl, Z.D, Z.dk.ok (by omega), fun t aa H12 na b12 D12 => ?_⟩
          have ep12 := keepT Z.D.noTups b12 ep
          walk_at "go"
          refine ⟨_, _, _, _, rfl, rfl, SqT.of ep12, at_of (j := 0) rfl rfl, ?_⟩
          walk_at "go"
          refine ⟨_, _, _, _, rfl, rfl, SqT.of ep12, at_of (j := 1) rfl rfl, ?_⟩
          walk_at "go"
          refine ⟨B, M, nm, ar, rfl, Z.W1 b12, Z.mok.ok (by omega), ok, ar0, ar8, fun a' na' H13 ha' hna' b13 W13 => ?_⟩
          have Z13 := Z.opened (by omega) na b12 D12 ha' hna' b13 W13
          have ep13 := keepT (Z.W1 b12).noTups b13 ep12
          walk_at "go"
          rw [decide_eq_true (show ((S.nc : Nat) : Int) = ((M.cas.length : Nat) : Int) by rw [Z.R.nc])]
          walk_at "go"
          exact ⟨_, _, _, rfl, ⟨k + 1, by omega, Z13⟩, by show (M.cas ++ [_]).length = _; rw [List.length_append, hc]; rfl, ep13⟩
        · rintro σ H11 ⟨v9, S, M, rfl, ⟨k, hk, Z11⟩, hc11, ep11⟩
          walk_at "go"
          refine ⟨s, l, 6, rfl, Z11.st, by decide, Nat.lt_of_lt_of_le (by decide) n9, fun c4 H12 c40 c41 b12 S12 => ?_⟩
          have Z12 := Z11.but b12 S12
          have ep12 : H12 p = some (.tup [.str nm, .int ar]) := keepT Z11.st.nts (but_M b12) ep11
          walk_at "go"
          refine ⟨_, rfl, by omega, by omega, for_range (lo := 0) (n := c4.toNat) (fun i σ H' => ∃ (v4 v6 : Option V) (S : DB) (M' : MO), σ = [some (.ref a), some (.ref s), some (.ref A.p), some (.ref B.m), v4, v5, v6, some (.ref p), some (.int (1 + c3)), v9] ∧ (∃ k ≤ 25 + i, LW K H' s l A S B M' k) ∧ M'.cas = M.cas ∧ H' p = some (.tup [.str nm, .int ar]))
            ⟨v4, v6, S, M, rfl, ⟨k, by omega, Z12⟩, rfl, ep12⟩ ?_ ?_⟩
          · rintro i σ H7 hi ⟨v4, v6, S, M', rfl, ⟨k, hk, Z⟩, e2, ep⟩
            walk_at "go"
            refine ⟨s, l, 12, rfl, Z.st, by decide, Nat.lt_of_lt_of_le (by decide) n9, fun n1 H8 n10 n11 b8 S8 => ?_⟩
            have Z8 := Z.but b8 S8
            have ep8 : H8 p = some (.tup [.str nm, .int ar]) := keepT Z.st.nts (but_M b8) ep
            obtain ⟨n, rfl⟩ := Int.eq_ofNat_of_zero_le n10
            walk_at "go"
            refine ⟨_, _, _, rfl, Z8.D.ob, fs_Database_no_erase, ?_⟩
            walk_at "go"
            refine ⟨A, S, n, rfl, Z8.D, Z8.dk.ok (by omega), fun hf => ?_, fun ht H9 b9 D9 => ?_⟩
            · walk_at "go"
              refine ⟨B, M', n, rfl, Z8.W, fun hf2 => ?_, fun ht2 => by rw [← Z8.R.has, hf] at ht2; cases ht2⟩
              walk_at "go"
              refine ⟨_, _, .bl false, .bl false, rfl, rfl, ?_⟩
              rw [show PyData.eqv (.bool false) (.bool false) = true from rfl]
              walk_at "go"
              exact ⟨_, _, _, _, rfl, ⟨k, by omega, Z8⟩, e2, ep8⟩
            · have ct : M'.canErase n = true := by rw [← Z8.R.has]; exact ht
              walk_at "go"
              refine ⟨B, M', n, rfl, Z8.W1 b9, (fun hf2 => by rw [ct] at hf2; cases hf2), fun _ H10 b10 W10 => ?_⟩
              have Z10 := Z8.erase ct b9 D9 b10 W10
              have ep10 := keepT (Z8.W1 b9).noTups b10 (keepT Z8.D.noTups b9 ep8)
              walk_at "go"
              refine ⟨_, _, .bl true, .bl true, rfl, rfl, ?_⟩
              rw [show PyData.eqv (.bool true) (.bool true) = true from rfl]
              walk_at "go"
              exact ⟨_, _, _, _, rfl, ⟨k + 1, by omega, Z10⟩, (erase_rows M' n).2.trans e2, ep10⟩
          · rintro σ H7 ⟨v4, v6, S, M', rfl, ⟨k, hk, Z7⟩, e2, ep7⟩
            have hc7 : M'.cas.length = (1 + c3).toNat := by rw [e2]; exact hc11
            walk_at "go"
            refine ⟨_, _, _, rfl, Z7.D.ob, fs_Database_no_clauses, ?_⟩
            walk_at "go"
            refine ⟨_, _, _, _, rfl, rfl, SqT.of ep7, at_of (j := 0) rfl rfl, ?_⟩
            walk_at "go"
            refine ⟨_, _, _, _, rfl, rfl, SqT.of ep7, at_of (j := 1) rfl rfl, ?_⟩
            walk_at "go"
            refine ⟨A, S, nm, ar, rfl, Z7.D, Z7.dk.ok (by omega), fun r zs H8 s8 nr er dpz => ?_⟩
            have Z8 := Z7.same s8
            have ep8 := s8 _ _ ep7
            walk_at "go"
            refine ⟨_, _, _, _, rfl, rfl, SqT.of ep8, at_of (j := 0) rfl rfl, ?_⟩
            walk_at "go"
            refine ⟨_, _, _, _, rfl, rfl, SqT.of ep8, at_of (j := 1) rfl rfl, ?_⟩
            walk_at "go"
            refine ⟨_, _, rfl, by have := DGet.k (k := Sum.inr "generation") Z8.W.em; rw [val_g] at this; exact this, ?_⟩
            walk_at "go"
            refine ⟨B, M', nm, ar, rfl, Z8.W, Z8.mok.ok (by omega), ok, ar0, ar8, fun r' zs' H9 s9 nr' er' dpz' => ?_⟩
            have Z9 := Z8.same s9
            have ep9 := s9 _ _ ep8
            have el : S.look nm ar = M'.look nm ar := Z8.R.look (Z8.mok.ok (by omega)) nm ar
            rw [el] at dpz
            obtain ⟨sh, ee⟩ := look_shaped (MO.nds Z8.W) nm ar
            walk_at "go"
            refine ⟨_, _, .lst (SqL.of (s9 _ _ er)) (dp_sameAll (hidL_same.trans s9) _ _ dpz), .lst (SqL.of er') dpz', sh, sh, ?_⟩
            rw [ee]
            walk_at "go"
            refine ⟨_, rfl, by decide, by decide, for_range (lo := 0) (n := 13) (fun i σ H' => ∃ (v4 v9 : Option V) (S : DB) (M : MO), σ = [some (.ref a), some (.ref s), some (.ref A.p), some (.ref B.m), v4, v5, v6, some (.ref p), some (.int (1 + c3)), v9] ∧ LW K H' s l A S B M k ∧ M.cas.length = (1 + c3).toNat)
              ⟨v4, v9, S, M', rfl, Z9, hc7⟩ ?_ ?_⟩
            · rintro i σ H10 hi ⟨v4, v9, S, M, rfl, Z, hc⟩
              walk_at "go"
              refine ⟨s, l, 1 + c3, rfl, Z.st, by omega, Nat.lt_of_lt_of_le (show _ < 2 ^ 8 from by omega) n9, fun n1 H11 n10 n11 b11 S11 => ?_⟩
              have Z11 := Z.but b11 S11
              obtain ⟨n, rfl⟩ := Int.eq_ofNat_of_zero_le n10
              have nl : n < M.cas.length := by omega
              obtain ⟨c, hcn⟩ : ∃ c, M.cas[n]? = some c := ⟨_, List.getElem?_eq_getElem nl⟩
              have mc : c ∈ M.cas := List.mem_of_getElem? hcn
              have gn : (M.cas.map fun y => V.ref y.ad)[n]? = some (V.ref c.ad) := by rw [List.getElem?_map, hcn]; rfl
              walk_at "go"
              refine ⟨_, _, rfl, by have := DGet.k (k := Sum.inr "calls") Z11.W.em; rw [val_c] at this; exact this, ?_⟩
              walk_at "go"
              refine ⟨_, _, _, _, rfl, rfl, SqL.of Z11.W.eC, at_of (j := n) rfl gn, ?_⟩
              walk_at "go"
              refine ⟨_, _, _, _, rfl, rfl, SqL.of (Z11.W.ca c mc).1, at_of (j := 2) rfl rfl, ?_⟩
              walk_at "go"
              cases op : c.op with
              | false =>
                refine iteF ?_
                walk_at "go"
                exact ⟨_, _, _, _, rfl, Z11, hc⟩
              | true =>
                refine iteT ?_
                obtain ⟨d, hd, er, _, qn, qs⟩ := Z11.R.next Z11.D Z11.W hcn op
                walk_at "go"
                refine ⟨_, _, _, rfl, Z11.D.ob, fs_Database_no_next_clause, ?_⟩
                walk_at "go"
                refine ⟨A, S, n, d, rfl, Z11.D, Z11.dk.ok (by omega), hd, fun v H12 b12 D12 hv => ?_⟩
                have W12 := Z11.W1 b12
                walk_at "go"
                refine ⟨B, M, n, c, rfl, W12, Z11.mok.ok (by omega), hcn, op, fun hn H13 b13 W13 => ?_, fun m r hn v' na H13 hna b13 W13 dp => ?_⟩
                · obtain ⟨e1, R'⟩ := qn hn
                  rw [e1] at hv
                  have hv : v = .non := hv
                  subst hv
                  have Z13 := Z11.over hcn hd er R' b12 D12 b13 W13
                  walk_at "go"
                  refine ⟨_, _, .non, .non, rfl, rfl, ?_⟩
                  rw [show PyData.eqv .none .none = true from rfl]
                  walk_at "go"
                  exact ⟨_, _, _, _, rfl, Z13, by show (setMc _ _ _).length = _; unfold setMc; rw [List.length_map]; exact hc⟩
                · obtain ⟨e1, R'⟩ := qs m r na hn
                  rw [e1] at hv
                  have hv : Dp K (hidL (A.L S) H12) v (S.pairOf m) := hv
                  rw [Z11.R.pairOf] at hv
                  have hv := dp_butM W12.noTups b13 (MO.pair_noL W12 m) (dp_same hidL_same _ _ hv)
                  have sh : SeqAt.shaped (M.pairOf m) = true := pair_shaped (MO.nds W12 m)
                  have Z13 := Z11.took hcn hd er hn R' b12 D12 hna b13 W13
                  walk_at "go"
                  refine ⟨_, _, hv, dp, sh, sh, ?_⟩
                  rw [(pair_facts (MO.nds W12 m)).2.2]
                  walk_at "go"
                  exact ⟨_, _, _, _, rfl, Z13, by show (setMc _ _ _).length = _; unfold setMc; rw [List.length_map]; exact hc⟩
            · rintro σ H10 ⟨v4, v9, S, M, rfl, Z, hc⟩
              walk_at "go"
              exact q _

end
/-! ### the end -/
theorem all_mk {l : PySem.W.OpenLaw} {w : World} {K : PySem.W.Frag} {h : Heap} {mg : Str → Option Value} {fa f1 f2 f3 f4 f5 f6 f7 f8 f9 f10 f11 f12 f13 f14 f15 f16 f17 f18 f19 f20 f21 f22 f23 f24 f25 f26 f27 f28 f29 f30 f31 f32 : Addr} (X : K.In h) (G : h.Ns mainGlobals mg) (hfa : mg "law" = some (.ref fa))
    {od1 an1 od2 an2 od3 an3 od4 an4 od5 an5 od6 an6 od7 an7 od8 an8 od9 an9 od10 an10 od11 an11 od12 an12 od13 an13 od14 an14 od15 an15 od16 an16 od17 an17 od18 an18 od19 an19 od20 an20 od21 an21 od22 an22 od23 an23 od24 an24 od25 an25 od26 an26 od27 an27 od28 an28 od29 an29 od30 an30 od31 an31 od32 an32 : Option Addr} {sl1 sl2 sl3 sl4 sl5 sl6 sl7 sl8 sl9 sl10 sl11 sl12 sl13 sl14 sl15 sl16 sl17 sl18 sl19 sl20 sl21 sl22 sl23 sl24 sl25 sl26 sl27 sl28 sl29 sl30 sl31 sl32 : Array (Option Value)} {oc1 kV1 dc1 pm1 cd1 ct1 oc2 kV2 dc2 pm2 cd2 ct2 oc3 kV3 dc3 pm3 cd3 ct3 oc4 kV4 dc4 pm4 cd4 ct4 oc5 kV5 dc5 pm5 cd5 ct5 oc6 kV6 dc6 pm6 cd6 ct6 oc7 kV7 dc7 pm7 cd7 ct7 oc8 kV8 dc8 pm8 cd8 ct8 oc9 kV9 dc9 pm9 cd9 ct9 oc10 kV10 dc10 pm10 cd10 ct10 oc11 dc11 pm11 cd11 ct11 oc12 kV12 dc12 pm12 cd12 ct12 oc13 dc13 pm13 cd13 ct13 oc14 dc14 pm14 cd14 ct14 oc15 kV15 dc15 pm15 cd15 ct15 oc16 kV16 dc16 pm16 cd16 ct16 oc17 kV17 dc17 pm17 cd17 ct17 oc18 kV18 dc18 pm18 cd18 ct18 oc19 kV19 dc19 pm19 cd19 ct19 oc20 kV20 dc20 pm20 cd20 ct20 oc21 kV21 dc21 pm21 cd21 ct21 oc22 kV22 dc22 pm22 cd22 ct22 oc23 kV23 dc23 pm23 cd23 ct23 oc24 kV24 dc24 pm24 cd24 ct24 oc25 kV25 dc25 pm25 cd25 ct25 oc26 kV26 dc26 pm26 cd26 ct26 oc27 kV27 dc27 pm27 cd27 ct27 oc28 kV28 dc28 pm28 cd28 ct28 oc29 kV29 dc29 pm29 cd29 ct29 oc30 kV30 dc30 pm30 cd30 ct30 oc31 kV31 dc31 pm31 cd31 ct31 oc32 kV32 dc32 pm32 cd32 ct32 : Value} {tk0 : Tok}
 {D11o : Addr} {D13o : Addr} {D14o : Addr} {T5o : Addr} {td5 : Option Addr} {tn5 : Nat} {ts5 : Array (Option Value)} {tt5_0 : Tok}
    {PC0 : Addr} (pa0 : PySem.W.nsIn K mainGlobals "Database" = some (some (.ref PC0))) (pg0 : PySem.W.plainGet K PC0 Str.empty = true) (phd0 : PySem.W.hasDictIn K PC0 = true) (po0 : PySem.W.plainOver K PC0 = true) (psa0 : PySem.W.findIn K (.ref PC0) "__setattr__" = some (some (.builtin "object.__setattr__"))) (pm0k : PySem.W.makesIn K PC0 = true) (pk0 : PySem.W.keepIn K (.ref PC0) = true)
    (pn0_0 : PySem.W.findIn K (.ref PC0) "generation" = some none)
    (pn0_1 : PySem.W.findIn K (.ref PC0) "_clauses" = some none)
    (pn0_2 : PySem.W.findIn K (.ref PC0) "_births" = some none)
    (pn0_3 : PySem.W.findIn K (.ref PC0) "_deaths" = some none)
    (pn0_4 : PySem.W.findIn K (.ref PC0) "_rows" = some none)
    (pn0_5 : PySem.W.findIn K (.ref PC0) "_gaps" = some none)
    (pn0_6 : PySem.W.findIn K (.ref PC0) "_calls" = some none)
    (pn0_7 : PySem.W.findIn K (.ref PC0) "_next_number" = some none)
    (pn0_8 : PySem.W.findIn K (.ref PC0) "_next_call" = some none)
    (a1 : PySem.W.nsIn K mainGlobals "is_variable" = some (some (.ref f1))) (l1 : K.lookup f1 = some ⟨oc1, od1, .func (PySem.W.fnOf "is_variable" "is_variable" (defArgs s_is_variable) (defBody s_is_variable) (defScope s_is_variable) .none kV1 dc1 pm1 an1 cd1 ct1), sl1⟩) (c1 : PySem.W.codeIn K cd1 "is_variable" = true) (k1 : PySem.W.keepIn K (.ref f1) = true)
    (a2 : PySem.W.nsIn K mainGlobals "is_symbol" = some (some (.ref f2))) (l2 : K.lookup f2 = some ⟨oc2, od2, .func (PySem.W.fnOf "is_symbol" "is_symbol" (defArgs s_is_symbol) (defBody s_is_symbol) (defScope s_is_symbol) .none kV2 dc2 pm2 an2 cd2 ct2), sl2⟩) (c2 : PySem.W.codeIn K cd2 "is_symbol" = true) (k2 : PySem.W.keepIn K (.ref f2) = true)
    (a3 : PySem.W.nsIn K mainGlobals "arity_of" = some (some (.ref f3))) (l3 : K.lookup f3 = some ⟨oc3, od3, .func (PySem.W.fnOf "arity_of" "arity_of" (defArgs s_arity_of) (defBody s_arity_of) (defScope s_arity_of) .none kV3 dc3 pm3 an3 cd3 ct3), sl3⟩) (c3 : PySem.W.codeIn K cd3 "arity_of" = true) (k3 : PySem.W.keepIn K (.ref f3) = true)
    (a4 : PySem.W.nsIn K mainGlobals "end_of" = some (some (.ref f4))) (l4 : K.lookup f4 = some ⟨oc4, od4, .func (PySem.W.fnOf "end_of" "end_of" (defArgs s_end_of) (defBody s_end_of) (defScope s_end_of) .none kV4 dc4 pm4 an4 cd4 ct4), sl4⟩) (c4 : PySem.W.codeIn K cd4 "end_of" = true) (k4 : PySem.W.keepIn K (.ref f4) = true)
    (a5 : PySem.W.nsIn K mainGlobals "renumber" = some (some (.ref f5))) (l5 : K.lookup f5 = some ⟨oc5, od5, .func (PySem.W.fnOf "renumber" "renumber" (defArgs s_renumber) (defBody s_renumber) (defScope s_renumber) (.ref T5o) kV5 dc5 pm5 an5 cd5 ct5), sl5⟩) (c5 : PySem.W.codeIn K cd5 "renumber" = true) (k5 : PySem.W.keepIn K (.ref f5) = true)
    (t5 : K.lookup T5o = some ⟨.type "tuple", td5, .seq #[.int 0 tt5_0] tn5, ts5⟩)
    (a6 : PySem.W.nsIn K mainGlobals "is_control" = some (some (.ref f6))) (l6 : K.lookup f6 = some ⟨oc6, od6, .func (PySem.W.fnOf "is_control" "is_control" (defArgs s_is_control) (defBody s_is_control) (defScope s_is_control) .none kV6 dc6 pm6 an6 cd6 ct6), sl6⟩) (c6 : PySem.W.codeIn K cd6 "is_control" = true) (k6 : PySem.W.keepIn K (.ref f6) = true)
    (a7 : PySem.W.nsIn K mainGlobals "is_built_in" = some (some (.ref f7))) (l7 : K.lookup f7 = some ⟨oc7, od7, .func (PySem.W.fnOf "is_built_in" "is_built_in" (defArgs s_is_built_in) (defBody s_is_built_in) (defScope s_is_built_in) .none kV7 dc7 pm7 an7 cd7 ct7), sl7⟩) (c7 : PySem.W.codeIn K cd7 "is_built_in" = true) (k7 : PySem.W.keepIn K (.ref f7) = true)
    (a8 : PySem.W.nsIn K mainGlobals "split_clause" = some (some (.ref f8))) (l8 : K.lookup f8 = some ⟨oc8, od8, .func (PySem.W.fnOf "split_clause" "split_clause" (defArgs s_split_clause) (defBody s_split_clause) (defScope s_split_clause) .none kV8 dc8 pm8 an8 cd8 ct8), sl8⟩) (c8 : PySem.W.codeIn K cd8 "split_clause" = true) (k8 : PySem.W.keepIn K (.ref f8) = true)
    (a9 : PySem.W.nsIn K mainGlobals "head_and_body" = some (some (.ref f9))) (l9 : K.lookup f9 = some ⟨oc9, od9, .func (PySem.W.fnOf "head_and_body" "head_and_body" (defArgs s_head_and_body) (defBody s_head_and_body) (defScope s_head_and_body) .none kV9 dc9 pm9 an9 cd9 ct9), sl9⟩) (c9 : PySem.W.codeIn K cd9 "head_and_body" = true) (k9 : PySem.W.keepIn K (.ref f9) = true)
    (a10 : PySem.W.findIn K (.ref PC0) "__init__" = some (some (.ref f10))) (i10 : PySem.W.isFn K (.ref f10) = true) (l10 : K.lookup f10 = some ⟨oc10, od10, .func (PySem.W.fnOf "__init__" "Database.__init__" (defArgs s_Database___init__) (defBody s_Database___init__) (defScope s_Database___init__) .none kV10 dc10 pm10 an10 cd10 ct10), sl10⟩) (c10 : PySem.W.codeIn K cd10 "Database.__init__" = true) (k10 : PySem.W.keepIn K (.ref f10) = true)
    (a11 : PySem.W.findIn K (.ref PC0) "add" = some (some (.ref f11))) (i11 : PySem.W.isFn K (.ref f11) = true) (l11 : K.lookup f11 = some ⟨oc11, od11, .func (PySem.W.fnOf "add" "Database.add" (defArgs s_Database_add) (defBody s_Database_add) (defScope s_Database_add) .none (.ref D11o) dc11 pm11 an11 cd11 ct11), sl11⟩) (c11 : PySem.W.codeIn K cd11 "Database.add" = true) (k11 : PySem.W.keepIn K (.ref f11) = true)
    (n11_first : PySem.W.nsIn K D11o "first" = some (some (.bool false)))
    (a12 : PySem.W.findIn K (.ref PC0) "erase" = some (some (.ref f12))) (i12 : PySem.W.isFn K (.ref f12) = true) (l12 : K.lookup f12 = some ⟨oc12, od12, .func (PySem.W.fnOf "erase" "Database.erase" (defArgs s_Database_erase) (defBody s_Database_erase) (defScope s_Database_erase) .none kV12 dc12 pm12 an12 cd12 ct12), sl12⟩) (c12 : PySem.W.codeIn K cd12 "Database.erase" = true) (k12 : PySem.W.keepIn K (.ref f12) = true)
    (a13 : PySem.W.findIn K (.ref PC0) "clauses" = some (some (.ref f13))) (i13 : PySem.W.isFn K (.ref f13) = true) (l13 : K.lookup f13 = some ⟨oc13, od13, .func (PySem.W.fnOf "clauses" "Database.clauses" (defArgs s_Database_clauses) (defBody s_Database_clauses) (defScope s_Database_clauses) .none (.ref D13o) dc13 pm13 an13 cd13 ct13), sl13⟩) (c13 : PySem.W.codeIn K cd13 "Database.clauses" = true) (k13 : PySem.W.keepIn K (.ref f13) = true)
    (n13_at : PySem.W.nsIn K D13o "at" = some (some (.none)))
    (a14 : PySem.W.findIn K (.ref PC0) "open_call" = some (some (.ref f14))) (i14 : PySem.W.isFn K (.ref f14) = true) (l14 : K.lookup f14 = some ⟨oc14, od14, .func (PySem.W.fnOf "open_call" "Database.open_call" (defArgs s_Database_open_call) (defBody s_Database_open_call) (defScope s_Database_open_call) .none (.ref D14o) dc14 pm14 an14 cd14 ct14), sl14⟩) (c14 : PySem.W.codeIn K cd14 "Database.open_call" = true) (k14 : PySem.W.keepIn K (.ref f14) = true)
    (n14_erasing : PySem.W.nsIn K D14o "erasing" = some (some (.bool false)))
    (a15 : PySem.W.findIn K (.ref PC0) "next_clause" = some (some (.ref f15))) (i15 : PySem.W.isFn K (.ref f15) = true) (l15 : K.lookup f15 = some ⟨oc15, od15, .func (PySem.W.fnOf "next_clause" "Database.next_clause" (defArgs s_Database_next_clause) (defBody s_Database_next_clause) (defScope s_Database_next_clause) .none kV15 dc15 pm15 an15 cd15 ct15), sl15⟩) (c15 : PySem.W.codeIn K cd15 "Database.next_clause" = true) (k15 : PySem.W.keepIn K (.ref f15) = true)
    (a16 : PySem.W.findIn K (.ref PC0) "_exists" = some (some (.ref f16))) (i16 : PySem.W.isFn K (.ref f16) = true) (l16 : K.lookup f16 = some ⟨oc16, od16, .func (PySem.W.fnOf "_exists" "Database._exists" (defArgs s_Database__exists) (defBody s_Database__exists) (defScope s_Database__exists) .none kV16 dc16 pm16 an16 cd16 ct16), sl16⟩) (c16 : PySem.W.codeIn K cd16 "Database._exists" = true) (k16 : PySem.W.keepIn K (.ref f16) = true)
    (a17 : PySem.W.findIn K (.ref PC0) "_left" = some (some (.ref f17))) (i17 : PySem.W.isFn K (.ref f17) = true) (l17 : K.lookup f17 = some ⟨oc17, od17, .func (PySem.W.fnOf "_left" "Database._left" (defArgs s_Database__left) (defBody s_Database__left) (defScope s_Database__left) .none kV17 dc17 pm17 an17 cd17 ct17), sl17⟩) (c17 : PySem.W.codeIn K cd17 "Database._left" = true) (k17 : PySem.W.keepIn K (.ref f17) = true)
    (a18 : PySem.W.nsIn K mainGlobals "_law_stream" = some (some (.ref f18))) (l18 : K.lookup f18 = some ⟨oc18, od18, .func (PySem.W.fnOf "_law_stream" "_law_stream" (defArgs s__law_stream) (defBody s__law_stream) (defScope s__law_stream) .none kV18 dc18 pm18 an18 cd18 ct18), sl18⟩) (c18 : PySem.W.codeIn K cd18 "_law_stream" = true) (k18 : PySem.W.keepIn K (.ref f18) = true)
    (a19 : PySem.W.nsIn K mainGlobals "_law_draw" = some (some (.ref f19))) (l19 : K.lookup f19 = some ⟨oc19, od19, .func (PySem.W.fnOf "_law_draw" "_law_draw" (defArgs s__law_draw) (defBody s__law_draw) (defScope s__law_draw) .none kV19 dc19 pm19 an19 cd19 ct19), sl19⟩) (c19 : PySem.W.codeIn K cd19 "_law_draw" = true) (k19 : PySem.W.keepIn K (.ref f19) = true)
    (a20 : PySem.W.nsIn K mainGlobals "_law_is_variable" = some (some (.ref f20))) (l20 : K.lookup f20 = some ⟨oc20, od20, .func (PySem.W.fnOf "_law_is_variable" "_law_is_variable" (defArgs s__law_is_variable) (defBody s__law_is_variable) (defScope s__law_is_variable) .none kV20 dc20 pm20 an20 cd20 ct20), sl20⟩) (c20 : PySem.W.codeIn K cd20 "_law_is_variable" = true) (k20 : PySem.W.keepIn K (.ref f20) = true)
    (a21 : PySem.W.nsIn K mainGlobals "_law_put" = some (some (.ref f21))) (l21 : K.lookup f21 = some ⟨oc21, od21, .func (PySem.W.fnOf "_law_put" "_law_put" (defArgs s__law_put) (defBody s__law_put) (defScope s__law_put) .none kV21 dc21 pm21 an21 cd21 ct21), sl21⟩) (c21 : PySem.W.codeIn K cd21 "_law_put" = true) (k21 : PySem.W.keepIn K (.ref f21) = true)
    (a22 : PySem.W.nsIn K mainGlobals "_law_numbered" = some (some (.ref f22))) (l22 : K.lookup f22 = some ⟨oc22, od22, .func (PySem.W.fnOf "_law_numbered" "_law_numbered" (defArgs s__law_numbered) (defBody s__law_numbered) (defScope s__law_numbered) .none kV22 dc22 pm22 an22 cd22 ct22), sl22⟩) (c22 : PySem.W.codeIn K cd22 "_law_numbered" = true) (k22 : PySem.W.keepIn K (.ref f22) = true)
    (a23 : PySem.W.nsIn K mainGlobals "_law_stored" = some (some (.ref f23))) (l23 : K.lookup f23 = some ⟨oc23, od23, .func (PySem.W.fnOf "_law_stored" "_law_stored" (defArgs s__law_stored) (defBody s__law_stored) (defScope s__law_stored) .none kV23 dc23 pm23 an23 cd23 ct23), sl23⟩) (c23 : PySem.W.codeIn K cd23 "_law_stored" = true) (k23 : PySem.W.keepIn K (.ref f23) = true)
    (a24 : PySem.W.nsIn K mainGlobals "_law_head" = some (some (.ref f24))) (l24 : K.lookup f24 = some ⟨oc24, od24, .func (PySem.W.fnOf "_law_head" "_law_head" (defArgs s__law_head) (defBody s__law_head) (defScope s__law_head) .none kV24 dc24 pm24 an24 cd24 ct24), sl24⟩) (c24 : PySem.W.codeIn K cd24 "_law_head" = true) (k24 : PySem.W.keepIn K (.ref f24) = true)
    (a25 : PySem.W.nsIn K mainGlobals "_law_model" = some (some (.ref f25))) (l25 : K.lookup f25 = some ⟨oc25, od25, .func (PySem.W.fnOf "_law_model" "_law_model" (defArgs s__law_model) (defBody s__law_model) (defScope s__law_model) .none kV25 dc25 pm25 an25 cd25 ct25), sl25⟩) (c25 : PySem.W.codeIn K cd25 "_law_model" = true) (k25 : PySem.W.keepIn K (.ref f25) = true)
    (a26 : PySem.W.nsIn K mainGlobals "_law_exists" = some (some (.ref f26))) (l26 : K.lookup f26 = some ⟨oc26, od26, .func (PySem.W.fnOf "_law_exists" "_law_exists" (defArgs s__law_exists) (defBody s__law_exists) (defScope s__law_exists) .none kV26 dc26 pm26 an26 cd26 ct26), sl26⟩) (c26 : PySem.W.codeIn K cd26 "_law_exists" = true) (k26 : PySem.W.keepIn K (.ref f26) = true)
    (a27 : PySem.W.nsIn K mainGlobals "_law_add" = some (some (.ref f27))) (l27 : K.lookup f27 = some ⟨oc27, od27, .func (PySem.W.fnOf "_law_add" "_law_add" (defArgs s__law_add) (defBody s__law_add) (defScope s__law_add) .none kV27 dc27 pm27 an27 cd27 ct27), sl27⟩) (c27 : PySem.W.codeIn K cd27 "_law_add" = true) (k27 : PySem.W.keepIn K (.ref f27) = true)
    (a28 : PySem.W.nsIn K mainGlobals "_law_erase" = some (some (.ref f28))) (l28 : K.lookup f28 = some ⟨oc28, od28, .func (PySem.W.fnOf "_law_erase" "_law_erase" (defArgs s__law_erase) (defBody s__law_erase) (defScope s__law_erase) .none kV28 dc28 pm28 an28 cd28 ct28), sl28⟩) (c28 : PySem.W.codeIn K cd28 "_law_erase" = true) (k28 : PySem.W.keepIn K (.ref f28) = true)
    (a29 : PySem.W.nsIn K mainGlobals "_law_clauses" = some (some (.ref f29))) (l29 : K.lookup f29 = some ⟨oc29, od29, .func (PySem.W.fnOf "_law_clauses" "_law_clauses" (defArgs s__law_clauses) (defBody s__law_clauses) (defScope s__law_clauses) .none kV29 dc29 pm29 an29 cd29 ct29), sl29⟩) (c29 : PySem.W.codeIn K cd29 "_law_clauses" = true) (k29 : PySem.W.keepIn K (.ref f29) = true)
    (a30 : PySem.W.nsIn K mainGlobals "_law_open" = some (some (.ref f30))) (l30 : K.lookup f30 = some ⟨oc30, od30, .func (PySem.W.fnOf "_law_open" "_law_open" (defArgs s__law_open) (defBody s__law_open) (defScope s__law_open) .none kV30 dc30 pm30 an30 cd30 ct30), sl30⟩) (c30 : PySem.W.codeIn K cd30 "_law_open" = true) (k30 : PySem.W.keepIn K (.ref f30) = true)
    (a31 : PySem.W.nsIn K mainGlobals "_law_next" = some (some (.ref f31))) (l31 : K.lookup f31 = some ⟨oc31, od31, .func (PySem.W.fnOf "_law_next" "_law_next" (defArgs s__law_next) (defBody s__law_next) (defScope s__law_next) .none kV31 dc31 pm31 an31 cd31 ct31), sl31⟩) (c31 : PySem.W.codeIn K cd31 "_law_next" = true) (k31 : PySem.W.keepIn K (.ref f31) = true)
    (a32 : PySem.W.nsIn K mainGlobals "law" = some (some (.ref f32))) (l32 : K.lookup f32 = some ⟨oc32, od32, .func (PySem.W.fnOf "law" "law" (defArgs s_law) (defBody s_law) (defScope s_law) .none kV32 dc32 pm32 an32 cd32 ct32), sl32⟩) (c32 : PySem.W.codeIn K cd32 "law" = true) (k32 : PySem.W.keepIn K (.ref f32) = true)
    {C0 : Addr} (aC0 : PySem.W.nsIn K mainGlobals "BadClause" = some (some (.ref C0))) (xC0 : PySem.W.excIn K C0 [.type "ValueError", .type "Exception", .type "BaseException", .type "object"] "ValueError.__new__" = true) (kC0 : PySem.W.keepIn K (.ref C0) = true) (bC0 : PySem.W.subIn K (.ref C0) (.type "BaseException") = some true) (tC0 : PySem.W.typeIn K (.ref C0) = some (.type "type")) (iC0 : PySem.W.isClsIn K C0 = true)
    {C1 : Addr} (aC1 : PySem.W.nsIn K mainGlobals "Forgotten" = some (some (.ref C1))) (xC1 : PySem.W.excIn K C1 [.type "ValueError", .type "Exception", .type "BaseException", .type "object"] "ValueError.__new__" = true) (kC1 : PySem.W.keepIn K (.ref C1) = true) (bC1 : PySem.W.subIn K (.ref C1) (.type "BaseException") = some true) (tC1 : PySem.W.typeIn K (.ref C1) = some (.type "type")) (iC1 : PySem.W.isClsIn K C1 = true)
    {C2 : Addr} (aC2 : PySem.W.nsIn K mainGlobals "Closed" = some (some (.ref C2))) (xC2 : PySem.W.excIn K C2 [.type "ValueError", .type "Exception", .type "BaseException", .type "object"] "ValueError.__new__" = true) (kC2 : PySem.W.keepIn K (.ref C2) = true) (bC2 : PySem.W.subIn K (.ref C2) (.type "BaseException") = some true) (tC2 : PySem.W.typeIn K (.ref C2) = some (.type "type")) (iC2 : PySem.W.isClsIn K C2 = true)
    (z0 : PySem.W.nsIn K mainGlobals "abs" = some none)
    (z1 : PySem.W.nsIn K mainGlobals "int" = some none)
    (z2 : PySem.W.nsIn K mainGlobals "isinstance" = some none)
    (z3 : PySem.W.nsIn K mainGlobals "len" = some none)
    (z4 : PySem.W.nsIn K mainGlobals "list" = some none)
    (z5 : PySem.W.nsIn K mainGlobals "range" = some none)
    (z6 : PySem.W.nsIn K mainGlobals "tuple" = some none)
    (y0 : PySem.W.nsIn K mainGlobals "MOST_CLAUSE_NODES" = some (some (.int 200 tk0)))
    {kt3 : Tok} {kt4 : Tok} {kt5 : Tok} {ka2 : Addr} {kd2 : Option Addr} {kn2 : Nat} {ks2 : Array (Option Value)} {ka1 : Addr} {kd1 : Option Addr} {kn1 : Nat} {ks1 : Array (Option Value)}
    (y1 : PySem.W.nsIn K mainGlobals "TRUE" = some (some (.ref ka1)))
    (kh2 : K.lookup ka2 = some ⟨.type "tuple", kd2, .seq #[.str "f" kt3, .str "true" kt4, .int 0 kt5] kn2, ks2⟩)
    (kh1 : K.lookup ka1 = some ⟨.type "tuple", kd1, .seq #[.ref ka2] kn1, ks1⟩)
    {kt7 : Tok} {kt8 : Tok} {kt9 : Tok} {ka6 : Addr} {kd6 : Option Addr} {kn6 : Nat} {ks6 : Array (Option Value)}
    (y2 : PySem.W.nsIn K mainGlobals "CLAUSE_SYMBOL" = some (some (.ref ka6)))
    (kh6 : K.lookup ka6 = some ⟨.type "tuple", kd6, .seq #[.str "f" kt7, .str ":-" kt8, .int 2 kt9] kn6, ks6⟩)
    {kt12 : Tok} {kt13 : Tok} {ka11 : Addr} {kd11 : Option Addr} {kn11 : Nat} {ks11 : Array (Option Value)} {kt15 : Tok} {kt16 : Tok} {ka14 : Addr} {kd14 : Option Addr} {kn14 : Nat} {ks14 : Array (Option Value)} {kt18 : Tok} {kt19 : Tok} {ka17 : Addr} {kd17 : Option Addr} {kn17 : Nat} {ks17 : Array (Option Value)} {kt21 : Tok} {kt22 : Tok} {ka20 : Addr} {kd20 : Option Addr} {kn20 : Nat} {ks20 : Array (Option Value)} {kt24 : Tok} {kt25 : Tok} {ka23 : Addr} {kd23 : Option Addr} {kn23 : Nat} {ks23 : Array (Option Value)} {kt27 : Tok} {kt28 : Tok} {ka26 : Addr} {kd26 : Option Addr} {kn26 : Nat} {ks26 : Array (Option Value)} {kt30 : Tok} {kt31 : Tok} {ka29 : Addr} {kd29 : Option Addr} {kn29 : Nat} {ks29 : Array (Option Value)} {kt33 : Tok} {kt34 : Tok} {ka32 : Addr} {kd32 : Option Addr} {kn32 : Nat} {ks32 : Array (Option Value)} {kt36 : Tok} {kt37 : Tok} {ka35 : Addr} {kd35 : Option Addr} {kn35 : Nat} {ks35 : Array (Option Value)} {kt39 : Tok} {kt40 : Tok} {ka38 : Addr} {kd38 : Option Addr} {kn38 : Nat} {ks38 : Array (Option Value)} {kt42 : Tok} {kt43 : Tok} {ka41 : Addr} {kd41 : Option Addr} {kn41 : Nat} {ks41 : Array (Option Value)} {kt45 : Tok} {kt46 : Tok} {ka44 : Addr} {kd44 : Option Addr} {kn44 : Nat} {ks44 : Array (Option Value)} {kt48 : Tok} {kt49 : Tok} {ka47 : Addr} {kd47 : Option Addr} {kn47 : Nat} {ks47 : Array (Option Value)} {kt51 : Tok} {kt52 : Tok} {ka50 : Addr} {kd50 : Option Addr} {kn50 : Nat} {ks50 : Array (Option Value)} {kt54 : Tok} {kt55 : Tok} {ka53 : Addr} {kd53 : Option Addr} {kn53 : Nat} {ks53 : Array (Option Value)} {kt57 : Tok} {kt58 : Tok} {ka56 : Addr} {kd56 : Option Addr} {kn56 : Nat} {ks56 : Array (Option Value)} {kt60 : Tok} {kt61 : Tok} {ka59 : Addr} {kd59 : Option Addr} {kn59 : Nat} {ks59 : Array (Option Value)} {kt63 : Tok} {kt64 : Tok} {ka62 : Addr} {kd62 : Option Addr} {kn62 : Nat} {ks62 : Array (Option Value)} {ka10 : Addr} {kd10 : Option Addr} {kn10 : Nat} {ks10 : Array (Option Value)}
    (y3 : PySem.W.nsIn K mainGlobals "CONTROL" = some (some (.ref ka10)))
    (kh11 : K.lookup ka11 = some ⟨.type "tuple", kd11, .seq #[.str "true" kt12, .int 0 kt13] kn11, ks11⟩)
    (kh14 : K.lookup ka14 = some ⟨.type "tuple", kd14, .seq #[.str "fail" kt15, .int 0 kt16] kn14, ks14⟩)
    (kh17 : K.lookup ka17 = some ⟨.type "tuple", kd17, .seq #[.str "!" kt18, .int 0 kt19] kn17, ks17⟩)
    (kh20 : K.lookup ka20 = some ⟨.type "tuple", kd20, .seq #[.str "," kt21, .int 2 kt22] kn20, ks20⟩)
    (kh23 : K.lookup ka23 = some ⟨.type "tuple", kd23, .seq #[.str ";" kt24, .int 2 kt25] kn23, ks23⟩)
    (kh26 : K.lookup ka26 = some ⟨.type "tuple", kd26, .seq #[.str "->" kt27, .int 2 kt28] kn26, ks26⟩)
    (kh29 : K.lookup ka29 = some ⟨.type "tuple", kd29, .seq #[.str "\\+" kt30, .int 1 kt31] kn29, ks29⟩)
    (kh32 : K.lookup ka32 = some ⟨.type "tuple", kd32, .seq #[.str "call" kt33, .int 1 kt34] kn32, ks32⟩)
    (kh35 : K.lookup ka35 = some ⟨.type "tuple", kd35, .seq #[.str "call" kt36, .int 2 kt37] kn35, ks35⟩)
    (kh38 : K.lookup ka38 = some ⟨.type "tuple", kd38, .seq #[.str "call" kt39, .int 3 kt40] kn38, ks38⟩)
    (kh41 : K.lookup ka41 = some ⟨.type "tuple", kd41, .seq #[.str "call" kt42, .int 4 kt43] kn41, ks41⟩)
    (kh44 : K.lookup ka44 = some ⟨.type "tuple", kd44, .seq #[.str "call" kt45, .int 5 kt46] kn44, ks44⟩)
    (kh47 : K.lookup ka47 = some ⟨.type "tuple", kd47, .seq #[.str "call" kt48, .int 6 kt49] kn47, ks47⟩)
    (kh50 : K.lookup ka50 = some ⟨.type "tuple", kd50, .seq #[.str "call" kt51, .int 7 kt52] kn50, ks50⟩)
    (kh53 : K.lookup ka53 = some ⟨.type "tuple", kd53, .seq #[.str "call" kt54, .int 8 kt55] kn53, ks53⟩)
    (kh56 : K.lookup ka56 = some ⟨.type "tuple", kd56, .seq #[.str "catch" kt57, .int 3 kt58] kn56, ks56⟩)
    (kh59 : K.lookup ka59 = some ⟨.type "tuple", kd59, .seq #[.str "findall" kt60, .int 3 kt61] kn59, ks59⟩)
    (kh62 : K.lookup ka62 = some ⟨.type "tuple", kd62, .seq #[.str "throw" kt63, .int 1 kt64] kn62, ks62⟩)
    (kh10 : K.lookup ka10 = some ⟨.type "tuple", kd10, .seq #[.ref ka11, .ref ka14, .ref ka17, .ref ka20, .ref ka23, .ref ka26, .ref ka29, .ref ka32, .ref ka35, .ref ka38, .ref ka41, .ref ka44, .ref ka47, .ref ka50, .ref ka53, .ref ka56, .ref ka59, .ref ka62] kn10, ks10⟩)
    {kt67 : Tok} {kt68 : Tok} {ka66 : Addr} {kd66 : Option Addr} {kn66 : Nat} {ks66 : Array (Option Value)} {kt70 : Tok} {kt71 : Tok} {ka69 : Addr} {kd69 : Option Addr} {kn69 : Nat} {ks69 : Array (Option Value)} {kt73 : Tok} {kt74 : Tok} {ka72 : Addr} {kd72 : Option Addr} {kn72 : Nat} {ks72 : Array (Option Value)} {kt76 : Tok} {kt77 : Tok} {ka75 : Addr} {kd75 : Option Addr} {kn75 : Nat} {ks75 : Array (Option Value)} {kt79 : Tok} {kt80 : Tok} {ka78 : Addr} {kd78 : Option Addr} {kn78 : Nat} {ks78 : Array (Option Value)} {kt82 : Tok} {kt83 : Tok} {ka81 : Addr} {kd81 : Option Addr} {kn81 : Nat} {ks81 : Array (Option Value)} {kt85 : Tok} {kt86 : Tok} {ka84 : Addr} {kd84 : Option Addr} {kn84 : Nat} {ks84 : Array (Option Value)} {kt88 : Tok} {kt89 : Tok} {ka87 : Addr} {kd87 : Option Addr} {kn87 : Nat} {ks87 : Array (Option Value)} {kt91 : Tok} {kt92 : Tok} {ka90 : Addr} {kd90 : Option Addr} {kn90 : Nat} {ks90 : Array (Option Value)} {kt94 : Tok} {kt95 : Tok} {ka93 : Addr} {kd93 : Option Addr} {kn93 : Nat} {ks93 : Array (Option Value)} {kt97 : Tok} {kt98 : Tok} {ka96 : Addr} {kd96 : Option Addr} {kn96 : Nat} {ks96 : Array (Option Value)} {kt100 : Tok} {kt101 : Tok} {ka99 : Addr} {kd99 : Option Addr} {kn99 : Nat} {ks99 : Array (Option Value)} {kt103 : Tok} {kt104 : Tok} {ka102 : Addr} {kd102 : Option Addr} {kn102 : Nat} {ks102 : Array (Option Value)} {kt106 : Tok} {kt107 : Tok} {ka105 : Addr} {kd105 : Option Addr} {kn105 : Nat} {ks105 : Array (Option Value)} {kt109 : Tok} {kt110 : Tok} {ka108 : Addr} {kd108 : Option Addr} {kn108 : Nat} {ks108 : Array (Option Value)} {kt112 : Tok} {kt113 : Tok} {ka111 : Addr} {kd111 : Option Addr} {kn111 : Nat} {ks111 : Array (Option Value)} {kt115 : Tok} {kt116 : Tok} {ka114 : Addr} {kd114 : Option Addr} {kn114 : Nat} {ks114 : Array (Option Value)} {kt118 : Tok} {kt119 : Tok} {ka117 : Addr} {kd117 : Option Addr} {kn117 : Nat} {ks117 : Array (Option Value)} {kt121 : Tok} {kt122 : Tok} {ka120 : Addr} {kd120 : Option Addr} {kn120 : Nat} {ks120 : Array (Option Value)} {kt124 : Tok} {kt125 : Tok} {ka123 : Addr} {kd123 : Option Addr} {kn123 : Nat} {ks123 : Array (Option Value)} {kt127 : Tok} {kt128 : Tok} {ka126 : Addr} {kd126 : Option Addr} {kn126 : Nat} {ks126 : Array (Option Value)} {kt130 : Tok} {kt131 : Tok} {ka129 : Addr} {kd129 : Option Addr} {kn129 : Nat} {ks129 : Array (Option Value)} {kt133 : Tok} {kt134 : Tok} {ka132 : Addr} {kd132 : Option Addr} {kn132 : Nat} {ks132 : Array (Option Value)} {kt136 : Tok} {kt137 : Tok} {ka135 : Addr} {kd135 : Option Addr} {kn135 : Nat} {ks135 : Array (Option Value)} {kt139 : Tok} {kt140 : Tok} {ka138 : Addr} {kd138 : Option Addr} {kn138 : Nat} {ks138 : Array (Option Value)} {kt142 : Tok} {kt143 : Tok} {ka141 : Addr} {kd141 : Option Addr} {kn141 : Nat} {ks141 : Array (Option Value)} {kt145 : Tok} {kt146 : Tok} {ka144 : Addr} {kd144 : Option Addr} {kn144 : Nat} {ks144 : Array (Option Value)} {ka65 : Addr} {kd65 : Option Addr} {kn65 : Nat} {ks65 : Array (Option Value)}
    (y4 : PySem.W.nsIn K mainGlobals "BUILT_IN" = some (some (.ref ka65)))
    (kh66 : K.lookup ka66 = some ⟨.type "tuple", kd66, .seq #[.str "=" kt67, .int 2 kt68] kn66, ks66⟩)
    (kh69 : K.lookup ka69 = some ⟨.type "tuple", kd69, .seq #[.str "\\=" kt70, .int 2 kt71] kn69, ks69⟩)
    (kh72 : K.lookup ka72 = some ⟨.type "tuple", kd72, .seq #[.str "==" kt73, .int 2 kt74] kn72, ks72⟩)
    (kh75 : K.lookup ka75 = some ⟨.type "tuple", kd75, .seq #[.str "\\==" kt76, .int 2 kt77] kn75, ks75⟩)
    (kh78 : K.lookup ka78 = some ⟨.type "tuple", kd78, .seq #[.str "@<" kt79, .int 2 kt80] kn78, ks78⟩)
    (kh81 : K.lookup ka81 = some ⟨.type "tuple", kd81, .seq #[.str "compare" kt82, .int 3 kt83] kn81, ks81⟩)
    (kh84 : K.lookup ka84 = some ⟨.type "tuple", kd84, .seq #[.str "var" kt85, .int 1 kt86] kn84, ks84⟩)
    (kh87 : K.lookup ka87 = some ⟨.type "tuple", kd87, .seq #[.str "nonvar" kt88, .int 1 kt89] kn87, ks87⟩)
    (kh90 : K.lookup ka90 = some ⟨.type "tuple", kd90, .seq #[.str "atom" kt91, .int 1 kt92] kn90, ks90⟩)
    (kh93 : K.lookup ka93 = some ⟨.type "tuple", kd93, .seq #[.str "integer" kt94, .int 1 kt95] kn93, ks93⟩)
    (kh96 : K.lookup ka96 = some ⟨.type "tuple", kd96, .seq #[.str "callable" kt97, .int 1 kt98] kn96, ks96⟩)
    (kh99 : K.lookup ka99 = some ⟨.type "tuple", kd99, .seq #[.str "functor" kt100, .int 3 kt101] kn99, ks99⟩)
    (kh102 : K.lookup ka102 = some ⟨.type "tuple", kd102, .seq #[.str "arg" kt103, .int 3 kt104] kn102, ks102⟩)
    (kh105 : K.lookup ka105 = some ⟨.type "tuple", kd105, .seq #[.str "=.." kt106, .int 2 kt107] kn105, ks105⟩)
    (kh108 : K.lookup ka108 = some ⟨.type "tuple", kd108, .seq #[.str "copy_term" kt109, .int 2 kt110] kn108, ks108⟩)
    (kh111 : K.lookup ka111 = some ⟨.type "tuple", kd111, .seq #[.str "sort" kt112, .int 2 kt113] kn111, ks111⟩)
    (kh114 : K.lookup ka114 = some ⟨.type "tuple", kd114, .seq #[.str "is" kt115, .int 2 kt116] kn114, ks114⟩)
    (kh117 : K.lookup ka117 = some ⟨.type "tuple", kd117, .seq #[.str "=:=" kt118, .int 2 kt119] kn117, ks117⟩)
    (kh120 : K.lookup ka120 = some ⟨.type "tuple", kd120, .seq #[.str "<" kt121, .int 2 kt122] kn120, ks120⟩)
    (kh123 : K.lookup ka123 = some ⟨.type "tuple", kd123, .seq #[.str "=<" kt124, .int 2 kt125] kn123, ks123⟩)
    (kh126 : K.lookup ka126 = some ⟨.type "tuple", kd126, .seq #[.str "write" kt127, .int 1 kt128] kn126, ks126⟩)
    (kh129 : K.lookup ka129 = some ⟨.type "tuple", kd129, .seq #[.str "nl" kt130, .int 0 kt131] kn129, ks129⟩)
    (kh132 : K.lookup ka132 = some ⟨.type "tuple", kd132, .seq #[.str "asserta" kt133, .int 1 kt134] kn132, ks132⟩)
    (kh135 : K.lookup ka135 = some ⟨.type "tuple", kd135, .seq #[.str "assertz" kt136, .int 1 kt137] kn135, ks135⟩)
    (kh138 : K.lookup ka138 = some ⟨.type "tuple", kd138, .seq #[.str "retract" kt139, .int 1 kt140] kn138, ks138⟩)
    (kh141 : K.lookup ka141 = some ⟨.type "tuple", kd141, .seq #[.str "tabled" kt142, .int 1 kt143] kn141, ks141⟩)
    (kh144 : K.lookup ka144 = some ⟨.type "tuple", kd144, .seq #[.str "solve" kt145, .int 2 kt146] kn144, ks144⟩)
    (kh65 : K.lookup ka65 = some ⟨.type "tuple", kd65, .seq #[.ref ka66, .ref ka69, .ref ka72, .ref ka75, .ref ka78, .ref ka81, .ref ka84, .ref ka87, .ref ka90, .ref ka93, .ref ka96, .ref ka99, .ref ka102, .ref ka105, .ref ka108, .ref ka111, .ref ka114, .ref ka117, .ref ka120, .ref ka123, .ref ka126, .ref ka129, .ref ka132, .ref ka135, .ref ka138, .ref ka141, .ref ka144] kn65, ks65⟩)
    : ∃ fd : FuncData, (∀ (s : Shared) (v : Value), BindsTo s fd ⟨[v], []⟩ [("script", v)]) ∧ ∀ base : Heap, K.In base → base.Ns mainGlobals mg → FnOk l.prog w K mg base CX0 8 fa fd ["script"] (sp_law K) := by
  have e := hfa.symm.trans (PySem.W.mg_of X G a32)
  cases e
  have F1 := fun_mk (st := s_is_variable) l1 c1 k1
  have b1 := F1.binds (ps := ["node"]) fun _ _ _ _ _ _ us hl => match us, hl with | [_], _ => rfl
  have F2 := fun_mk (st := s_is_symbol) l2 c2 k2
  have b2 := F2.binds (ps := ["node"]) fun _ _ _ _ _ _ us hl => match us, hl with | [_], _ => rfl
  have F3 := fun_mk (st := s_arity_of) l3 c3 k3
  have b3 := F3.binds (ps := ["node"]) fun _ _ _ _ _ _ us hl => match us, hl with | [_], _ => rfl
  have F4 := fun_mk (st := s_end_of) l4 c4 k4
  have b4 := F4.binds (ps := ["nodes", "start"]) fun _ _ _ _ _ _ us hl => match us, hl with | [_, _], _ => rfl
  have F5 : FunD K "renumber" "renumber" (defArgs s_renumber) (defBody s_renumber) (defScope s_renumber) [V.int 0] [] f5 _ := ⟨⟨_, _, _, _, _, _, _, _, _, _, rfl, l5, c5, .inr ⟨by simp, _, _, [.int 0 tt5_0], _, rfl, t5, rfl, .cons (relInt _ _) (.nil)⟩, .inl rfl⟩, k5⟩
  have b5 := F5.binds1 (ps := ["term", "first"]) 1 0 (by simp) rfl fun T _ _ _ _ _ _ us its h1 h2 => match us, h1, its, h2 with | [_], _, [_], _ => ⟨_, rfl, rfl⟩
  have bf5 := F5.binds1 (ps := ["term", "first"]) 2 1 (by simp) rfl fun T _ _ _ _ _ _ us its h1 h2 => match us, h1, its, h2 with | [_, _], _, [_], _ => ⟨_, rfl, rfl⟩
  have F6 := fun_mk (st := s_is_control) l6 c6 k6
  have b6 := F6.binds (ps := ["name", "arity"]) fun _ _ _ _ _ _ us hl => match us, hl with | [_, _], _ => rfl
  have F7 := fun_mk (st := s_is_built_in) l7 c7 k7
  have b7 := F7.binds (ps := ["name", "arity"]) fun _ _ _ _ _ _ us hl => match us, hl with | [_, _], _ => rfl
  have F8 := fun_mk (st := s_split_clause) l8 c8 k8
  have b8 := F8.binds (ps := ["clause"]) fun _ _ _ _ _ _ us hl => match us, hl with | [_], _ => rfl
  have F9 := fun_mk (st := s_head_and_body) l9 c9 k9
  have b9 := F9.binds (ps := ["clause"]) fun _ _ _ _ _ _ us hl => match us, hl with | [_], _ => rfl
  have F10 := fun_mk (st := s_Database___init__) l10 c10 k10
  have b10 := F10.binds (ps := ["self"]) fun _ _ _ _ _ _ us hl => match us, hl with | [_], _ => rfl
  have F11 : FunD K "add" "Database.add" (defArgs s_Database_add) (defBody s_Database_add) (defScope s_Database_add) [] [("first", V.bl false)] f11 _ := ⟨⟨_, _, _, _, _, _, _, _, _, _, rfl, l11, c11, .inl ⟨rfl, rfl⟩, .inr ⟨_, rfl, fun q hq => by rw [List.mem_singleton.mp hq]; exact ⟨_, n11_first, rfl⟩⟩⟩, k11⟩
  have b11 := F11.binds0 (ps := ["self", "clause", "first"]) 2 (by simp) rfl fun D _ _ _ _ _ us ks hl hk => match us, hl, ks, hk with | [_, _], _, [_], _ => ⟨_, _, _, _, _, _, rfl, rfl, rfl⟩
  have F12 := fun_mk (st := s_Database_erase) l12 c12 k12
  have b12 := F12.binds (ps := ["self", "number"]) fun _ _ _ _ _ _ us hl => match us, hl with | [_, _], _ => rfl
  have F13 : FunD K "clauses" "Database.clauses" (defArgs s_Database_clauses) (defBody s_Database_clauses) (defScope s_Database_clauses) [] [("at", V.non)] f13 _ := ⟨⟨_, _, _, _, _, _, _, _, _, _, rfl, l13, c13, .inl ⟨rfl, rfl⟩, .inr ⟨_, rfl, fun q hq => by rw [List.mem_singleton.mp hq]; exact ⟨_, n13_at, rfl⟩⟩⟩, k13⟩
  have b13 := F13.binds0 (ps := ["self", "name", "arity", "at"]) 3 (by simp) rfl fun D _ _ _ _ _ us ks hl hk => match us, hl, ks, hk with | [_, _, _], _, [_], _ => ⟨_, _, _, _, _, _, rfl, rfl, rfl⟩
  have F14 : FunD K "open_call" "Database.open_call" (defArgs s_Database_open_call) (defBody s_Database_open_call) (defScope s_Database_open_call) [] [("erasing", V.bl false)] f14 _ := ⟨⟨_, _, _, _, _, _, _, _, _, _, rfl, l14, c14, .inl ⟨rfl, rfl⟩, .inr ⟨_, rfl, fun q hq => by rw [List.mem_singleton.mp hq]; exact ⟨_, n14_erasing, rfl⟩⟩⟩, k14⟩
  have b14 := F14.binds0 (ps := ["self", "name", "arity", "erasing"]) 3 (by simp) rfl fun D _ _ _ _ _ us ks hl hk => match us, hl, ks, hk with | [_, _, _], _, [_], _ => ⟨_, _, _, _, _, _, rfl, rfl, rfl⟩
  have F15 := fun_mk (st := s_Database_next_clause) l15 c15 k15
  have b15 := F15.binds (ps := ["self", "call"]) fun _ _ _ _ _ _ us hl => match us, hl with | [_, _], _ => rfl
  have F16 := fun_mk (st := s_Database__exists) l16 c16 k16
  have b16 := F16.binds (ps := ["self", "number"]) fun _ _ _ _ _ _ us hl => match us, hl with | [_, _], _ => rfl
  have F17 := fun_mk (st := s_Database__left) l17 c17 k17
  have b17 := F17.binds (ps := ["self", "call"]) fun _ _ _ _ _ _ us hl => match us, hl with | [_, _], _ => rfl
  have F18 := fun_mk (st := s__law_stream) l18 c18 k18
  have b18 := F18.binds (ps := ["script"]) fun _ _ _ _ _ _ us hl => match us, hl with | [_], _ => rfl
  have F19 := fun_mk (st := s__law_draw) l19 c19 k19
  have b19 := F19.binds (ps := ["stream", "many"]) fun _ _ _ _ _ _ us hl => match us, hl with | [_, _], _ => rfl
  have F20 := fun_mk (st := s__law_is_variable) l20 c20 k20
  have b20 := F20.binds (ps := ["node"]) fun _ _ _ _ _ _ us hl => match us, hl with | [_], _ => rfl
  have F21 := fun_mk (st := s__law_put) l21 c21 k21
  have b21 := F21.binds (ps := ["table", "term"]) fun _ _ _ _ _ _ us hl => match us, hl with | [_, _], _ => rfl
  have F22 := fun_mk (st := s__law_numbered) l22 c22 k22
  have b22 := F22.binds (ps := ["terms", "first"]) fun _ _ _ _ _ _ us hl => match us, hl with | [_, _], _ => rfl
  have F23 := fun_mk (st := s__law_stored) l23 c23 k23
  have b23 := F23.binds (ps := ["stream"]) fun _ _ _ _ _ _ us hl => match us, hl with | [_], _ => rfl
  have F24 := fun_mk (st := s__law_head) l24 c24 k24
  have b24 := F24.binds (ps := ["clause"]) fun _ _ _ _ _ _ us hl => match us, hl with | [_], _ => rfl
  have F25 := fun_mk (st := s__law_model) l25 c25 k25
  have b25 := F25.binds (ps := []) fun _ _ _ _ _ _ us hl => match us, hl with | [], _ => rfl
  have F26 := fun_mk (st := s__law_exists) l26 c26 k26
  have b26 := F26.binds (ps := ["row", "at"]) fun _ _ _ _ _ _ us hl => match us, hl with | [_, _], _ => rfl
  have F27 := fun_mk (st := s__law_add) l27 c27 k27
  have b27 := F27.binds (ps := ["model", "clause", "first"]) fun _ _ _ _ _ _ us hl => match us, hl with | [_, _, _], _ => rfl
  have F28 := fun_mk (st := s__law_erase) l28 c28 k28
  have b28 := F28.binds (ps := ["model", "number"]) fun _ _ _ _ _ _ us hl => match us, hl with | [_, _], _ => rfl
  have F29 := fun_mk (st := s__law_clauses) l29 c29 k29
  have b29 := F29.binds (ps := ["model", "name", "arity", "at"]) fun _ _ _ _ _ _ us hl => match us, hl with | [_, _, _, _], _ => rfl
  have F30 := fun_mk (st := s__law_open) l30 c30 k30
  have b30 := F30.binds (ps := ["model", "name", "arity", "erasing"]) fun _ _ _ _ _ _ us hl => match us, hl with | [_, _, _, _], _ => rfl
  have F31 := fun_mk (st := s__law_next) l31 c31 k31
  have b31 := F31.binds (ps := ["model", "call"]) fun _ _ _ _ _ _ us hl => match us, hl with | [_, _], _ => rfl
  have F32 := fun_mk (st := s_law) l32 c32 k32
  have E : Bi K mg := ⟨(by rw [clsA_of pa0]; exact ⟨pg0, phd0, po0, psa0⟩), (by rw [clsA_of pa0]; exact pn0_0), (by rw [clsA_of pa0]; exact pn0_1), (by rw [clsA_of pa0]; exact pn0_2), (by rw [clsA_of pa0]; exact pn0_3), (by rw [clsA_of pa0]; exact pn0_4), (by rw [clsA_of pa0]; exact pn0_5), (by rw [clsA_of pa0]; exact pn0_6), (by rw [clsA_of pa0]; exact pn0_7), (by rw [clsA_of pa0]; exact pn0_8), (by rw [clsA_of aC0]; exact ⟨PySem.W.mg_of X G aC0, xC0, kC0, bC0, tC0, iC0⟩), (by rw [clsA_of aC1]; exact ⟨PySem.W.mg_of X G aC1, xC1, kC1, bC1, tC1, iC1⟩), (by rw [clsA_of aC2]; exact ⟨PySem.W.mg_of X G aC2, xC2, kC2, bC2, tC2, iC2⟩), PySem.W.mg_none_of X G z0, PySem.W.mg_none_of X G z1, PySem.W.mg_none_of X G z2, PySem.W.mg_none_of X G z3, PySem.W.mg_none_of X G z4, PySem.W.mg_none_of X G z5, PySem.W.mg_none_of X G z6, ⟨_, PySem.W.mg_of X G y0, ⟨_, rfl⟩⟩, ⟨_, _, PySem.W.mg_of X G y1, (relRef _), (kt_of kh1 (by show 1 ≤ 1000; decide) (.cons (relRef _) .nil) (.cons (kt_of kh2 (by show 3 ≤ 1000; decide) (.cons (relStr _ _) (.cons (relStr _ _) (.cons (relInt _ _) .nil))) (.cons (.str _) (.cons (.str _) (.cons (.int _) .nil)))) .nil))⟩, ⟨_, _, PySem.W.mg_of X G y2, (relRef _), (kt_of kh6 (by show 3 ≤ 1000; decide) (.cons (relStr _ _) (.cons (relStr _ _) (.cons (relInt _ _) .nil))) (.cons (.str _) (.cons (.str _) (.cons (.int _) .nil))))⟩, ⟨_, _, PySem.W.mg_of X G y3, (relRef _), (kt_of kh10 (by show 18 ≤ 1000; decide) (.cons (relRef _) (.cons (relRef _) (.cons (relRef _) (.cons (relRef _) (.cons (relRef _) (.cons (relRef _) (.cons (relRef _) (.cons (relRef _) (.cons (relRef _) (.cons (relRef _) (.cons (relRef _) (.cons (relRef _) (.cons (relRef _) (.cons (relRef _) (.cons (relRef _) (.cons (relRef _) (.cons (relRef _) (.cons (relRef _) .nil)))))))))))))))))) (.cons (kt_of kh11 (by show 2 ≤ 1000; decide) (.cons (relStr _ _) (.cons (relInt _ _) .nil)) (.cons (.str _) (.cons (.int _) .nil))) (.cons (kt_of kh14 (by show 2 ≤ 1000; decide) (.cons (relStr _ _) (.cons (relInt _ _) .nil)) (.cons (.str _) (.cons (.int _) .nil))) (.cons (kt_of kh17 (by show 2 ≤ 1000; decide) (.cons (relStr _ _) (.cons (relInt _ _) .nil)) (.cons (.str _) (.cons (.int _) .nil))) (.cons (kt_of kh20 (by show 2 ≤ 1000; decide) (.cons (relStr _ _) (.cons (relInt _ _) .nil)) (.cons (.str _) (.cons (.int _) .nil))) (.cons (kt_of kh23 (by show 2 ≤ 1000; decide) (.cons (relStr _ _) (.cons (relInt _ _) .nil)) (.cons (.str _) (.cons (.int _) .nil))) (.cons (kt_of kh26 (by show 2 ≤ 1000; decide) (.cons (relStr _ _) (.cons (relInt _ _) .nil)) (.cons (.str _) (.cons (.int _) .nil))) (.cons (kt_of kh29 (by show 2 ≤ 1000; decide) (.cons (relStr _ _) (.cons (relInt _ _) .nil)) (.cons (.str _) (.cons (.int _) .nil))) (.cons (kt_of kh32 (by show 2 ≤ 1000; decide) (.cons (relStr _ _) (.cons (relInt _ _) .nil)) (.cons (.str _) (.cons (.int _) .nil))) (.cons (kt_of kh35 (by show 2 ≤ 1000; decide) (.cons (relStr _ _) (.cons (relInt _ _) .nil)) (.cons (.str _) (.cons (.int _) .nil))) (.cons (kt_of kh38 (by show 2 ≤ 1000; decide) (.cons (relStr _ _) (.cons (relInt _ _) .nil)) (.cons (.str _) (.cons (.int _) .nil))) (.cons (kt_of kh41 (by show 2 ≤ 1000; decide) (.cons (relStr _ _) (.cons (relInt _ _) .nil)) (.cons (.str _) (.cons (.int _) .nil))) (.cons (kt_of kh44 (by show 2 ≤ 1000; decide) (.cons (relStr _ _) (.cons (relInt _ _) .nil)) (.cons (.str _) (.cons (.int _) .nil))) (.cons (kt_of kh47 (by show 2 ≤ 1000; decide) (.cons (relStr _ _) (.cons (relInt _ _) .nil)) (.cons (.str _) (.cons (.int _) .nil))) (.cons (kt_of kh50 (by show 2 ≤ 1000; decide) (.cons (relStr _ _) (.cons (relInt _ _) .nil)) (.cons (.str _) (.cons (.int _) .nil))) (.cons (kt_of kh53 (by show 2 ≤ 1000; decide) (.cons (relStr _ _) (.cons (relInt _ _) .nil)) (.cons (.str _) (.cons (.int _) .nil))) (.cons (kt_of kh56 (by show 2 ≤ 1000; decide) (.cons (relStr _ _) (.cons (relInt _ _) .nil)) (.cons (.str _) (.cons (.int _) .nil))) (.cons (kt_of kh59 (by show 2 ≤ 1000; decide) (.cons (relStr _ _) (.cons (relInt _ _) .nil)) (.cons (.str _) (.cons (.int _) .nil))) (.cons (kt_of kh62 (by show 2 ≤ 1000; decide) (.cons (relStr _ _) (.cons (relInt _ _) .nil)) (.cons (.str _) (.cons (.int _) .nil))) .nil)))))))))))))))))))⟩, ⟨_, _, PySem.W.mg_of X G y4, (relRef _), (kt_of kh65 (by show 27 ≤ 1000; decide) (.cons (relRef _) (.cons (relRef _) (.cons (relRef _) (.cons (relRef _) (.cons (relRef _) (.cons (relRef _) (.cons (relRef _) (.cons (relRef _) (.cons (relRef _) (.cons (relRef _) (.cons (relRef _) (.cons (relRef _) (.cons (relRef _) (.cons (relRef _) (.cons (relRef _) (.cons (relRef _) (.cons (relRef _) (.cons (relRef _) (.cons (relRef _) (.cons (relRef _) (.cons (relRef _) (.cons (relRef _) (.cons (relRef _) (.cons (relRef _) (.cons (relRef _) (.cons (relRef _) (.cons (relRef _) .nil))))))))))))))))))))))))))) (.cons (kt_of kh66 (by show 2 ≤ 1000; decide) (.cons (relStr _ _) (.cons (relInt _ _) .nil)) (.cons (.str _) (.cons (.int _) .nil))) (.cons (kt_of kh69 (by show 2 ≤ 1000; decide) (.cons (relStr _ _) (.cons (relInt _ _) .nil)) (.cons (.str _) (.cons (.int _) .nil))) (.cons (kt_of kh72 (by show 2 ≤ 1000; decide) (.cons (relStr _ _) (.cons (relInt _ _) .nil)) (.cons (.str _) (.cons (.int _) .nil))) (.cons (kt_of kh75 (by show 2 ≤ 1000; decide) (.cons (relStr _ _) (.cons (relInt _ _) .nil)) (.cons (.str _) (.cons (.int _) .nil))) (.cons (kt_of kh78 (by show 2 ≤ 1000; decide) (.cons (relStr _ _) (.cons (relInt _ _) .nil)) (.cons (.str _) (.cons (.int _) .nil))) (.cons (kt_of kh81 (by show 2 ≤ 1000; decide) (.cons (relStr _ _) (.cons (relInt _ _) .nil)) (.cons (.str _) (.cons (.int _) .nil))) (.cons (kt_of kh84 (by show 2 ≤ 1000; decide) (.cons (relStr _ _) (.cons (relInt _ _) .nil)) (.cons (.str _) (.cons (.int _) .nil))) (.cons (kt_of kh87 (by show 2 ≤ 1000; decide) (.cons (relStr _ _) (.cons (relInt _ _) .nil)) (.cons (.str _) (.cons (.int _) .nil))) (.cons (kt_of kh90 (by show 2 ≤ 1000; decide) (.cons (relStr _ _) (.cons (relInt _ _) .nil)) (.cons (.str _) (.cons (.int _) .nil))) (.cons (kt_of kh93 (by show 2 ≤ 1000; decide) (.cons (relStr _ _) (.cons (relInt _ _) .nil)) (.cons (.str _) (.cons (.int _) .nil))) (.cons (kt_of kh96 (by show 2 ≤ 1000; decide) (.cons (relStr _ _) (.cons (relInt _ _) .nil)) (.cons (.str _) (.cons (.int _) .nil))) (.cons (kt_of kh99 (by show 2 ≤ 1000; decide) (.cons (relStr _ _) (.cons (relInt _ _) .nil)) (.cons (.str _) (.cons (.int _) .nil))) (.cons (kt_of kh102 (by show 2 ≤ 1000; decide) (.cons (relStr _ _) (.cons (relInt _ _) .nil)) (.cons (.str _) (.cons (.int _) .nil))) (.cons (kt_of kh105 (by show 2 ≤ 1000; decide) (.cons (relStr _ _) (.cons (relInt _ _) .nil)) (.cons (.str _) (.cons (.int _) .nil))) (.cons (kt_of kh108 (by show 2 ≤ 1000; decide) (.cons (relStr _ _) (.cons (relInt _ _) .nil)) (.cons (.str _) (.cons (.int _) .nil))) (.cons (kt_of kh111 (by show 2 ≤ 1000; decide) (.cons (relStr _ _) (.cons (relInt _ _) .nil)) (.cons (.str _) (.cons (.int _) .nil))) (.cons (kt_of kh114 (by show 2 ≤ 1000; decide) (.cons (relStr _ _) (.cons (relInt _ _) .nil)) (.cons (.str _) (.cons (.int _) .nil))) (.cons (kt_of kh117 (by show 2 ≤ 1000; decide) (.cons (relStr _ _) (.cons (relInt _ _) .nil)) (.cons (.str _) (.cons (.int _) .nil))) (.cons (kt_of kh120 (by show 2 ≤ 1000; decide) (.cons (relStr _ _) (.cons (relInt _ _) .nil)) (.cons (.str _) (.cons (.int _) .nil))) (.cons (kt_of kh123 (by show 2 ≤ 1000; decide) (.cons (relStr _ _) (.cons (relInt _ _) .nil)) (.cons (.str _) (.cons (.int _) .nil))) (.cons (kt_of kh126 (by show 2 ≤ 1000; decide) (.cons (relStr _ _) (.cons (relInt _ _) .nil)) (.cons (.str _) (.cons (.int _) .nil))) (.cons (kt_of kh129 (by show 2 ≤ 1000; decide) (.cons (relStr _ _) (.cons (relInt _ _) .nil)) (.cons (.str _) (.cons (.int _) .nil))) (.cons (kt_of kh132 (by show 2 ≤ 1000; decide) (.cons (relStr _ _) (.cons (relInt _ _) .nil)) (.cons (.str _) (.cons (.int _) .nil))) (.cons (kt_of kh135 (by show 2 ≤ 1000; decide) (.cons (relStr _ _) (.cons (relInt _ _) .nil)) (.cons (.str _) (.cons (.int _) .nil))) (.cons (kt_of kh138 (by show 2 ≤ 1000; decide) (.cons (relStr _ _) (.cons (relInt _ _) .nil)) (.cons (.str _) (.cons (.int _) .nil))) (.cons (kt_of kh141 (by show 2 ≤ 1000; decide) (.cons (relStr _ _) (.cons (relInt _ _) .nil)) (.cons (.str _) (.cons (.int _) .nil))) (.cons (kt_of kh144 (by show 2 ≤ 1000; decide) (.cons (relStr _ _) (.cons (relInt _ _) .nil)) (.cons (.str _) (.cons (.int _) .nil))) .nil))))))))))))))))))))))))))))⟩⟩
  refine ⟨PySem.W.fnOf "law" "law" (defArgs s_law) (defBody s_law) (defScope s_law) .none kV32 dc32 pm32 an32 cd32 ct32, fun s v => .of_eq rfl, fun base _ _ => ?_⟩
  have D1 : Has l.prog w K mg base 1 "is_variable" ["node"] (sp_is_variable K) := ⟨_, _, ok_is_variable F1 E , PySem.W.mg_of X G a1, k1, b1⟩
  have D2 : Has l.prog w K mg base 1 "is_symbol" ["node"] (sp_is_symbol K) := ⟨_, _, ok_is_symbol F2 E , PySem.W.mg_of X G a2, k2, b2⟩
  have D6 : Has l.prog w K mg base 1 "is_control" ["name", "arity"] (sp_is_control K) := ⟨_, _, ok_is_control F6 E , PySem.W.mg_of X G a6, k6, b6⟩
  have D7 : Has l.prog w K mg base 1 "is_built_in" ["name", "arity"] (sp_is_built_in K) := ⟨_, _, ok_is_built_in F7 E , PySem.W.mg_of X G a7, k7, b7⟩
  have D10 : HasI l.prog w K mg base 1 "Database" ["self"] (sp_Database___init__ K) := ⟨_, _, ok_Database___init__ F10 E , by rw [clsA_of pa0]; exact ⟨pm0k, a10, i10, pk0⟩, by rw [clsA_of pa0]; exact PySem.W.mg_of X G pa0, b10⟩
  have D13 : HasMKX l.prog w K mg base 1 "Database" "clauses" ["self", "name", "arity", "at"] [("at", V.non)] (sp_Database_clauses K) := ⟨_, _, ok_Database_clauses F13 E , by rw [clsA_of pa0]; exact ⟨a13, i13, k13⟩, b13⟩
  have D16 : HasM l.prog w K mg base 1 "Database" "_exists" ["self", "number"] (sp_Database__exists K) := ⟨_, _, ok_Database__exists F16 E , by rw [clsA_of pa0]; exact ⟨a16, i16, k16⟩, b16⟩
  have D17 : HasMX l.prog w K mg base 1 "Database" "_left" ["self", "call"] (sp_Database__left K) := ⟨_, _, ok_Database__left F17 E , by rw [clsA_of pa0]; exact ⟨a17, i17, k17⟩, b17⟩
  have D18 : Has l.prog w K mg base 1 "_law_stream" ["script"] (sp__law_stream K) := ⟨_, _, ok__law_stream F18 E , PySem.W.mg_of X G a18, k18, b18⟩
  have D19 : Has l.prog w K mg base 1 "_law_draw" ["stream", "many"] (sp__law_draw K) := ⟨_, _, ok__law_draw F19 E , PySem.W.mg_of X G a19, k19, b19⟩
  have D20 : Has l.prog w K mg base 1 "_law_is_variable" ["node"] (sp__law_is_variable K) := ⟨_, _, ok__law_is_variable F20 E , PySem.W.mg_of X G a20, k20, b20⟩
  have D24 : Has l.prog w K mg base 1 "_law_head" ["clause"] (sp__law_head K) := ⟨_, _, ok__law_head F24 E , PySem.W.mg_of X G a24, k24, b24⟩
  have D25 : Has l.prog w K mg base 1 "_law_model" [] (sp__law_model K) := ⟨_, _, ok__law_model F25 E , PySem.W.mg_of X G a25, k25, b25⟩
  have D26 : Has l.prog w K mg base 1 "_law_exists" ["row", "at"] (sp__law_exists K) := ⟨_, _, ok__law_exists F26 E , PySem.W.mg_of X G a26, k26, b26⟩
  have D28 : Has l.prog w K mg base 1 "_law_erase" ["model", "number"] (sp__law_erase K) := ⟨_, _, ok__law_erase F28 E , PySem.W.mg_of X G a28, k28, b28⟩
  have D31 : Has l.prog w K mg base 1 "_law_next" ["model", "call"] (sp__law_next K) := ⟨_, _, ok__law_next F31 E , PySem.W.mg_of X G a31, k31, b31⟩
  have D3 : Has l.prog w K mg base 2 "arity_of" ["node"] (sp_arity_of K) := ⟨_, _, ok_arity_of F3 E D2, PySem.W.mg_of X G a3, k3, b3⟩
  have D5 : HasD l.prog w K mg base 2 "renumber" ["term", "first"] [V.int 0] (sp_renumber K) := ⟨_, _, ok_renumber F5 E D1, PySem.W.mg_of X G a5, k5, b5, bf5⟩
  have D12 : HasM l.prog w K mg base 2 "Database" "erase" ["self", "number"] (sp_Database_erase K) := ⟨_, _, ok_Database_erase F12 E D16, by rw [clsA_of pa0]; exact ⟨a12, i12, k12⟩, b12⟩
  have D14 : HasMK l.prog w K mg base 2 "Database" "open_call" ["self", "name", "arity", "erasing"] [("erasing", V.bl false)] (sp_Database_open_call K) := ⟨_, _, ok_Database_open_call F14 E D16, by rw [clsA_of pa0]; exact ⟨a14, i14, k14⟩, b14⟩
  have D15 : HasMX l.prog w K mg base 2 "Database" "next_clause" ["self", "call"] (sp_Database_next_clause K) := ⟨_, _, ok_Database_next_clause F15 E D17 D16, by rw [clsA_of pa0]; exact ⟨a15, i15, k15⟩, b15⟩
  have D21 : Has l.prog w K mg base 2 "_law_put" ["table", "term"] (sp__law_put K) := ⟨_, _, ok__law_put F21 E D20, PySem.W.mg_of X G a21, k21, b21⟩
  have D23 : Has l.prog w K mg base 2 "_law_stored" ["stream"] (sp__law_stored K) := ⟨_, _, ok__law_stored F23 E D19, PySem.W.mg_of X G a23, k23, b23⟩
  have D29 : Has l.prog w K mg base 2 "_law_clauses" ["model", "name", "arity", "at"] (sp__law_clauses K) := ⟨_, _, ok__law_clauses F29 E D26 D24, PySem.W.mg_of X G a29, k29, b29⟩
  have D4 : Has l.prog w K mg base 3 "end_of" ["nodes", "start"] (sp_end_of K) := ⟨_, _, ok_end_of F4 E D3, PySem.W.mg_of X G a4, k4, b4⟩
  have D22 : Has l.prog w K mg base 3 "_law_numbered" ["terms", "first"] (sp__law_numbered K) := ⟨_, _, ok__law_numbered F22 E D20 D21, PySem.W.mg_of X G a22, k22, b22⟩
  have D30 : Has l.prog w K mg base 3 "_law_open" ["model", "name", "arity", "erasing"] (sp__law_open K) := ⟨_, _, ok__law_open F30 E D29, PySem.W.mg_of X G a30, k30, b30⟩
  have D8 : Has l.prog w K mg base 4 "split_clause" ["clause"] (sp_split_clause K) := ⟨_, _, ok_split_clause F8 E D4, PySem.W.mg_of X G a8, k8, b8⟩
  have D27 : Has l.prog w K mg base 4 "_law_add" ["model", "clause", "first"] (sp__law_add K) := ⟨_, _, ok__law_add F27 E D22, PySem.W.mg_of X G a27, k27, b27⟩
  have D9 : HasX l.prog w K mg base 5 "head_and_body" ["clause"] (sp_head_and_body K) := ⟨_, _, ok_head_and_body F9 E D8 D2 D7 D6, PySem.W.mg_of X G a9, k9, b9⟩
  have D11 : HasMKX l.prog w K mg base 6 "Database" "add" ["self", "clause", "first"] [("first", V.bl false)] (sp_Database_add K) := ⟨_, _, ok_Database_add F11 E D9 D5, by rw [clsA_of pa0]; exact ⟨a11, i11, k11⟩, b11⟩
  exact ok_law F32 E D18 D10 D25 D19 D23 D11 D27 D12 D28 D24 D14 D30 D13 D29 D15 D31
end My
open PySem PySem.W PyProof.Rows
set_option maxRecDepth 100000 in
set_option maxHeartbeats 0 in
theorem PySem.Challenge.cw_hornbook_k45_plain_defaults_holds : PySem.Challenge.rw_hornbook_k45_plain_defaults.Holds := by
  w_on; o_law; k_head; (case hw => w_witness2)
  k_fill
  refine L2.walk_of (l := PySem.Challenge.rw_hornbook_k45_plain_defaults) (n := 63) (k := 8) (x := "script") (CX := fun _ => L2.CX0) (sp := fun w => My.sp_law _) rfl (by decide) rfl ⟨rfl, by decide, by decide⟩ (fun w h Y => PySem.W.kIn_of Y) ?F (fun _ _ a ns hl _ hS => ⟨a, ns, rfl, hS, hl, fun _ => rfl⟩) (fun _ _ _ _ _ h => h)
  case F =>
    intro w mg fa h KX G hmg
    refine' My.all_mk KX G hmg ?pa0 ?pg0 ?phd0 ?po0 ?psa0 ?pm0k ?pk0 ?pn0_0 ?pn0_1 ?pn0_2 ?pn0_3 ?pn0_4 ?pn0_5 ?pn0_6 ?pn0_7 ?pn0_8 ?a1 ?l1 ?c1 ?k1 ?a2 ?l2 ?c2 ?k2 ?a3 ?l3 ?c3 ?k3 ?a4 ?l4 ?c4 ?k4 ?a5 ?l5 ?c5 ?k5 ?t5 ?a6 ?l6 ?c6 ?k6 ?a7 ?l7 ?c7 ?k7 ?a8 ?l8 ?c8 ?k8 ?a9 ?l9 ?c9 ?k9 ?i10 ?a10 ?l10 ?c10 ?k10 ?i11 ?a11 ?l11 ?c11 ?k11 ?n11_first ?i12 ?a12 ?l12 ?c12 ?k12 ?i13 ?a13 ?l13 ?c13 ?k13 ?n13_at ?i14 ?a14 ?l14 ?c14 ?k14 ?n14_erasing ?i15 ?a15 ?l15 ?c15 ?k15 ?i16 ?a16 ?l16 ?c16 ?k16 ?i17 ?a17 ?l17 ?c17 ?k17 ?a18 ?l18 ?c18 ?k18 ?a19 ?l19 ?c19 ?k19 ?a20 ?l20 ?c20 ?k20 ?a21 ?l21 ?c21 ?k21 ?a22 ?l22 ?c22 ?k22 ?a23 ?l23 ?c23 ?k23 ?a24 ?l24 ?c24 ?k24 ?a25 ?l25 ?c25 ?k25 ?a26 ?l26 ?c26 ?k26 ?a27 ?l27 ?c27 ?k27 ?a28 ?l28 ?c28 ?k28 ?a29 ?l29 ?c29 ?k29 ?a30 ?l30 ?c30 ?k30 ?a31 ?l31 ?c31 ?k31 ?a32 ?l32 ?c32 ?k32 ?aC0 ?xC0 ?kC0 ?bC0 ?tC0 ?iC0 ?aC1 ?xC1 ?kC1 ?bC1 ?tC1 ?iC1 ?aC2 ?xC2 ?kC2 ?bC2 ?tC2 ?iC2 ?z0 ?z1 ?z2 ?z3 ?z4 ?z5 ?z6 ?y0 ?y1 ?kh2 ?kh1 ?y2 ?kh6 ?y3 ?kh11 ?kh14 ?kh17 ?kh20 ?kh23 ?kh26 ?kh29 ?kh32 ?kh35 ?kh38 ?kh41 ?kh44 ?kh47 ?kh50 ?kh53 ?kh56 ?kh59 ?kh62 ?kh10 ?y4 ?kh66 ?kh69 ?kh72 ?kh75 ?kh78 ?kh81 ?kh84 ?kh87 ?kh90 ?kh93 ?kh96 ?kh99 ?kh102 ?kh105 ?kh108 ?kh111 ?kh114 ?kh117 ?kh120 ?kh123 ?kh126 ?kh129 ?kh132 ?kh135 ?kh138 ?kh141 ?kh144 ?kh65
    (case pa0 => k_is)
    (case pg0 => k_is)
    (case phd0 => k_is)
    (case po0 => k_is)
    (case psa0 => k_is)
    (case pm0k => k_is)
    (case pk0 => k_is)
    (case pn0_0 => k_is)
    (case pn0_1 => k_is)
    (case pn0_2 => k_is)
    (case pn0_3 => k_is)
    (case pn0_4 => k_is)
    (case pn0_5 => k_is)
    (case pn0_6 => k_is)
    (case pn0_7 => k_is)
    (case pn0_8 => k_is)
    (case a1 => k_is)
    (case l1 => k_is)
    (case c1 => k_is)
    (case k1 => k_is)
    (case a2 => k_is)
    (case l2 => k_is)
    (case c2 => k_is)
    (case k2 => k_is)
    (case a3 => k_is)
    (case l3 => k_is)
    (case c3 => k_is)
    (case k3 => k_is)
    (case a4 => k_is)
    (case l4 => k_is)
    (case c4 => k_is)
    (case k4 => k_is)
    (case a5 => k_is)
    (case l5 => k_is)
    (case c5 => k_is)
    (case k5 => k_is)
    (case t5 => k_is)
    (case a6 => k_is)
    (case l6 => k_is)
    (case c6 => k_is)
    (case k6 => k_is)
    (case a7 => k_is)
    (case l7 => k_is)
    (case c7 => k_is)
    (case k7 => k_is)
    (case a8 => k_is)
    (case l8 => k_is)
    (case c8 => k_is)
    (case k8 => k_is)
    (case a9 => k_is)
    (case l9 => k_is)
    (case c9 => k_is)
    (case k9 => k_is)
    (case i10 => k_is)
    (case a10 => k_is)
    (case l10 => k_is)
    (case c10 => k_is)
    (case k10 => k_is)
    (case i11 => k_is)
    (case a11 => k_is)
    (case l11 => k_is)
    (case c11 => k_is)
    (case k11 => k_is)
    (case n11_first => k_is)
    (case i12 => k_is)
    (case a12 => k_is)
    (case l12 => k_is)
    (case c12 => k_is)
    (case k12 => k_is)
    (case i13 => k_is)
    (case a13 => k_is)
    (case l13 => k_is)
    (case c13 => k_is)
    (case k13 => k_is)
    (case n13_at => k_is)
    (case i14 => k_is)
    (case a14 => k_is)
    (case l14 => k_is)
    (case c14 => k_is)
    (case k14 => k_is)
    (case n14_erasing => k_is)
    (case i15 => k_is)
    (case a15 => k_is)
    (case l15 => k_is)
    (case c15 => k_is)
    (case k15 => k_is)
    (case i16 => k_is)
    (case a16 => k_is)
    (case l16 => k_is)
    (case c16 => k_is)
    (case k16 => k_is)
    (case i17 => k_is)
    (case a17 => k_is)
    (case l17 => k_is)
    (case c17 => k_is)
    (case k17 => k_is)
    (case a18 => k_is)
    (case l18 => k_is)
    (case c18 => k_is)
    (case k18 => k_is)
    (case a19 => k_is)
    (case l19 => k_is)
    (case c19 => k_is)
    (case k19 => k_is)
    (case a20 => k_is)
    (case l20 => k_is)
    (case c20 => k_is)
    (case k20 => k_is)
    (case a21 => k_is)
    (case l21 => k_is)
    (case c21 => k_is)
    (case k21 => k_is)
    (case a22 => k_is)
    (case l22 => k_is)
    (case c22 => k_is)
    (case k22 => k_is)
    (case a23 => k_is)
    (case l23 => k_is)
    (case c23 => k_is)
    (case k23 => k_is)
    (case a24 => k_is)
    (case l24 => k_is)
    (case c24 => k_is)
    (case k24 => k_is)
    (case a25 => k_is)
    (case l25 => k_is)
    (case c25 => k_is)
    (case k25 => k_is)
    (case a26 => k_is)
    (case l26 => k_is)
    (case c26 => k_is)
    (case k26 => k_is)
    (case a27 => k_is)
    (case l27 => k_is)
    (case c27 => k_is)
    (case k27 => k_is)
    (case a28 => k_is)
    (case l28 => k_is)
    (case c28 => k_is)
    (case k28 => k_is)
    (case a29 => k_is)
    (case l29 => k_is)
    (case c29 => k_is)
    (case k29 => k_is)
    (case a30 => k_is)
    (case l30 => k_is)
    (case c30 => k_is)
    (case k30 => k_is)
    (case a31 => k_is)
    (case l31 => k_is)
    (case c31 => k_is)
    (case k31 => k_is)
    (case a32 => k_is)
    (case l32 => k_is)
    (case c32 => k_is)
    (case k32 => k_is)
    (case aC0 => k_is)
    (case xC0 => k_exc)
    (case kC0 => k_is)
    (case bC0 => k_is)
    (case tC0 => k_is)
    (case iC0 => k_is)
    (case aC1 => k_is)
    (case xC1 => k_exc)
    (case kC1 => k_is)
    (case bC1 => k_is)
    (case tC1 => k_is)
    (case iC1 => k_is)
    (case aC2 => k_is)
    (case xC2 => k_exc)
    (case kC2 => k_is)
    (case bC2 => k_is)
    (case tC2 => k_is)
    (case iC2 => k_is)
    (case z0 => k_is)
    (case z1 => k_is)
    (case z2 => k_is)
    (case z3 => k_is)
    (case z4 => k_is)
    (case z5 => k_is)
    (case z6 => k_is)
    (case y0 => k_is)
    (case y1 => k_is)
    (case kh1 => k_is)
    (case kh2 => k_is)
    (case y2 => k_is)
    (case kh6 => k_is)
    (case y3 => k_is)
    (case kh10 => k_is)
    (case kh62 => k_is)
    (case kh59 => k_is)
    (case kh56 => k_is)
    (case kh53 => k_is)
    (case kh50 => k_is)
    (case kh47 => k_is)
    (case kh44 => k_is)
    (case kh41 => k_is)
    (case kh38 => k_is)
    (case kh35 => k_is)
    (case kh32 => k_is)
    (case kh29 => k_is)
    (case kh26 => k_is)
    (case kh23 => k_is)
    (case kh20 => k_is)
    (case kh17 => k_is)
    (case kh14 => k_is)
    (case kh11 => k_is)
    (case y4 => k_is)
    (case kh65 => k_is)
    (case kh144 => k_is)
    (case kh141 => k_is)
    (case kh138 => k_is)
    (case kh135 => k_is)
    (case kh132 => k_is)
    (case kh129 => k_is)
    (case kh126 => k_is)
    (case kh123 => k_is)
    (case kh120 => k_is)
    (case kh117 => k_is)
    (case kh114 => k_is)
    (case kh111 => k_is)
    (case kh108 => k_is)
    (case kh105 => k_is)
    (case kh102 => k_is)
    (case kh99 => k_is)
    (case kh96 => k_is)
    (case kh93 => k_is)
    (case kh90 => k_is)
    (case kh87 => k_is)
    (case kh84 => k_is)
    (case kh81 => k_is)
    (case kh78 => k_is)
    (case kh75 => k_is)
    (case kh72 => k_is)
    (case kh69 => k_is)
    (case kh66 => k_is)
