import PyProof.Rows.All
import Wide.All
import OpenK.AllK
import Wide.FinOn
import HandS.ForMost
import HandS.IsInst
import HandS.Wide
import HandS.Codes
import HandS.Style
import HandS.TupLe
import HandS.TupAny
import HandS.EndBits
import HandS.Walk
import HandS.Zip
import KE.LtData
import HandS.ForExc
import HandS.ExcIs
import HandS.RaiseMore
import HandS.FStr
import HandS.SetKeys
import HandS.WordsDict
import HandS.DictComp
import HandS.More
import HandS.SortInts
import PySem.Challenge.RW_hornbook_k54_domains
set_option Elab.async false
set_option linter.all false
set_option maxRecDepth 100000
set_option maxHeartbeats 4000000
set_option exponentiation.threshold 10000
namespace My
open PySem PySem.Spec PyProof.Rows L2
/-- a def of the text that keeps a promise, as its callers want it -/
def Has (P : Program) (w : World) (K : PySem.W.Frag) (mg : Str → Option Value) (base : Heap) (k : Nat) (x : Str) (ps : List Str) (sp : Sp) : Prop :=
  ∃ (f : Addr) (fd : FuncData), FnOk P w K mg base CX0 k f fd ps sp ∧ mg x = some (.ref f) ∧ PySem.W.keepIn K (.ref f) = true ∧ Binds K fd ps []
theorem same_upd {H : Hp} {p : Addr} {o : HO} (h : H p = none) : Same H (upd H p o) := fun b x e => by
  rw [upd_ne (ne_of_none e h)]
  exact e
/-- all but the object at s is as it was -/
def But (s : Addr) (H H' : Hp) : Prop := ∀ b o, b ≠ s → H b = some o → H' b = some o
theorem But.refl (s : Addr) (H : Hp) : But s H H := fun _ _ _ e => e
theorem But.trans {s : Addr} {H H1 H2 : Hp} (a : But s H H1) (b : But s H1 H2) : But s H H2 := fun c o hc e => b c o hc (a c o hc e)
theorem But.of {s : Addr} {H H' : Hp} (a : Same H H') : But s H H' := fun b o _ e => a b o e
theorem But.put {s : Addr} {H : Hp} {o : HO} : But s H (upd H s o) := fun b u hb e => by rw [upd_ne hb]; exact e
/-! ### what a value is -/
mutual
inductive Im (K : PySem.W.Frag) (G : Addr → Prop) (H : Hp) : V → PyData → Prop
  | non : Im K G H .non .none
  | bl (b : Bool) : Im K G H (.bl b) (.bool b)
  | int (i : Int) : Im K G H (.int i) (.int i)
  | str (x : Str) : Im K G H (.str x) (.str x)
  | lst {a : Addr} {xs : List V} {ds : List PyData} : G a → H a = some (.lst xs) → ImAll K G H xs ds → Im K G H (.ref a) (.list ds)
  | tup {a : Addr} {xs : List V} {ds : List PyData} : G a → H a = some (.tup xs) → ImAll K G H xs ds → Im K G H (.ref a) (.tuple ds)
inductive ImAll (K : PySem.W.Frag) (G : Addr → Prop) (H : Hp) : List V → List PyData → Prop
  | nil : ImAll K G H [] []
  | cons {v : V} {vs : List V} {d : PyData} {ds : List PyData} : Im K G H v d → ImAll K G H vs ds → ImAll K G H (v :: vs) (d :: ds)
end
section
variable {K : PySem.W.Frag} {G G' : Addr → Prop} {H H' : Hp}
mutual
theorem Im.mono (hH : ∀ b o, G b → H b = some o → H' b = some o) (hG : ∀ b, G b → G' b) : ∀ (d : PyData) (v : V), Im K G H v d → Im K G' H' v d
  | .none, _, h => by cases h; exact .non
  | .bool b, _, h => by cases h; exact .bl b
  | .int i, _, h => by cases h; exact .int i
  | .str x, _, h => by cases h; exact .str x
  | .list ds, _, h => by
    cases h with
    | lst g e ha => exact .lst (hG _ g) (hH _ _ g e) (Im.monoAll hH hG ds _ ha)
  | .tuple ds, _, h => by
    cases h with
    | tup g e ha => exact .tup (hG _ g) (hH _ _ g e) (Im.monoAll hH hG ds _ ha)
  | .dict _, _, h => by cases h
theorem Im.monoAll (hH : ∀ b o, G b → H b = some o → H' b = some o) (hG : ∀ b, G b → G' b) : ∀ (ds : List PyData) (vs : List V), ImAll K G H vs ds → ImAll K G' H' vs ds
  | [], _, h => by cases h; exact .nil
  | d :: ds, _, h => by
    cases h with
    | cons h1 h2 => exact .cons (Im.mono hH hG d _ h1) (Im.monoAll hH hG ds _ h2)
end
mutual
theorem Im.dp : ∀ (d : PyData) (v : V), Im K G H v d → Dp K H v d
  | .none, _, h => by cases h; exact .non
  | .bool b, _, h => by cases h; exact .bl b
  | .int i, _, h => by cases h; exact .int i
  | .str x, _, h => by cases h; exact .str x
  | .list ds, _, h => by
    cases h with
    | lst g e ha => exact .lst (SqL.of e) (Im.dpAll ds _ ha)
  | .tuple ds, _, h => by
    cases h with
    | tup g e ha => exact .tup (SqT.of e) (Im.dpAll ds _ ha)
  | .dict _, _, h => by cases h
theorem Im.dpAll : ∀ (ds : List PyData) (vs : List V), ImAll K G H vs ds → DpAll K H vs ds
  | [], _, h => by cases h; exact .nil
  | d :: ds, _, h => by
    cases h with
    | cons h1 h2 => exact .cons (Im.dp d _ h1) (Im.dpAll ds _ h2)
end
theorem ImAll.len : ∀ {vs : List V} {ds : List PyData}, ImAll K G H vs ds → vs.length = ds.length
  | _, _, .nil => rfl
  | _, _, .cons _ t => congrArg (· + 1) (ImAll.len t)
theorem ImAll.get : ∀ {vs : List V} {ds : List PyData} {i : Nat} {d : PyData}, ImAll K G H vs ds → ds[i]? = some d → ∃ v, vs[i]? = some v ∧ Im K G H v d
  | _, _, _, _, .nil, e => by simp at e
  | _, _, 0, _, .cons r _, e => by simp at e; subst e; exact ⟨_, rfl, r⟩
  | _, _, i + 1, _, .cons _ t, e => by
    obtain ⟨u, h1, h2⟩ := ImAll.get (i := i) t (by simpa using e)
    exact ⟨u, by simpa using h1, h2⟩
theorem ImAll.getV : ∀ {vs : List V} {ds : List PyData} {i : Nat} {v : V}, ImAll K G H vs ds → vs[i]? = some v → ∃ d, ds[i]? = some d ∧ Im K G H v d
  | _, _, _, _, .nil, e => by simp at e
  | _, _, 0, _, .cons r _, e => by simp at e; subst e; exact ⟨_, rfl, r⟩
  | _, _, i + 1, _, .cons _ t, e => by
    obtain ⟨u, h1, h2⟩ := ImAll.getV (i := i) t (by simpa using e)
    exact ⟨u, by simpa using h1, h2⟩
theorem ImAll.snoc : ∀ {vs : List V} {ds : List PyData} {v : V} {d : PyData}, ImAll K G H vs ds → Im K G H v d → ImAll K G H (vs ++ [v]) (ds ++ [d])
  | _, _, _, _, .nil, r => .cons r .nil
  | _, _, _, _, .cons q t, r => .cons q (ImAll.snoc t r)
theorem ImAll.app : ∀ {vs : List V} {ds : List PyData} {us : List V} {es : List PyData}, ImAll K G H vs ds → ImAll K G H us es → ImAll K G H (vs ++ us) (ds ++ es)
  | _, _, _, _, .nil, r => r
  | _, _, _, _, .cons q t, r => .cons q (ImAll.app t r)
end
section
variable {K : PySem.W.Frag} {H : Hp}
theorem DpAll.len : ∀ {vs : List V} {ds : List PyData}, DpAll K H vs ds → vs.length = ds.length
  | _, _, .nil => rfl
  | _, _, .cons _ t => congrArg (· + 1) (DpAll.len t)
theorem DpAll.get : ∀ {vs : List V} {ds : List PyData} {i : Nat} {d : PyData}, DpAll K H vs ds → ds[i]? = some d → ∃ v, vs[i]? = some v ∧ Dp K H v d
  | _, _, _, _, .nil, e => by simp at e
  | _, _, 0, _, .cons r _, e => by simp at e; subst e; exact ⟨_, rfl, r⟩
  | _, _, i + 1, _, .cons _ t, e => by
    obtain ⟨u, h1, h2⟩ := DpAll.get (i := i) t (by simpa using e)
    exact ⟨u, by simpa using h1, h2⟩
/-- the name of a value's class -/
def tyN : PyData → String
  | .none => "NoneType" | .bool _ => "bool" | .int _ => "int" | .str _ => "str" | .list _ => "list" | .tuple _ => "tuple" | .dict _ => "dict"
theorem tyx_of : ∀ {x : V} {d : PyData}, Dp K H x d → TyX K H x (.type (tyN d))
  | _, _, .non => .base .non
  | _, _, .bl b => .base (.bl b)
  | _, _, .int i => .base (.int i)
  | _, _, .str x => .base (.str x)
  | _, _, .lst h _ => by
    rcases h with (h | ⟨o, h⟩) | ⟨o, its, n, hk, hc, _⟩
    · exact .base (.lst h)
    · exact .base (.frz h)
    · exact .kList hk hc
  | _, _, .tup h _ => by
    rcases h with (h | ⟨o, h⟩) | ⟨o, its, n, hk, hc, _⟩
    · exact .base (.tup h)
    · exact .fTuple h
    · exact .kTuple hk hc
def isI : PyData → Bool
  | .int _ => true | .bool _ => true | _ => false
def isB : PyData → Bool
  | .bool _ => true | _ => false
def isS : PyData → Bool
  | .str _ => true | _ => false
def isT : PyData → Bool
  | .tuple _ => true | _ => false
def isL : PyData → Bool
  | .list _ => true | _ => false
theorem kitI (d : PyData) : kitB (tyN d) "int" = some (isI d) := by cases d <;> (show kitB _ "int" = _; simp only [tyN, isI]; decide +kernel)
theorem kitBo (d : PyData) : kitB (tyN d) "bool" = some (isB d) := by cases d <;> (show kitB _ "bool" = _; simp only [tyN, isB]; decide +kernel)
theorem kitS (d : PyData) : kitB (tyN d) "str" = some (isS d) := by cases d <;> (show kitB _ "str" = _; simp only [tyN, isS]; decide +kernel)
theorem kitT (d : PyData) : kitB (tyN d) "tuple" = some (isT d) := by cases d <;> (show kitB _ "tuple" = _; simp only [tyN, isT]; decide +kernel)
theorem kitL (d : PyData) : kitB (tyN d) "list" = some (isL d) := by cases d <;> (show kitB _ "list" = _; simp only [tyN, isL]; decide +kernel)
theorem isi_int {x : V} {d : PyData} {Q : VK} (h : Dp K H x d) (q : Q (.bl (isI d)) H) : rIsi K [x, .ty "int"] H Q := ⟨x, .ty "int", _, _, _, rfl, .ty _, tyx_of h, kit_ty (kitI d), q⟩
theorem isi_bool {x : V} {d : PyData} {Q : VK} (h : Dp K H x d) (q : Q (.bl (isB d)) H) : rIsi K [x, .ty "bool"] H Q := ⟨x, .ty "bool", _, _, _, rfl, .ty _, tyx_of h, kit_ty (kitBo d), q⟩
theorem isi_str {x : V} {d : PyData} {Q : VK} (h : Dp K H x d) (q : Q (.bl (isS d)) H) : rIsi K [x, .ty "str"] H Q := ⟨x, .ty "str", _, _, _, rfl, .ty _, tyx_of h, kit_ty (kitS d), q⟩
theorem isi_tup {x : V} {d : PyData} {Q : VK} (h : Dp K H x d) (q : Q (.bl (isT d)) H) : rIsi K [x, .ty "tuple"] H Q := ⟨x, .ty "tuple", _, _, _, rfl, .ty _, tyx_of h, kit_ty (kitT d), q⟩
theorem isi_list {x : V} {d : PyData} {Q : VK} (h : Dp K H x d) (q : Q (.bl (isL d)) H) : rIsi K [x, .ty "list"] H Q := ⟨x, .ty "list", _, _, _, rfl, .ty _, tyx_of h, kit_ty (kitL d), q⟩
end
/-! ### the stream of draws -/
structure Stm (H : Hp) (s l : Addr) : Prop where
  ex : ∃ (a b m : Int) (ns : List Int), H s = some (.lst [.ref l, .int a, .int b, .int m]) ∧ H l = some (.lst (ns.map V.int)) ∧ ns.length ≤ 63 ∧ 0 ≤ a ∧ 0 ≤ b ∧ 0 ≤ m ∧ m < 2147483647
theorem Stm.keep {H H' : Hp} {s l : Addr} (h : Stm H s l) (e : Same H H') : Stm H' s l := by
  obtain ⟨a, b, m, ns, h1, h2, r⟩ := h.ex
  exact ⟨a, b, m, ns, e _ _ h1, e _ _ h2, r⟩
/-- another object is changed -/
theorem Stm.put {H : Hp} {s l r : Addr} {o : HO} (h : Stm H s l) (h1 : s ≠ r) (h2 : l ≠ r) : Stm (upd H r o) s l := by
  obtain ⟨a, b, m, ns, e1, e2, q⟩ := h.ex
  exact ⟨a, b, m, ns, by rw [upd_ne h1]; exact e1, by rw [upd_ne h2]; exact e2, q⟩
theorem Stm.at_s {H : Hp} {s l : Addr} (h : Stm H s l) : ∃ o, H s = some o := by
  obtain ⟨a, b, m, ns, e1, e2, q⟩ := h.ex
  exact ⟨_, e1⟩
theorem Stm.at_l {H : Hp} {s l : Addr} (h : Stm H s l) : ∃ o, H l = some o := by
  obtain ⟨a, b, m, ns, e1, e2, q⟩ := h.ex
  exact ⟨_, e2⟩
/-- a constant of the module -/
def GV (mg : Str → Option Value) (x : Str) (v : V) : Prop := ∃ u, mg x = some u ∧ RelV v u
theorem pe_gC {X : Cx} {x : Str} {v : V} {pos : Pos} (hg : Gl X x) (h : GV X.mg x v) (hd : (x == ("__debug__" : Str)) = false := by decide) : PE X (.Name x pos) (tC v) := by
  obtain ⟨u, e, r⟩ := h
  exact pe_glob hg e r hd

/-! ### 'a' * 40 -/
section
variable {X : Cx}
theorem op_mulS : OpR X (binaryOp .Mult) (fun x y H Q => ∃ z i, x = .str z ∧ y = .int i ∧ MulOk z i ∧ Q (.str (Txt.mul z i)) H) := by
  intro pins s σ H x y v u Q I rx ry h
  obtain ⟨z, i, rfl, rfl, hk, q⟩ := h
  obtain ⟨t, rfl⟩ := rx
  obtain ⟨t', rfl⟩ := ry
  exact SB.mul hk fun t2 k => ⟨.str _, H, I.tok k, ⟨_, rfl⟩, q⟩
end
/-! ### data written out: each part of it is new -/
section
variable {K : PySem.W.Frag}
/-- an expression that makes data and changes nothing else -/
def Lit (K : PySem.W.Frag) (σ : L2.St) (t : TE) (d : PyData) : Prop := ∀ (H : Hp) (Q : VK), (∀ v H', Same H H' → Im K (fun b => H b = Option.none) H' v d → Q v H') → t σ H Q
def LitA (K : PySem.W.Frag) (σ : L2.St) (t : TA) (ds : List PyData) : Prop := ∀ (H : Hp) (Q : List V → Hp → Prop), (∀ vs H', Same H H' → ImAll K (fun b => H b = Option.none) H' vs ds → Q vs H') → t σ H Q
variable {σ : L2.St}
theorem lit_int {i : Int} : Lit K σ (tC (.int i)) (.int i) := fun H Q h => h _ H (Same.refl H) (.int i)
theorem lit_str {x : Str} : Lit K σ (tC (.str x)) (.str x) := fun H Q h => h _ H (Same.refl H) (.str x)
theorem lit_bl {b : Bool} : Lit K σ (tC (.bl b)) (.bool b) := fun H Q h => h _ H (Same.refl H) (.bl b)
theorem lit_non : Lit K σ (tC .non) .none := fun H Q h => h _ H (Same.refl H) .non
theorem litA_nil : LitA K σ tNil [] := fun H Q h => h _ H (Same.refl H) .nil
theorem litA_cons {t : TE} {ta : TA} {d : PyData} {ds : List PyData} (h1 : Lit K σ t d) (h2 : LitA K σ ta ds) : LitA K σ (tCons t ta) (d :: ds) := fun H Q h =>
  h1 H _ fun v H1 s1 i1 => h2 H1 _ fun vs H2 s2 i2 => h _ H2 (s1.trans s2) (.cons (Im.mono (fun b o _ e => s2 b o e) (fun _ e => e) _ _ i1) (Im.monoAll (fun _ _ _ e => e) (fun b e => s1.free e) _ _ i2))
theorem lit_tup {ta : TA} {ds : List PyData} (h1 : LitA K σ ta ds) (hz : ds.length ≤ sizeLine) : Lit K σ (tTup ta) (.tuple ds) := fun H Q h =>
  h1 H _ fun vs H1 s1 i1 => ⟨by rw [i1.len]; exact hz, fun p np => h _ _ (s1.trans (same_upd np)) (.tup (s1.free np) upd_same (Im.monoAll (fun b o _ e => same_upd np b o e) (fun _ e => e) _ _ i1))⟩
theorem lit_lst {ta : TA} {ds : List PyData} (h1 : LitA K σ ta ds) (hz : ds.length ≤ sizeLine) : Lit K σ (tLst ta) (.list ds) := fun H Q h =>
  h1 H _ fun vs H1 s1 i1 => ⟨by rw [i1.len]; exact hz, fun p np => h _ _ (s1.trans (same_upd np)) (.lst (s1.free np) upd_same (Im.monoAll (fun b o _ e => same_upd np b o e) (fun _ e => e) _ _ i1))⟩
/-- what is an int -/
theorem lit_neg {t : TE} {i : Int} (h1 : Lit K σ t (.int i)) : Lit K σ (tUn (rU fun i => .int (-i)) t) (.int (-i)) := fun H Q h =>
  h1 H _ fun v H1 s1 i1 => by
    cases i1
    exact ⟨_, rfl, h _ H1 s1 (.int _)⟩
theorem lit_sub {t u : TE} {i j : Int} (h1 : Lit K σ t (.int i)) (h2 : Lit K σ u (.int j)) : Lit K σ (tOp (rI0 fun i j => .int (i - j)) t u) (.int (i - j)) := fun H Q h =>
  h1 H _ fun v H1 s1 i1 => h2 H1 _ fun v2 H2 s2 i2 => by
    cases i1
    cases i2
    exact ⟨_, _, rfl, rfl, h _ H2 (s1.trans s2) (.int _)⟩
theorem lit_pow {t u : TE} {i j : Int} (h1 : Lit K σ t (.int i)) (h2 : Lit K σ u (.int j)) (hc : CPow i j) : Lit K σ (tOp (rI CPow fun i j => .int (i ^ j.toNat)) t u) (.int (i ^ j.toNat)) := fun H Q h =>
  h1 H _ fun v H1 s1 i1 => h2 H1 _ fun v2 H2 s2 i2 => by
    cases i1
    cases i2
    exact ⟨_, _, rfl, rfl, hc, h _ H2 (s1.trans s2) (.int _)⟩
theorem lit_mulS {t u : TE} {z : Str} {j : Int} (h1 : Lit K σ t (.str z)) (h2 : Lit K σ u (.int j)) (hc : MulOk z j) : Lit K σ (tOp (fun x y H Q => ∃ z i, x = .str z ∧ y = .int i ∧ MulOk z i ∧ Q (.str (Txt.mul z i)) H) t u) (.str (Txt.mul z j)) := fun H Q h =>
  h1 H _ fun v H1 s1 i1 => h2 H1 _ fun v2 H2 s2 i2 => by
    cases i1
    cases i2
    exact ⟨_, _, rfl, rfl, hc, h _ H2 (s1.trans s2) (.str _)⟩
end
section
variable {X : Cx} {pos : Pos}
/-- a built-in class as a value -/
theorem pe_ty {x : Str} (n : String) (hg : Gl X x) (hm : X.mg x = Option.none) (hv : bootBuiltins x = some (.type n)) (hn : x ≠ "__name__" := by decide) (hd : (x == ("__debug__" : Str)) = false := by decide) : PE X (.Name x pos) (tC (.ty n)) :=
  pe_bltn hg hm hv rfl hn hd
end
section
variable {K : PySem.W.Frag} {H H' : Hp}
theorem same_sqT {a : Addr} {xs : List V} (e : Same H H') (h : SqT K H a xs) : SqT K H' a xs := by
  rcases h with (h | ⟨o, h⟩) | h
  · exact .inl (.inl (e _ _ h))
  · exact .inl (.inr ⟨o, e _ _ h⟩)
  · exact .inr h
mutual
theorem dp_same (e : Same H H') : ∀ (d : PyData) (v : V), Dp K H v d → Dp K H' v d
  | .none, _, h => by cases h; exact .non
  | .bool b, _, h => by cases h; exact .bl b
  | .int i, _, h => by cases h; exact .int i
  | .str x, _, h => by cases h; exact .str x
  | .list ds, _, h => by
    cases h with
    | lst g ha => exact .lst (e.seq g) (dp_sameAll e ds _ ha)
  | .tuple ds, _, h => by
    cases h with
    | tup g ha => exact .tup (same_sqT e g) (dp_sameAll e ds _ ha)
  | .dict _, _, h => by cases h
theorem dp_sameAll (e : Same H H') : ∀ (ds : List PyData) (vs : List V), DpAll K H vs ds → DpAll K H' vs ds
  | [], _, h => by cases h; exact .nil
  | d :: ds, _, h => by
    cases h with
    | cons h1 h2 => exact .cons (dp_same e d _ h1) (dp_sameAll e ds _ h2)
end
end
theorem small_of {n : Nat} (h : n ≤ 1000) : n ≤ sizeLine := Nat.le_of_lt (small1000 h)
theorem seq_asg {te : TE} {g : TG} {u : TS} {D : Ends} {σ : L2.St} {H : Hp} (h : te σ H fun x H1 => g x σ H1 (u D)) : tSeq (tAsg te g) u D σ H := h
theorem gname {i : Nat} {v : V} {σ : L2.St} {H : Hp} {Q : L2.St → Hp → Prop} (h : Q (σ.set i (some v)) H) : gName i v σ H Q := h
theorem nxp {N : L2.St → Hp → Prop} {R : VK} {B C : L2.St → Hp → Prop} {σ : L2.St} {H : Hp} (h : N σ H) : ({ nx := N, rt := R, bk := B, ct := C } : Ends).nx σ H := h
theorem seq_if {c : TT} {t t2 : TS} {u : TS} {D : Ends} {σ : L2.St} {H : Hp} (h : c σ H fun b H1 => if b = true then t { D with nx := u D } σ H1 else t2 { D with nx := u D } σ H1) : tSeq (tIfS c t t2) u D σ H := h
theorem seq_ifN {c : TT} {t : TS} {u : TS} {D : Ends} {σ : L2.St} {H : Hp} (h : c σ H fun b H1 => if b = true then t { D with nx := u D } σ H1 else u D σ H1) : tSeq (tIfS c t tNext) u D σ H := h
theorem seq_any {t : TS} {u : TS} {D : Ends} {σ : L2.St} {H : Hp} (h : t { D with nx := u D } σ H) : tSeq t u D σ H := h
theorem asg1 {te : TE} {g : TG} {D : Ends} {σ : L2.St} {H : Hp} (h : te σ H fun x H1 => g x σ H1 D.nx) : tAsg te g D σ H := h
section
variable {K : PySem.W.Frag} {G G' : Addr → Prop} {H H' : Hp}
mutual
theorem Im.mono2 (hH : ∀ b o, G b → H b = some o → H' b = some o) (hG : ∀ b o, H b = some o → G b → G' b) : ∀ (d : PyData) (v : V), Im K G H v d → Im K G' H' v d
  | .none, _, h => by cases h; exact .non
  | .bool b, _, h => by cases h; exact .bl b
  | .int i, _, h => by cases h; exact .int i
  | .str x, _, h => by cases h; exact .str x
  | .list ds, _, h => by
    cases h with
    | lst g e ha => exact .lst (hG _ _ e g) (hH _ _ g e) (Im.mono2All hH hG ds _ ha)
  | .tuple ds, _, h => by
    cases h with
    | tup g e ha => exact .tup (hG _ _ e g) (hH _ _ g e) (Im.mono2All hH hG ds _ ha)
  | .dict _, _, h => by cases h
theorem Im.mono2All (hH : ∀ b o, G b → H b = some o → H' b = some o) (hG : ∀ b o, H b = some o → G b → G' b) : ∀ (ds : List PyData) (vs : List V), ImAll K G H vs ds → ImAll K G' H' vs ds
  | [], _, h => by cases h; exact .nil
  | d :: ds, _, h => by
    cases h with
    | cons h1 h2 => exact .cons (Im.mono2 hH hG d _ h1) (Im.mono2All hH hG ds _ h2)
end
end
theorem join_set {c : Prop} [Decidable c] {v : V} {i : Nat} {u : TS} {D : Ends} {σ : L2.St} {H : Hp} (P : L2.St → Prop) (h : ∀ σ2, P σ2 → u D σ2 H) (h1 : c → P (σ.set i (some v))) (h2 : ¬ c → P σ) :
    if c then tAsg (tC v) (gName i) { D with nx := u D } σ H else u D σ H := by
  by_cases hc : c
  · rw [if_pos hc]
    exact h _ (h1 hc)
  · rw [if_neg hc]
    exact h _ (h2 hc)
/-- a constant tuple of the module, by its data -/
def GC (K : PySem.W.Frag) (mg : Str → Option Value) (x : Str) (d : PyData) : Prop := ∃ (u : Value) (v : V), mg x = some u ∧ RelV v u ∧ Dp K (fun _ => Option.none) v d
theorem none_same (H : Hp) : Same (fun _ => Option.none) H := fun _ _ e => nomatch e
theorem kt_of {K : PySem.W.Frag} {a : Addr} {its : Array Value} {n : Nat} {dd : Option Addr} {sl : Array (Option Value)} {xs : List V} {ds : List PyData} (h : K.lookup a = some ⟨.type "tuple", dd, .seq its n, sl⟩) (hz : its.size ≤ 1000) (hv : Vals xs its.toList) (ha : DpAll K (fun _ => Option.none) xs ds) :
    Dp K (fun _ => Option.none) (.ref a) (.tuple ds) := .tup (.inr ⟨_, its, n, h, rfl, rfl, Nat.le_trans hz (by decide), hv⟩) ha
/-! ### list.extend(tuple) -/
section
open Builtin
theorem extT (l b : Addr) (xs ys : Array Value) (n k : Nat) (dd : Option Addr) (sl : Array (Option Value)) (hlong : ¬(!xs.isEmpty && Builtin.List.listTooLong (xs.size + ys.size)) = true) (h1 : xs.size ≤ sizeLine) (h2 : xs.size + ys.size ≤ sizeLine + 1) :
    Meets (Builtin.«list.extend» ⟨[.ref l, .ref b], []⟩) (fun _ R s => s.heap.get? l = some { cls := .type "list", dict := none, data := .seq xs n, slots := #[] } ∧ s.heap.get? b = some { cls := .type "tuple", dict := dd, data := .seq ys k, slots := sl } ∧ R (.ok (.ret Value.none)) { s with heap := s.heap.update l (Obj.mapSeq fun x => x ++ ys), toks := s.toks }) := by
  refine .of_wp fun prog w A R s h => ?_
  obtain ⟨hp, g, d, tk, os⟩ := s
  obtain ⟨ea, eb, q⟩ := h
  have i1 := AutoSeq1.idx_int
  have i2 := AutoSeq1.sub_tuple_tuple
  have i3 := AutoSeq1.sub_list_list
  have i4 := AutoSeq1.sub_tuple_list
  have i5 := AutoSeq1.sub_list_tuple
  have hz : (xs ++ ys).size ≤ sizeLine + 1 := by rw [Array.size_append]; exact h2
  wp_walk using (wpAny_updateSeq ea rfl (hz := h1) (_hz' := hz)), AutoSeq1.wpAny_loadPart' ea, AutoSeq1.wpAny_loadPart' eb
  exact ⟨_, rfl, q⟩
end
section
variable {X : Cx}
def rExtT (K : PySem.W.Frag) : V → List V → Hp → VK → Prop := fun x vs H Q => ∃ l b xs zs, x = .ref l ∧ vs = [.ref b] ∧ H l = some (.lst xs) ∧ SqT K H b zs ∧ xs.length + zs.length ≤ sizeLine ∧ Q .non (upd H l (.lst (xs ++ zs)))
theorem mt_extT : MtR X "list.extend" (rExtT X.K) := by
  intro pins s σ H x vs v us Q I rx rv h
  obtain ⟨l, b, xs, zs, rfl, rfl, hH, hB, hz, q⟩ := h
  cases rx
  obtain ⟨u, rfl, ru⟩ := rv.one
  cases ru
  obtain ⟨z, its, n, r, hl, e⟩ := I.lstM hH
  obtain ⟨its2, r2, ⟨⟨oc, od, dt, sl⟩, e2, ec, k2, ed⟩, _⟩ := I.tuple hB
  simp only at ec ed
  subst ec ed
  have z1 := r.length
  have z2 := r2.length
  have hsz : its.toArray.size + its2.toArray.size ≤ sizeLine := by rw [List.size_toArray, List.size_toArray]; omega
  have nl : ¬ (!its.toArray.isEmpty && Builtin.List.listTooLong (its.toArray.size + its2.toArray.size)) = true := by
    rw [notLongL hsz, Bool.and_false]
    exact Bool.false_ne_true
  refine call_meets F.slot_list_extend ⟨_, e, rfl⟩ F.entry_list_extend (F.args_list_extend_2 _ _) (extT l b its.toArray its2.toArray n k2 od sl nl (by rw [List.size_toArray]; omega) (by omega)) ⟨e, e2, ?_⟩
  refine ⟨.non, _, I.lset (its' := its ++ its2) hH e (by simp) (r.append r2) ?_, rfl, q⟩
  rw [List.length_append]
  omega
/-! ### x in (a, b, ..), data of any depth -/
def rInT (K : PySem.W.Frag) : R2 := fun x y H Q => ∃ d ds, Dp K H x d ∧ Dp K H y (.tuple ds) ∧ SeqAt.shaped d = true ∧ SeqAt.shaped (.tuple ds) = true ∧ Q (.bl (ds.any fun z => PyData.eqv z d)) H
def rNotInT (K : PySem.W.Frag) : R2 := fun x y H Q => ∃ d ds, Dp K H x d ∧ Dp K H y (.tuple ds) ∧ SeqAt.shaped d = true ∧ SeqAt.shaped (.tuple ds) = true ∧ Q (.bl (!ds.any fun z => PyData.eqv z d)) H
theorem op_inT (hu : X.A.units + 65 < cLine) : OpR X (compareOp .In) (rInT X.K) := by
  intro pins s σ H x y v u Q I rx ry h
  obtain ⟨d, ds, hd, he, sd, se, q⟩ := h
  obtain ⟨as, r1⟩ := Dp.reads I d x v hd rx
  obtain ⟨bs, r2⟩ := Dp.reads I (.tuple ds) y u he ry
  exact SeqAt.in_tuple_reads r2 r1 (SeqAt.canLay_of_shaped se) (SeqAt.canLay_of_shaped sd) (room_in_shaped sd hu) ⟨.bl _, H, I, rfl, q⟩
theorem op_notInT (hu : X.A.units + 65 < cLine) : OpR X (compareOp .NotIn) (rNotInT X.K) := by
  intro pins s σ H x y v u Q I rx ry h
  obtain ⟨d, ds, hd, he, sd, se, q⟩ := h
  obtain ⟨as, r1⟩ := Dp.reads I d x v hd rx
  obtain ⟨bs, r2⟩ := Dp.reads I (.tuple ds) y u he ry
  exact SeqAt.notIn_tuple_reads r2 r1 (SeqAt.canLay_of_shaped se) (SeqAt.canLay_of_shaped sd) (room_in_shaped sd hu) ⟨.bl _, H, I, rfl, q⟩
theorem units65 {k : Nat} {A : Around} (r : Room k A) : A.units + 65 < cLine := by
  have := r.un
  omega
end
section
variable {K : PySem.W.Frag} {H : Hp}
theorem DpAll.dropt : ∀ {xs : List V} {ds : List PyData} (n : Nat), DpAll K H xs ds → DpAll K H (xs.drop n) (ds.drop n)
  | _, _, 0, r => r
  | _, _, _ + 1, .nil => .nil
  | _, _, n + 1, .cons _ t => DpAll.dropt n t
theorem DpAll.taket : ∀ {xs : List V} {ds : List PyData} (n : Nat), DpAll K H xs ds → DpAll K H (xs.take n) (ds.take n)
  | _, _, 0, _ => .nil
  | _, _, _ + 1, .nil => .nil
  | _, _, n + 1, .cons r t => .cons r (DpAll.taket n t)
theorem DpAll.app : ∀ {xs ys : List V} {ds es : List PyData}, DpAll K H xs ds → DpAll K H ys es → DpAll K H (xs ++ ys) (ds ++ es)
  | _, _, _, _, .nil, r => r
  | _, _, _, _, .cons q t, r => .cons q (DpAll.app t r)
theorem DpAll.getV : ∀ {vs : List V} {ds : List PyData} {i : Nat} {v : V}, DpAll K H vs ds → vs[i]? = some v → ∃ d, ds[i]? = some d ∧ Dp K H v d
  | _, _, _, _, .nil, e => by simp at e
  | _, _, 0, _, .cons r _, e => by simp at e; subst e; exact ⟨_, rfl, r⟩
  | _, _, i + 1, _, .cons _ t, e => by
    obtain ⟨u, h1, h2⟩ := DpAll.getV (i := i) t (by simpa using e)
    exact ⟨u, by simpa using h1, h2⟩
end
/-- a part of a tuple, also the whole -/
theorem cut_nat (xs : List V) (i j : Nat) (h1 : i ≤ xs.length) (h2 : j ≤ xs.length) : cutV xs (some (i : Int)) (some (j : Int)) = (xs.drop i).take (j - i) := by
  unfold cutV
  rw [HT.sIx_nat, HT.sIx_nat, Nat.min_eq_left h1, Nat.min_eq_left h2]
theorem slA_nat {K : PySem.W.Frag} {H : Hp} {a : Addr} {xs : List V} {i j : Nat} {Q : VK} (hs : SqT K H a xs) (h1 : i ≤ xs.length) (h2 : j ≤ xs.length) (h : ∀ b H', Same H H' → SqT K H' b ((xs.drop i).take (j - i)) → (∀ c, H c = Option.none → c ≠ b → H' c = Option.none) → Q (.ref b) H') :
    rSlA K (.ref a) (some (i : Int)) (some (j : Int)) H Q := by
  refine ⟨a, xs, rfl, hs, fun z => ?_, fun z p np => ?_⟩
  · rw [HT.sIx_nat, HT.sIx_nat, Nat.min_eq_left h1, Nat.min_eq_left h2] at z
    refine h a H (Same.refl H) ?_ fun _ e _ => e
    rw [z.1, z.2, List.drop_zero, Nat.sub_zero, List.take_length]
    exact hs
  · rw [cut_nat xs i j h1 h2]
    exact h p _ (same_upd np) (SqT.of upd_same) fun c e hc => by rw [upd_ne hc]; exact e
theorem cat_dp {K : PySem.W.Frag} {H : Hp} {x y : V} {ds es : List PyData} {Q : VK} (hx : Dp K H x (.tuple ds)) (hy : Dp K H y (.tuple es)) (hne : ds ≠ []) (hz : ds.length + es.length ≤ 1000) (h : ∀ v H', Same H H' → Dp K H' v (.tuple (ds ++ es)) → Q v H') : rCatT K x y H Q := by
  cases hx with
  | @tup a xs _ sx ax =>
  cases hy with
  | @tup b ys _ sy ay =>
  have lx := DpAll.len ax
  have ly := DpAll.len ay
  refine ⟨a, b, xs, ys, rfl, rfl, sx, sy, fun z => ?_, small_of (by omega), fun z => ?_, fun z p np => ?_⟩
  · rw [z] at lx
    exact hne (List.eq_nil_of_length_eq_zero lx.symm)
  · subst z
    cases ay
    rw [List.append_nil] at h
    exact h _ H (Same.refl H) (.tup sx ax)
  · exact h _ _ (same_upd np) (.tup (SqT.of upd_same) (dp_sameAll (same_upd np) _ _ (DpAll.app ax ay)))
theorem cut_from1 (v : V) (xs : List V) : cutV (v :: xs) (some 1) Option.none = xs := by
  unfold cutV
  rw [show (some (1 : Int)) = some ((1 : Nat) : Int) from rfl, HT.sIx_nat, HT.sIx_none, List.length_cons, Nat.min_eq_left (by omega), List.drop_succ_cons, List.drop_zero, Nat.add_sub_cancel]
  exact List.take_length
section
variable {σ : L2.St} {H : Hp}
theorem args1 {t : TE} {ta : TA} {Q : List V → Hp → Prop} (h : t σ H fun x H1 => ta σ H1 fun xs H2 => Q (x :: xs) H2) : tCons t ta σ H Q := h
theorem tup_of {ta : TA} {Q : VK} (h : ta σ H fun xs H1 => xs.length ≤ sizeLine ∧ ∀ p, H1 p = Option.none → Q (.ref p) (upd H1 p (.tup xs))) : tTup ta σ H Q := h
theorem const_of {v : V} {Q : VK} (h : Q v H) : tC v σ H Q := h
theorem op_of {r : R2} {ta tb : TE} {Q : VK} (h : ta σ H fun x H1 => tb σ H1 fun y H2 => r x y H2 Q) : tOp r ta tb σ H Q := h
theorem nil_of {Q : List V → Hp → Prop} (h : Q [] H) : tNil σ H Q := h
end
section
variable {σ : L2.St} {H : Hp}
theorem call_of {sp : Sp} {dvs : List V} {E : XK} {t : TA} {Q : VK} (h : t σ H fun vs H1 => sp (vs ++ dvs) H1 Q E) : tCall sp dvs E t σ H Q := h
theorem args_and {r : R2} {sp : Sp} {dvs : List V} {E : XK} {t : TA} {tb tc : TE} {D : Ends} (h : t σ H fun vs H1 => sp (vs ++ dvs) H1 (fun x H1 => tb σ H1 fun y H2 => r x y H2 fun x H1 => ∃ c, x = .bl c ∧ if c = true then tc σ H1 D.rt else D.rt (.bl false) H1) E) : tRet (tAndV (tOp r (tCall sp dvs E t) tb) tc) D σ H := h
end
theorem relStr (x : Str) (t : Tok) : RelV (.str x) (.str x t) := ⟨_, rfl⟩
theorem relInt (i : Int) (t : Tok) : RelV (.int i) (.int i t) := ⟨_, rfl⟩
theorem relRef (a : Addr) : RelV (.ref a) (.ref a) := rfl
/-! ### a < b of data whose places are alike -/
section
variable {X : Cx}
def rLtD (K : PySem.W.Frag) : R2 := fun x y H Q => ∃ d e, Dp K H x d ∧ Dp K H y e ∧ PySem.W.alike d e = true ∧ d ≠ .none ∧ d.depth ≤ 8 ∧ Q (.bl (PySem.W.dataLt d e)) H
theorem op_ltD (hu : X.A.units + 64 < cLine) : OpR X (compareOp .Lt) (rLtD X.K) := by
  intro pins s σ H x y v u Q I rx ry h
  obtain ⟨d, e, hd, he, ha, hn, hz, q⟩ := h
  obtain ⟨as, r1⟩ := Dp.reads I d x v hd rx
  obtain ⟨bs, r2⟩ := Dp.reads I e y u he ry
  have R := PySem.W.rcLt_alike d e X.A s v u as bs r1 r2 ha hn (Nat.lt_of_le_of_lt (Nat.add_le_add_left (Nat.le_trans (Nat.min_le_left _ _) (Nat.le_trans hz (by decide : 8 ≤ 64))) _) hu)
  have z : wpAny (model X.prog X.w) X.A (compareOp .Lt v u) (EP X pins σ Q) X.xe s := R X.prog X.w X.xe (EP X pins σ Q) ⟨.bl _, H, I, rfl, q⟩
  exact z
end
/-! ### zip of two tuples -/
theorem walk_zipT {K : PySem.W.Frag} {a b : Addr} {xs ys : List V} {n : Nat} (hn : n = min xs.length ys.length) : Walk (RZ.ItzT K a b) n (fun H => SqT K H a xs ∧ SqT K H b ys) (YPair (fun i => xs[i]?) (fun i => ys[i]?)) := by
  subst hn
  refine ⟨fun i H hi q => ?_, fun H q => ⟨xs, ys, q.1, q.2, by omega⟩, fun i H v H' hi q y => ?_⟩
  · have h1 : i < xs.length := by omega
    have h2 : i < ys.length := by omega
    exact ⟨xs, ys, _, _, q.1, q.2, List.getElem?_eq_getElem h1, List.getElem?_eq_getElem h2⟩
  · obtain ⟨T, x, y, e1, e2, e3, e4, e5⟩ := y
    exact ⟨T, x, y, e1, e2, e3, e4 xs q.1, e5 ys q.2⟩
/-! ### () + t -/
section
open Builtin
theorem addE (l b : Addr) (xs ys : Array Value) (n k : Nat) (dd dd2 : Option Addr) (sl sl2 : Array (Option Value)) (he : xs.isEmpty = true) :
    Meets (Builtin.«tuple.__add__» ⟨[.ref l, .ref b], []⟩) (fun _ R s => s.heap.get? l = some { cls := .type "tuple", dict := dd, data := .seq xs n, slots := sl } ∧ s.heap.get? b = some { cls := .type "tuple", dict := dd2, data := .seq ys k, slots := sl2 } ∧ R (.ok (.ret (Value.ref b))) s) := by
  refine .of_wp fun prog w A R s h => ?_
  obtain ⟨hp, g, d, tk, os⟩ := s
  obtain ⟨ea, eb, q⟩ := h
  have i1 := AutoSeq1.idx_int
  have i2 := AutoSeq1.sub_tuple_tuple
  have i3 := AutoSeq1.sub_list_list
  have i4 := AutoSeq1.sub_tuple_list
  have i5 := AutoSeq1.sub_list_tuple
  wp_walk using AutoSeq1.wpAny_loadPart' ea, AutoSeq1.wpAny_loadPart' eb
  exact ⟨_, rfl, q⟩
end
section
variable {X : Cx}
def rCatA (K : PySem.W.Frag) : R2 := fun x y H Q => ∃ a b xs ys, x = .ref a ∧ y = .ref b ∧ SqT K H a xs ∧ SqT K H b ys ∧ xs.length + ys.length ≤ sizeLine ∧ (xs = [] → Q (.ref b) H) ∧ (ys = [] → Q (.ref a) H) ∧ ∀ p, H p = Option.none → Q (.ref p) (upd H p (.tup (xs ++ ys)))
theorem op_catA : OpR X (binaryOp .Add) (rCatA X.K) := by
  intro pins s σ H x y v u Q I rx ry h
  obtain ⟨a, b, xs, ys, rfl, rfl, ha, hb, hz, q1, q2, q3⟩ := h
  by_cases hx : xs = []
  · subst hx
    cases rx
    cases ry
    obtain ⟨its, r1, p1, _⟩ := I.tuple ha
    obtain ⟨its2, r2, p2, _⟩ := I.tuple hb
    cases r1
    obtain ⟨⟨oc, od, dt, sl⟩, e1, c1, n, d1⟩ := p1
    obtain ⟨⟨oc2, od2, dt2, sl2⟩, e2, c2, n2, d2⟩ := p2
    simp only at c1 d1 c2 d2
    subst c1 d1 c2 d2
    exact concat_meets ⟨_, e1, rfl⟩ ⟨_, e2, rfl⟩ noFill_tuple_add seq_tuple_add PySem.F.slot_tuple_add PySem.F.entry_tuple_add (PySem.F.args_tuple_add_2 _ _)
      (addE a b #[] its2.toArray n n2 od od2 sl sl2 rfl) ⟨e1, e2, ⟨.ref b, H, I, rfl, q1 rfl⟩⟩
  · exact op_catT pins s σ H (.ref a) (.ref b) v u Q I rx ry ⟨a, b, xs, ys, rfl, rfl, ha, hb, hx, hz, q2, fun _ p np => q3 p np⟩
end
section
variable {K : PySem.W.Frag} {G : Addr → Prop} {H : Hp}
theorem ImAll.dropt : ∀ {xs : List V} {ds : List PyData} (n : Nat), ImAll K G H xs ds → ImAll K G H (xs.drop n) (ds.drop n)
  | _, _, 0, r => r
  | _, _, _ + 1, .nil => .nil
  | _, _, n + 1, .cons _ t => ImAll.dropt n t
theorem ImAll.taket : ∀ {xs : List V} {ds : List PyData} (n : Nat), ImAll K G H xs ds → ImAll K G H (xs.take n) (ds.take n)
  | _, _, 0, _ => .nil
  | _, _, _ + 1, .nil => .nil
  | _, _, n + 1, .cons r t => .cons r (ImAll.taket n t)
theorem im_new {xs : List V} {ds : List PyData} {p : Addr} (np : H p = Option.none) (ia : ImAll K G H xs ds) : Im K (fun b => G b ∨ H b = Option.none) (upd H p (.tup xs)) (.ref p) (.tuple ds) :=
  .tup (.inr np) upd_same (Im.monoAll (fun b o _ e => same_upd np b o e) (fun _ g => .inl g) _ _ ia)
theorem im_cut {x : V} {ds es : List PyData} {lo hi : Option Int} {Q : VK} (iv : Im K G H x (.tuple ds)) (hc : ∀ xs : List V, ImAll K G H xs ds → ImAll K G H (cutV xs lo hi) es) (h : ∀ v H', Same H H' → (∀ b, G b ∨ H b = Option.none → G b ∨ H b = Option.none) → Im K (fun b => G b ∨ H b = Option.none) H' v (.tuple es) → Q v H') : rSlA K x lo hi H Q := by
  cases iv with
  | @tup a xs _ g e ia =>
  refine ⟨a, xs, rfl, SqT.of e, fun z => ?_, fun z p np => ?_⟩
  · have hw : cutV xs lo hi = xs := by
      unfold cutV
      rw [z.1, z.2, List.drop_zero, Nat.sub_zero, List.take_length]
    have := hc xs ia
    rw [hw] at this
    exact h _ H (Same.refl H) (fun _ q => q) (.tup (.inl g) e (Im.monoAll (fun _ _ _ e => e) (fun _ g => .inl g) _ _ this))
  · exact h _ _ (same_upd np) (fun _ q => q) (im_new np (hc xs ia))
theorem im_take {x : V} {ds : List PyData} {k : Nat} {Q : VK} (iv : Im K G H x (.tuple ds)) (hk : k ≤ ds.length) (h : ∀ v H', Same H H' → Im K (fun b => G b ∨ H b = Option.none) H' v (.tuple (ds.take k)) → Q v H') : rSlA K x Option.none (some (k : Int)) H Q :=
  im_cut iv (fun xs ia => by
    unfold cutV
    rw [HT.sIx_none, HT.sIx_nat, Nat.min_eq_left (by rw [ia.len]; exact hk), List.drop_zero, Nat.sub_zero]
    exact ImAll.taket _ ia) fun v H' s _ i => h v H' s i
theorem im_drop {x : V} {ds : List PyData} {k : Nat} {Q : VK} (iv : Im K G H x (.tuple ds)) (hk : k ≤ ds.length) (h : ∀ v H', Same H H' → Im K (fun b => G b ∨ H b = Option.none) H' v (.tuple (ds.drop k)) → Q v H') : rSlA K x (some (k : Int)) Option.none H Q :=
  im_cut iv (fun xs ia => by
    unfold cutV
    rw [HT.sIx_none, HT.sIx_nat, Nat.min_eq_left (by rw [ia.len]; exact hk), List.take_of_length_le (by rw [List.length_drop]; exact Nat.le_refl _)]
    exact ImAll.dropt _ ia) fun v H' s _ i => h v H' s i
theorem im_cat {x y : V} {ds es : List PyData} {Q : VK} (iv : Im K G H x (.tuple ds)) (iw : Im K G H y (.tuple es)) (hz : ds.length + es.length ≤ 1000) (h : ∀ v H', Same H H' → Im K (fun b => G b ∨ H b = Option.none) H' v (.tuple (ds ++ es)) → Q v H') : rCatA K x y H Q := by
  have w1 := Im.mono (G' := fun b => G b ∨ H b = Option.none) (fun _ _ _ e => e) (fun _ g => .inl g) _ _ iv
  have w2 := Im.mono (G' := fun b => G b ∨ H b = Option.none) (fun _ _ _ e => e) (fun _ g => .inl g) _ _ iw
  cases iv with
  | @tup a xs _ g e ia =>
  cases iw with
  | @tup b ys _ g2 e2 ib =>
  have l1 := ia.len
  have l2 := ib.len
  refine ⟨a, b, xs, ys, rfl, rfl, SqT.of e, SqT.of e2, small_of (by omega), fun z => ?_, fun z => ?_, fun p np => ?_⟩
  · subst z
    cases ia
    exact h _ H (Same.refl H) w2
  · subst z
    cases ib
    rw [List.append_nil] at h
    exact h _ H (Same.refl H) w1
  · exact h _ _ (same_upd np) (im_new np (ImAll.app ia ib))
end
end My
namespace My
open PySem PySem.Spec PyProof.Rows L2 SkE
/-! ### defs that may raise, and the program's own error classes -/
def HasX (P : Program) (w : World) (K : PySem.W.Frag) (mg : Str → Option Value) (base : Heap) (k : Nat) (x : Str) (ps : List Str) (sp : Sp) : Prop :=
  ∃ (f : Addr) (fd : FuncData), FnOk P w K mg base (L2.CX P w) k f fd ps sp ∧ mg x = some (.ref f) ∧ PySem.W.keepIn K (.ref f) = true ∧ Binds K fd ps []
/-- where the class of this name stands -/
def clsA (K : PySem.W.Frag) (x : Str) : Addr := match PySem.W.nsIn K mainGlobals x with
  | some (some (.ref C)) => C | _ => 0
theorem clsA_of {K : PySem.W.Frag} {x : Str} {C : Addr} (h : PySem.W.nsIn K mainGlobals x = some (some (.ref C))) : clsA K x = C := by
  unfold clsA
  rw [h]
structure Xc (K : PySem.W.Frag) (mg : Str → Option Value) (x : Str) (C : Addr) : Prop where
  gC : mg x = some (.ref C)
  xC : PySem.W.excIn K C [.type "ValueError", .type "Exception", .type "BaseException", .type "object"] "ValueError.__new__" = true
  kC : PySem.W.keepIn K (.ref C) = true
  bC : PySem.W.subIn K (.ref C) (.type "BaseException") = some true
  tC : PySem.W.typeIn K (.ref C) = some (.type "type")
  iC : PySem.W.isClsIn K C = true
theorem exm_pair {K : PySem.W.Frag} {T S : Addr} {b : Bool} (h1 : PySem.W.subIn K (.ref S) (.type "BaseException") = some true) (h2 : PySem.W.isClsIn K S = true) (h3 : PySem.W.typeIn K (.ref S) = some (.type "type")) (h4 : PySem.W.subIn K (.ref T) (.ref S) = some b) :
    PySem.W.exmOne K (.ref T) (.ref S) = some b := by
  have e1 : (PySem.W.subIn K (.ref S) (.type "BaseException") == some true) = true := by rw [h1] <;> rfl
  have e2 : ((PySem.W.clsIn K S).isSome && PySem.W.typeIn K (.ref S) == some (.type "type")) = true := by
    have h2' : (PySem.W.clsIn K S).isSome = true := h2
    rw [h2', h3] <;> rfl
  show (if (PySem.W.subIn K (.ref S) (.type "BaseException") == some true) = true then (if ((PySem.W.clsIn K S).isSome && PySem.W.typeIn K (.ref S) == some (.type "type")) = true then PySem.W.subIn K (.ref T) (.ref S) else none) else none) = some b
  rw [if_pos e1, if_pos e2]
  exact h4
theorem pss_under {X : Cx} {b : List Stmt} {t : TS} {P : Prop} (h : P → PSs X b t) : PSs X b (fun D σ H => P ∧ t D σ H) := ⟨fun pins s σ H D I ⟨p, q⟩ => (h p).run pins s σ H D I q⟩
end My

namespace My
open PySem PySem.Spec PyProof.Rows L2 SkE
/-! ### the text -/
def topS (i : Nat) : Stmt := PySem.Challenge.pw_hornbook_k54_domains.main.body.getD i (.Pass ⟨0, 0, 0, 0⟩)
abbrev s_is_integer : Stmt := topS 4
abbrev N_is_integer : List Str := ["value"]
theorem sc_is_integer : FnScope N_is_integer ["value"] (defScope s_is_integer) := ⟨rfl, rfl, rfl, by decide +kernel, rfl, by decide +kernel, by decide +kernel⟩
abbrev s_is_value : Stmt := topS 8
abbrev N_is_value : List Str := ["value"]
theorem sc_is_value : FnScope N_is_value ["value"] (defScope s_is_value) := ⟨rfl, rfl, rfl, by decide +kernel, rfl, by decide +kernel, by decide +kernel⟩
abbrev s_domain : Stmt := topS 9
abbrev N_domain : List Str := ["values", "value", "intervals"]
theorem sc_domain : FnScope N_domain ["values"] (defScope s_domain) := ⟨rfl, rfl, rfl, by decide +kernel, rfl, by decide +kernel, by decide +kernel⟩
abbrev s_values : Stmt := topS 10
abbrev N_values : List Str := ["given", "low", "high", "value"]
theorem sc_values : FnScope N_values ["given"] (defScope s_values) := ⟨rfl, rfl, rfl, by decide +kernel, rfl, by decide +kernel, by decide +kernel⟩
abbrev s_meet : Stmt := topS 11
abbrev N_meet : List Str := ["first", "second", "common", "value"]
theorem sc_meet : FnScope N_meet ["first", "second"] (defScope s_meet) := ⟨rfl, rfl, rfl, by decide +kernel, rfl, by decide +kernel, by decide +kernel⟩
abbrev s_without : Stmt := topS 12
abbrev N_without : List Str := ["given", "value", "other"]
theorem sc_without : FnScope N_without ["given", "value"] (defScope s_without) := ⟨rfl, rfl, rfl, by decide +kernel, rfl, by decide +kernel, by decide +kernel⟩
abbrev s_is_interval : Stmt := topS 13
abbrev N_is_interval : List Str := ["value", "low", "high"]
theorem sc_is_interval : FnScope N_is_interval ["value"] (defScope s_is_interval) := ⟨rfl, rfl, rfl, by decide +kernel, rfl, by decide +kernel, by decide +kernel⟩
abbrev s_is_domain : Stmt := topS 14
abbrev N_is_domain : List Str := ["value", "pair", "before", "behind"]
theorem sc_is_domain : FnScope N_is_domain ["value"] (defScope s_is_domain) := ⟨rfl, rfl, rfl, by decide +kernel, rfl, by decide +kernel, by decide +kernel⟩
abbrev s__law_stream : Stmt := topS 16
abbrev N__law_stream : List Str := ["script", "mixed", "cell"]
theorem sc__law_stream : FnScope N__law_stream ["script"] (defScope s__law_stream) := ⟨rfl, rfl, rfl, by decide +kernel, rfl, by decide +kernel, by decide +kernel⟩
abbrev s__law_draw : Stmt := topS 17
abbrev N__law_draw : List Str := ["stream", "many", "value"]
theorem sc__law_draw : FnScope N__law_draw ["stream", "many"] (defScope s__law_draw) := ⟨rfl, rfl, rfl, by decide +kernel, rfl, by decide +kernel, by decide +kernel⟩
abbrev s__law_is_integer : Stmt := topS 18
abbrev N__law_is_integer : List Str := ["value"]
theorem sc__law_is_integer : FnScope N__law_is_integer ["value"] (defScope s__law_is_integer) := ⟨rfl, rfl, rfl, by decide +kernel, rfl, by decide +kernel, by decide +kernel⟩
abbrev s__law_domain : Stmt := topS 19
abbrev N__law_domain : List Str := ["given", "found", "value"]
theorem sc__law_domain : FnScope N__law_domain ["given"] (defScope s__law_domain) := ⟨rfl, rfl, rfl, by decide +kernel, rfl, by decide +kernel, by decide +kernel⟩
abbrev s__law_values : Stmt := topS 20
abbrev N__law_values : List Str := ["given", "found", "pair", "value"]
theorem sc__law_values : FnScope N__law_values ["given"] (defScope s__law_values) := ⟨rfl, rfl, rfl, by decide +kernel, rfl, by decide +kernel, by decide +kernel⟩
abbrev s__law_list : Stmt := topS 21
abbrev N__law_list : List Str := ["stream", "low", "wide", "rows", "k", "value"]
theorem sc__law_list : FnScope N__law_list ["stream"] (defScope s__law_list) := ⟨rfl, rfl, rfl, by decide +kernel, rfl, by decide +kernel, by decide +kernel⟩
abbrev s__law_value : Stmt := topS 22
abbrev N__law_value : List Str := ["stream", "odd"]
theorem sc__law_value : FnScope N__law_value ["stream"] (defScope s__law_value) := ⟨rfl, rfl, rfl, by decide +kernel, rfl, by decide +kernel, by decide +kernel⟩
abbrev s__law_strange : Stmt := topS 23
abbrev N__law_strange : List Str := ["stream", "rows", "at", "k", "low", "high", "pick"]
theorem sc__law_strange : FnScope N__law_strange ["stream"] (defScope s__law_strange) := ⟨rfl, rfl, rfl, by decide +kernel, rfl, by decide +kernel, by decide +kernel⟩
abbrev s__law_is_end : Stmt := topS 24
abbrev N__law_is_end : List Str := ["value"]
theorem sc__law_is_end : FnScope N__law_is_end ["value"] (defScope s__law_is_end) := ⟨rfl, rfl, rfl, by decide +kernel, rfl, by decide +kernel, by decide +kernel⟩
abbrev s__law_is_domain : Stmt := topS 25
abbrev N__law_is_domain : List Str := ["value", "last", "pair"]
theorem sc__law_is_domain : FnScope N__law_is_domain ["value"] (defScope s__law_is_domain) := ⟨rfl, rfl, rfl, by decide +kernel, rfl, by decide +kernel, by decide +kernel⟩
abbrev s_law : Stmt := topS 26
abbrev N_law : List Str := ["script", "stream", "one", "two", "first", "second", "given", "both", "value", "other", "actual", "at", "bad"]
theorem sc_law : FnScope N_law ["script"] (defScope s_law) := ⟨rfl, rfl, rfl, by decide +kernel, rfl, by decide +kernel, by decide +kernel⟩
/-- names that the top leaves to the built-ins, and its constants -/
structure Bi (K : PySem.W.Frag) (mg : Str → Option Value) : Prop where
  x_BadProblem : Xc K mg "BadProblem" (clsA K "BadProblem")
  e_BadProblem_BadProblem : PySem.W.exmOne K (.ref (clsA K "BadProblem")) (.ref (clsA K "BadProblem")) = some true
  b_abs : mg "abs" = Option.none
  b_all : mg "all" = Option.none
  b_bool : mg "bool" = Option.none
  b_int : mg "int" = Option.none
  b_isinstance : mg "isinstance" = Option.none
  b_len : mg "len" = Option.none
  b_list : mg "list" = Option.none
  b_max : mg "max" = Option.none
  b_min : mg "min" = Option.none
  b_range : mg "range" = Option.none
  b_sorted : mg "sorted" = Option.none
  b_tuple : mg "tuple" = Option.none
  b_zip : mg "zip" = Option.none
  c_LOWEST : GV mg "LOWEST" (.int (-50))
  c_HIGHEST : GV mg "HIGHEST" (.int 50)

/-! ### names, nodes, terms -/
def okSign (c : Nat) : Bool := decide (32 ≤ c) && decide (c ≤ 126) && !decide (c = 37)
def okName (x : Str) : Bool := decide (1 ≤ x.length) && decide (x.length ≤ 40) && x.cps.toList.all okSign
def names20 : List Str := ["a", "b", "f", "g", "hello", "[]", "+", "-", ",", "it's", "X", "a b", "{}", ".", "=", "'", "aB_1", "!", "0", "lvjkuwnd"]
def signs : Str := (Str.ofString " !\"#$&'()*+,-./0123456789:;<=>?@ABCDEFGHIJKLMNOPQRSTUVWXYZ[\\]^_`") ++ (Str.ofString "abcdefghijklmnopqrstuvwxyz{|}~")
theorem names20_ok : names20.all okName = true := by decide +kernel
theorem signs_ok : signs.cps.toList.all okSign = true := by decide +kernel
theorem signs_len : signs.length = 94 := by decide +kernel
theorem join_ones (e : Str) (he : e.cps = #[]) : ∀ cs : List Nat, (Str.join e (cs.map fun c => ⟨#[c]⟩)).cps.toList = cs
  | [] => rfl
  | [c] => rfl
  | c :: d :: r => by
    have ih := join_ones e he (d :: r)
    show ((⟨#[c]⟩ : Str) ++ e ++ Str.join e ((d :: r).map fun c => (⟨#[c]⟩ : Str))).cps.toList = c :: d :: r
    show (#[c] ++ e.cps ++ (Str.join e ((d :: r).map fun c => (⟨#[c]⟩ : Str))).cps).toList = c :: d :: r
    rw [he, Array.toList_append, ih]
    rfl
inductive Nd (wd : Int) : PyData → Prop
  | v (n : Int) : 0 ≤ n → n < wd → Nd wd (.tuple [.str "v", .int n])
  | i (n : Int) : -(10 ^ 40) < n → n < 10 ^ 40 → Nd wd (.int n)
  | f (x : Str) (n : Int) : okName x = true → 0 ≤ n → n ≤ 8 → Nd wd (.tuple [.str "f", .str x, .int n])
def arN : PyData → Nat
  | .tuple [_, _, c] => (match c with | .int n => n.toNat | _ => 0) | _ => 0
/-- from m missing terms on, the nodes are just these terms -/
def Cls : Nat → List PyData → Prop
  | m, [] => m = 0
  | m, d :: r => 0 < m ∧ Cls (m - 1 + arN d) r
structure Term (wd : Int) (ds : List PyData) : Prop where
  cl : Cls 1 ds
  nd : ∀ d ∈ ds, Nd wd d
/-! ### the promises -/
def sp__law_stream (K : PySem.W.Frag) : Sp := fun vs H Q _ => ∃ (a : Addr) (ns : List Int), vs = [.ref a] ∧ SqL K H a (ns.map V.int) ∧ ns.length ≤ 63 ∧ ∀ s l H', H s = Option.none → H l = Option.none → Same H H' → Stm H' s l → Q (.ref s) H'
def sp__law_draw (K : PySem.W.Frag) : Sp := fun vs H Q _ => ∃ (s l : Addr) (n : Int), vs = [.ref s, .int n] ∧ Stm H s l ∧ 0 < n ∧ n.natAbs < 2 ^ 9000 ∧ ∀ r H', 0 ≤ r → r < n → But s H H' → Stm H' s l → Q (.int r) H'
/-! ### nodes -/
def isSymN : PyData → Bool
  | .tuple [_, _, _] => true | _ => false
def NdA (d : PyData) : Prop := ∃ wd, Nd wd d
/-- how many nodes m terms take -/
def tk : Nat → List PyData → Nat
  | _, [] => 0
  | m, d :: r => if m = 0 then 0 else 1 + tk (m - 1 + arN d) r
theorem tk_zero (l : List PyData) : tk 0 l = 0 := by
  cases l with
  | nil => rfl
  | cons d r => exact if_pos rfl
theorem tk_cons {m : Nat} (h : 0 < m) (d : PyData) (r : List PyData) : tk m (d :: r) = 1 + tk (m - 1 + arN d) r := if_neg (by omega)
theorem arN_nsym {d : PyData} (h : isSymN d = false) : arN d = 0 := by
  cases d with
  | tuple ds =>
    rcases ds with _ | ⟨a, _ | ⟨b, _ | ⟨c, _ | ⟨e, r⟩⟩⟩⟩
    · rfl
    · rfl
    · rfl
    · cases h
    · rfl
  | _ => rfl
theorem tk_le : ∀ (l : List PyData) (m : Nat), tk m l ≤ l.length
  | [], _ => Nat.le_refl 0
  | d :: r, m => by
    by_cases h : m = 0
    · subst h; rw [tk_zero]; exact Nat.zero_le _
    · rw [tk_cons (by omega)]
      have := tk_le r (m - 1 + arN d)
      rw [List.length_cons]
      omega
theorem tk_add : ∀ (l : List PyData) (j m : Nat), tk (j + m) l = tk j l + tk m (l.drop (tk j l))
  | [], j, m => by simp [tk]
  | d :: r, j, m => by
    by_cases h : j = 0
    · subst h
      rw [tk_zero, Nat.zero_add, Nat.zero_add, List.drop_zero]
    · rw [tk_cons (by omega), tk_cons (m := j) (by omega), show j + m - 1 + arN d = (j - 1 + arN d) + m by omega, tk_add r (j - 1 + arN d) m]
      rw [show 1 + tk (j - 1 + arN d) r = tk (j - 1 + arN d) r + 1 by omega, List.drop_succ_cons]
      omega
/-- the rest of what is closed is closed -/
theorem cls_drop : ∀ (l : List PyData) (k j : Nat), Cls k l → j ≤ k → Cls (k - j) (l.drop (tk j l))
  | [], k, j, h, hj => by
    have hk : k = 0 := h
    rw [List.drop_nil]
    show k - j = 0
    omega
  | d :: r, k, j, h, hj => by
    by_cases z : j = 0
    · subst z
      rw [tk_zero]
      exact h
    · rw [tk_cons (by omega), show 1 + tk (j - 1 + arN d) r = tk (j - 1 + arN d) r + 1 by omega, List.drop_succ_cons]
      have := cls_drop r (k - 1 + arN d) (j - 1 + arN d) h.2 (by omega)
      rwa [show k - 1 + arN d - (j - 1 + arN d) = k - j by omega] at this
theorem cls_take : ∀ (l : List PyData) (k j : Nat), Cls k l → j ≤ k → Cls j (l.take (tk j l))
  | [], k, j, h, hj => by
    have hk : k = 0 := h
    rw [List.take_nil]
    show j = 0
    omega
  | d :: r, k, j, h, hj => by
    by_cases z : j = 0
    · subst z
      rw [tk_zero]
      rfl
    · rw [tk_cons (by omega), show 1 + tk (j - 1 + arN d) r = tk (j - 1 + arN d) r + 1 by omega, List.take_succ_cons]
      exact ⟨by omega, cls_take r (k - 1 + arN d) (j - 1 + arN d) h.2 (by omega)⟩
theorem tk_take : ∀ (l : List PyData) (i j : Nat), i ≤ j → tk i (l.take (tk j l)) = tk i l
  | [], i, j, _ => by rw [List.take_nil]
  | d :: r, i, j, h => by
    by_cases z : i = 0
    · subst z
      rw [tk_zero, tk_zero]
    · rw [tk_cons (m := j) (by omega), show 1 + tk (j - 1 + arN d) r = tk (j - 1 + arN d) r + 1 by omega, List.take_succ_cons, tk_cons (by omega), tk_cons (by omega), tk_take r _ _ (by omega)]
theorem take_full : ∀ (l : List PyData) (k : Nat), Cls k l → l.take (tk k l) = l
  | [], _, _ => List.take_nil
  | d :: r, k, h => by
    rw [tk_cons h.1, show 1 + tk (k - 1 + arN d) r = tk (k - 1 + arN d) r + 1 by omega, List.take_succ_cons, take_full r _ h.2]
theorem cls_map : ∀ (ds es : List PyData) (m : Nat), es.map arN = ds.map arN → Cls m ds → Cls m es
  | [], [], m, _, h => h
  | [], e :: es, m, h, _ => by cases h
  | d :: ds, [], m, h, _ => by cases h
  | d :: ds, e :: es, m, h, hc => by
    rw [List.map_cons, List.map_cons] at h
    obtain ⟨h1, h2⟩ := List.cons.inj h
    exact ⟨hc.1, by rw [h1]; exact cls_map ds es _ h2 hc.2⟩
/-! ### nodes can be compared -/
theorem okName_cps {x : Str} (h : okName x = true) : PyData.strOk x = true := by
  unfold okName at h
  rw [Bool.and_eq_true] at h
  unfold PyData.strOk
  rw [← Array.all_toList]
  refine List.all_eq_true.mpr fun c hc => ?_
  have := List.all_eq_true.mp h.2 c hc
  unfold okSign at this
  simp only [Bool.and_eq_true, decide_eq_true_eq] at this
  exact decide_eq_true (by omega)
theorem nd_lay {d : PyData} (h : NdA d) : d.canLay0 = true ∧ d.depth ≤ 1 ∧ d.eqv d = true := by
  obtain ⟨wd, h⟩ := h
  cases h with
  | v n _ _ => exact ⟨by simp only [PyData.canLay0, PyData.canLayAll0]; decide +kernel, by simp [PyData.depth, PyData.depthAll], by simp only [PyData.eqv, PyData.eqvAll, beq_self_eq_true, Bool.and_self]⟩
  | i n _ _ => exact ⟨by simp only [PyData.canLay0], by simp [PyData.depth], by simp only [PyData.eqv, beq_self_eq_true]⟩
  | f x n hx _ _ => exact ⟨by simp only [PyData.canLay0, PyData.canLayAll0]; rw [okName_cps hx]; decide +kernel, by simp [PyData.depth, PyData.depthAll], by simp only [PyData.eqv, PyData.eqvAll, beq_self_eq_true, Bool.and_self]⟩
theorem nds_lay : ∀ {ds : List PyData}, (∀ d ∈ ds, NdA d) → PyData.canLayAll0 ds = true ∧ PyData.depthAll ds ≤ 1 ∧ PyData.eqvAll ds ds = true
  | [], _ => ⟨by simp only [PyData.canLayAll0], by simp [PyData.depthAll], by simp only [PyData.eqvAll]⟩
  | d :: r, h => by
    obtain ⟨a1, a2, a3⟩ := nd_lay (h d List.mem_cons_self)
    obtain ⟨b1, b2, b3⟩ := nds_lay (ds := r) fun e he => h e (List.mem_cons_of_mem _ he)
    refine ⟨by simp only [PyData.canLayAll0, a1, b1, Bool.and_self], ?_, by simp only [PyData.eqvAll, a3, b3, Bool.and_self]⟩
    simp only [PyData.depthAll]
    omega
theorem nd_shaped {d : PyData} (h : NdA d) : SeqAt.shaped d = true := by
  obtain ⟨a1, a2, _⟩ := nd_lay h
  show (d.canLay0 && decide (d.depth ≤ 64)) = true
  rw [a1, decide_eq_true (by omega)]
  rfl
theorem tup_shaped {ds : List PyData} (h : ∀ d ∈ ds, NdA d) : SeqAt.shaped (.tuple ds) = true := by
  obtain ⟨a1, a2, _⟩ := nds_lay h
  have hd : (PyData.tuple ds).depth ≤ 64 := by
    simp only [PyData.depth]
    omega
  have hc : (PyData.tuple ds).canLay0 = true := by
    simp only [PyData.canLay0]
    exact a1
  show ((PyData.tuple ds).canLay0 && decide ((PyData.tuple ds).depth ≤ 64)) = true
  rw [hc, decide_eq_true hd]
  rfl
theorem tup_eqv {ds : List PyData} (h : ∀ d ∈ ds, NdA d) : PyData.eqv (.tuple ds) (.tuple ds) = true := by
  simp only [PyData.eqv]
  exact (nds_lay h).2.2
/-- name = {k: v for ..} on one line, the name a local -/
theorem ps_setDc {X : Cx} {i : Nat} {y : Str} {py : Pos} {kx vx tg iter : Expr} {ifs : List Expr} {scope : Scope} {own : List (Str × Nat)} {pos spos : Pos} {wi : TI} {g : TG} {tt : TT} {tk tv : TE} (c1 : X.calm = true) (c2 : X.N.Nodup) (c3 : X.N[i]? = some y) (c4 : X.env.scope.names.lookup y = some .local)
    (c5 : swapsWith (.DictComp kx vx [⟨tg, iter, ifs, 0⟩] scope pos) (some (.Name y py)) spos.line X.env = pure true) (c6 : PI X tg iter wi) (c7 : BlkOk X.N X.env.scope scope own)
    (c8 : ∀ (z : Shared) (H : Hp) (C : Addr) (cl : List (Str × Addr)) (fp : List Addr), PG (X.blk z H scope (compEnvC scope cl C X.env) fp) tg g) (c9 : ∀ (z : Shared) (H : Hp) (C : Addr) (cl : List (Str × Addr)) (fp : List Addr), PTs (X.blk z H scope (compEnvC scope cl C X.env) fp) ifs tt)
    (d1 : ∀ (z : Shared) (H : Hp) (C : Addr) (cl : List (Str × Addr)) (fp : List Addr), PE (X.blk z H scope (compEnvC scope cl C X.env) fp) kx tk)
    (d2 : ∀ (z : Shared) (H : Hp) (C : Addr) (cl : List (Str × Addr)) (fp : List Addr), PE (X.blk z H scope (compEnvC scope cl C X.env) fp) vx tv) (d3 : ∀ x, foldedSetIterable iter X.env x = pure x := by intro _; rfl) :
    PS X (.Assign [.Name y py] (.DictComp kx vx [⟨tg, iter, ifs, 0⟩] scope pos) spos) (tAsg (tDc wi g tt tk tv (own.map (·.2))) (gName i)) := by
  refine ⟨fun pins st0 σ H D inv hyp => ?_⟩
  have hyp' : tDc wi g tt tk tv (own.map (·.2)) σ H (fun v Hq => gName i v σ Hq D.nx) := hyp
  rw [exec_Assign_Name_used _ _ _ _ c5]
  refine wpAny_bind <| wpAny_standAt <| wpAny_bind ?_
  show wpAny _ X.A (do let _ ← comprehension (.DictComp kx vx [⟨tg, iter, ifs, 0⟩] scope pos) scope X.env (firstIterPos [⟨tg, iter, ifs, 0⟩] pos) newDict false (eval iter X.env) (some (assign (.Name y py) X.env))) _ _ st0
  have core := dc_core (Qf := fun _ fin => SP X pins D .next fin) (pos := pos) (pos' := firstIterPos [⟨tg, iter, ifs, 0⟩] pos) (use := some (assign (.Name y py) X.env)) c1 c2 inv c6 c7 c8 c9 d1 d2 d3 hyp' fun L C fin mm Hf inv' qf nsC fp => by
    show wpAny _ _ (assign (.Name y py) X.env (.ref L)) _ _ _
    obtain ⟨e0, e1, e2, e3, e4, e5⟩ := fp
    refine wpAny_assign_Name (store_ok2 (v := V.ref L) inv' c2 c3 (.inl c4) rfl (fun fin2 inv2 ⟨w, same, hw⟩ => ?_) (.inr c4))
    have cw : C ≠ w := by
      intro z
      cases hw with
      | inl hw => exact e1 (z.trans hw)
      | inr hw => exact e4 y w hw z.symm
    exact ⟨mm, nsC.sameBut same cw, fun h3 sb3 => ⟨_, Hf, inv2.turned (t' := fin2.toks) (fun b o hb e => (sb3.2 b hb).trans e) e0 e1 e3 e4 e5, qf⟩⟩
  exact wpAny_bind (thn core fun _ fin hq => wpAny_pure (wpAny_pure hq))
theorem seq_via {t u : TS} {D : Ends} {σ : L2.St} {H : Hp} (P : L2.St → Hp → Prop) (hu : ∀ σ H, P σ H → u D σ H) (ht : (∀ σ H, P σ H → u D σ H) → t { D with nx := u D } σ H) : tSeq t u D σ H := ht hu
def isVarN : PyData → Bool
  | .tuple [_, _] => true | _ => false
def numN : PyData → Int
  | .tuple [_, .int n] => n | _ => 0
theorem var_arN {d : PyData} (h : isVarN d = true) : arN d = 0 := by
  cases d with
  | tuple ds =>
    rcases ds with _ | ⟨a, _ | ⟨b, _ | ⟨c, r⟩⟩⟩
    · rfl
    · rfl
    · rfl
    · cases h
  | _ => rfl
theorem nd_eq {d e : PyData} (h : NdA d) (h2 : NdA e) (q : PyData.eqv d e = true) : d = e := by
  obtain ⟨wd, h⟩ := h
  obtain ⟨we, h2⟩ := h2
  cases h with
  | v n _ _ =>
    cases h2 with
    | v m _ _ =>
      simp only [PyData.eqv, PyData.eqvAll, Bool.and_eq_true, beq_iff_eq] at q
      rw [q.2.1]
    | i m _ _ => simp [PyData.eqv] at q
    | f x m _ _ _ => simp [PyData.eqv, PyData.eqvAll] at q
  | i n _ _ =>
    cases h2 with
    | v m _ _ => simp [PyData.eqv] at q
    | i m _ _ =>
      simp only [PyData.eqv, beq_iff_eq] at q
      rw [q]
    | f x m _ _ _ => simp [PyData.eqv] at q
  | f x n _ _ _ =>
    cases h2 with
    | v m _ _ => simp [PyData.eqv, PyData.eqvAll] at q
    | i m _ _ => simp [PyData.eqv] at q
    | f y m _ _ _ =>
      simp only [PyData.eqv, PyData.eqvAll, Bool.and_eq_true, beq_iff_eq] at q
      rw [q.2.1, q.2.2.1]
theorem nds_eq : ∀ {ds es : List PyData}, (∀ d ∈ ds, NdA d) → (∀ e ∈ es, NdA e) → PyData.eqvAll ds es = true → ds = es
  | [], [], _, _, _ => rfl
  | [], _ :: _, _, _, h => by simp [PyData.eqvAll] at h
  | _ :: _, [], _, _, h => by simp [PyData.eqvAll] at h
  | d :: ds, e :: es, h1, h2, h => by
    simp only [PyData.eqvAll, Bool.and_eq_true] at h
    rw [nd_eq (h1 d List.mem_cons_self) (h2 e List.mem_cons_self) h.1, nds_eq (fun x hx => h1 x (List.mem_cons_of_mem _ hx)) (fun x hx => h2 x (List.mem_cons_of_mem _ hx)) h.2]
theorem tup_eq {ds es : List PyData} (h1 : ∀ d ∈ ds, NdA d) (h2 : ∀ e ∈ es, NdA e) (h : PyData.eqv (.tuple ds) (.tuple es) = true) : ds = es := by
  simp only [PyData.eqv] at h
  exact nds_eq h1 h2 h
theorem cls_app : ∀ (l r : List PyData) (j k : Nat), Cls j l → Cls k r → Cls (j + k) (l ++ r)
  | [], r, j, k, h, h2 => by
    have e : j = 0 := h
    rw [e, Nat.zero_add]
    exact h2
  | d :: l, r, j, k, h, h2 => by
    refine ⟨by have := h.1; omega, ?_⟩
    have := cls_app l r (j - 1 + arN d) k h.2 h2
    have e := h.1
    rwa [show j - 1 + arN d + k = j + k - 1 + arN d by omega] at this
/-- at each place of what is closed so many terms are missing -/
theorem cls_split : ∀ (ds : List PyData) (m i : Nat), Cls m ds → i ≤ ds.length → ∃ k, Cls k (ds.drop i) ∧ ∀ t, Cls k t → Cls m (ds.take i ++ t)
  | ds, m, 0, h, _ => ⟨m, h, fun t ht => ht⟩
  | [], m, i + 1, h, hi => absurd hi (by simp)
  | d :: ds, m, i + 1, h, hi => by
    obtain ⟨k, h1, h2⟩ := cls_split ds (m - 1 + arN d) i h.2 (by simpa using hi)
    exact ⟨k, h1, fun t ht => ⟨h.1, h2 t ht⟩⟩
abbrev Tab := List (Int × List PyData)
def valT (t : Tab) (n : Int) : Option (List PyData) := (t.find? fun p => decide (p.1 = n)).map (·.2)
/-- a dict with this table -/
def TabK (K : PySem.W.Frag) (H : Hp) : List (Key × V) → Tab → Prop
  | [], [] => True
  | p :: kvs, q :: t => p.1 = Sum.inl q.1 ∧ Dp K H p.2 (.tuple q.2) ∧ TabK K H kvs t
  | _, _ => False
def TabN (t : Tab) : Prop := ∀ p ∈ t, (∀ d ∈ p.2, NdA d)
theorem TabK.len {K : PySem.W.Frag} {H : Hp} : ∀ {kvs : List (Key × V)} {t : Tab}, TabK K H kvs t → kvs.length = t.length
  | [], [], _ => rfl
  | [], _ :: _, h => h.elim
  | _ :: _, [], h => h.elim
  | p :: kvs, q :: t, h => congrArg (· + 1) (TabK.len h.2.2)
theorem TabK.mono {K : PySem.W.Frag} {H H' : Hp} (f : ∀ v ds, (∀ d ∈ ds, NdA d) → Dp K H v (.tuple ds) → Dp K H' v (.tuple ds)) : ∀ {kvs : List (Key × V)} {t : Tab}, TabN t → TabK K H kvs t → TabK K H' kvs t
  | [], [], _, _ => True.intro
  | [], _ :: _, _, h => h.elim
  | _ :: _, [], _, h => h.elim
  | p :: kvs, q :: t, n, h => ⟨h.1, f _ _ (n q List.mem_cons_self) h.2.1, TabK.mono f (fun x hx => n x (List.mem_cons_of_mem _ hx)) h.2.2⟩
theorem TabK.val {K : PySem.W.Frag} {H : Hp} (n : Int) : ∀ {kvs : List (Key × V)} {t : Tab}, TabK K H kvs t → (valV kvs (Sum.inl n) = none ∧ valT t n = none) ∨ ∃ v ds, valV kvs (Sum.inl n) = some v ∧ valT t n = some ds ∧ Dp K H v (.tuple ds)
  | [], [], _ => .inl ⟨rfl, rfl⟩
  | [], _ :: _, h => h.elim
  | _ :: _, [], h => h.elim
  | p :: kvs, q :: t, h => by
    by_cases e : q.1 = n
    · refine .inr ⟨p.2, q.2, valV_pos (by rw [h.1, e]), ?_, h.2.1⟩
      unfold valT
      rw [List.find?_cons, decide_eq_true e]
      rfl
    · have e1 : ¬ p.1 = Sum.inl n := fun z => e (Sum.inl.inj (h.1.symm.trans z))
      have e2 : valT (q :: t) n = valT t n := by
        unfold valT
        rw [List.find?_cons, decide_eq_false e]
      rw [valV_neg e1, e2]
      exact TabK.val n h.2.2
theorem TabK.snoc {K : PySem.W.Frag} {H : Hp} {n : Int} {v : V} {ds : List PyData} (hd : Dp K H v (.tuple ds)) : ∀ {kvs : List (Key × V)} {t : Tab}, TabK K H kvs t → TabK K H (kvs ++ [(Sum.inl n, v)]) (t ++ [(n, ds)])
  | [], [], _ => ⟨rfl, hd, True.intro⟩
  | [], _ :: _, h => h.elim
  | _ :: _, [], h => h.elim
  | p :: kvs, q :: t, h => ⟨h.1, h.2.1, TabK.snoc hd h.2.2⟩
theorem valT_snoc (t : Tab) (n m : Int) (ds : List PyData) (h : valT t n = none) : valT (t ++ [(n, ds)]) m = if m = n then some ds else valT t m := by
  unfold valT at *
  rw [List.find?_append]
  cases e : t.find? fun p => decide (p.1 = m) with
  | some p =>
    have hm : ¬ m = n := fun z => by rw [z] at e; rw [e] at h; cases h
    rw [if_neg hm]
    rfl
  | none =>
    by_cases hm : m = n
    · rw [if_pos hm, Option.none_or]
      rw [List.find?_cons, decide_eq_true hm.symm]
      rfl
    · rw [if_neg hm, Option.none_or]
      rw [List.find?_cons, decide_eq_false (fun z => hm z.symm)]
      rfl
theorem valT_none {t : Tab} {n : Int} (h : valT t n = none) : ∀ q ∈ t, q.1 ≠ n := by
  intro q hq e
  unfold valT at h
  rw [Option.map_eq_none_iff, List.find?_eq_none] at h
  exact h q hq (decide_eq_true e)
mutual
def noL : PyData → Bool
  | .none => true
  | .bool _ => true
  | .int _ => true
  | .str _ => true
  | .tuple ds => noLA ds
  | .list _ => false
  | .dict _ => false
def noLA : List PyData → Bool
  | [] => true
  | d :: ds => noL d && noLA ds
end
def notTup (H : Hp) (p : Addr) : Prop := (∃ ys, H p = some (.lst ys)) ∨ (∃ kvs, H p = some (.dK kvs)) ∨ ∃ o kvs, H p = some (.frz o (.dK kvs))
theorem sqT_put {K : PySem.W.Frag} {H : Hp} {p b : Addr} {o : HO} {xs : List V} (hp : notTup H p) (h : SqT K H b xs) : SqT K (upd H p o) b xs := by
  rcases h with (h | ⟨q, h⟩) | h
  · exact .inl (.inl (by rw [upd_ne (fun z => by rw [z] at h; rcases hp with ⟨_, hp⟩ | ⟨_, hp⟩ | ⟨_, _, hp⟩ <;> (rw [hp] at h; cases h))]; exact h))
  · exact .inl (.inr ⟨q, by rw [upd_ne (fun z => by rw [z] at h; rcases hp with ⟨_, hp⟩ | ⟨_, hp⟩ | ⟨_, _, hp⟩ <;> (rw [hp] at h; cases h))]; exact h⟩)
  · exact .inr h
section
variable {K : PySem.W.Frag} {H : Hp} {p : Addr} {o : HO}
mutual
theorem dp_put (hp : notTup H p) : ∀ (d : PyData) (v : V), noL d = true → Dp K H v d → Dp K (upd H p o) v d
  | .none, _, _, h => by cases h; exact .non
  | .bool b, _, _, h => by cases h; exact .bl b
  | .int i, _, _, h => by cases h; exact .int i
  | .str x, _, _, h => by cases h; exact .str x
  | .list ds, _, n, h => by simp [noL] at n
  | .tuple ds, _, n, h => by
    cases h with
    | tup g ha => exact .tup (sqT_put hp g) (dp_putAll hp ds _ (by simpa [noL] using n) ha)
  | .dict _, _, n, h => by cases h
theorem dp_putAll (hp : notTup H p) : ∀ (ds : List PyData) (vs : List V), noLA ds = true → DpAll K H vs ds → DpAll K (upd H p o) vs ds
  | [], _, _, h => by cases h; exact .nil
  | d :: ds, _, n, h => by
    rw [noLA, Bool.and_eq_true] at n
    cases h with
    | cons h1 h2 => exact .cons (dp_put hp d _ n.1 h1) (dp_putAll hp ds _ n.2 h2)
end
end
theorem nd_noL {d : PyData} (h : NdA d) : noL d = true := by
  obtain ⟨wd, h⟩ := h
  cases h <;> simp [noL, noLA]
theorem nds_noL : ∀ {ds : List PyData}, (∀ d ∈ ds, NdA d) → noLA ds = true
  | [], _ => by simp [noLA]
  | d :: r, h => by rw [noLA, nd_noL (h d List.mem_cons_self), nds_noL fun e he => h e (List.mem_cons_of_mem _ he)]; rfl
theorem tup_noL {ds : List PyData} (h : ∀ d ∈ ds, NdA d) : noL (.tuple ds) = true := by rw [noL]; exact nds_noL h
theorem tab_put {K : PySem.W.Frag} {H : Hp} {p : Addr} {o : HO} {kvs : List (Key × V)} {t : Tab} (hp : notTup H p) (n : TabN t) (h : TabK K H kvs t) : TabK K (upd H p o) kvs t := TabK.mono (fun v ds hn hd => dp_put hp _ _ (tup_noL hn) hd) n h
theorem tab_same {K : PySem.W.Frag} {H H' : Hp} {kvs : List (Key × V)} {t : Tab} (s : Same H H') (n : TabN t) (h : TabK K H kvs t) : TabK K H' kvs t := TabK.mono (fun v ds _ hd => dp_same s _ _ hd) n h
section
variable {K : PySem.W.Frag} {H H' : Hp}
mutual
theorem dp_map (f : ∀ b xs, SqT K H b xs → SqT K H' b xs) : ∀ (d : PyData) (v : V), noL d = true → Dp K H v d → Dp K H' v d
  | .none, _, _, h => by cases h; exact .non
  | .bool b, _, _, h => by cases h; exact .bl b
  | .int i, _, _, h => by cases h; exact .int i
  | .str x, _, _, h => by cases h; exact .str x
  | .list ds, _, n, h => by simp [noL] at n
  | .tuple ds, _, n, h => by
    cases h with
    | tup g ha => exact .tup (f _ _ g) (dp_mapAll f ds _ (by simpa [noL] using n) ha)
  | .dict _, _, n, h => by cases h
theorem dp_mapAll (f : ∀ b xs, SqT K H b xs → SqT K H' b xs) : ∀ (ds : List PyData) (vs : List V), noLA ds = true → DpAll K H vs ds → DpAll K H' vs ds
  | [], _, _, h => by cases h; exact .nil
  | d :: ds, _, n, h => by
    rw [noLA, Bool.and_eq_true] at n
    cases h with
    | cons h1 h2 => exact .cons (dp_map f d _ n.1 h1) (dp_mapAll f ds _ n.2 h2)
end
theorem sqT_but {p b : Addr} {xs : List V} (hp : notTup H p) (hb : But p H H') (h : SqT K H b xs) : SqT K H' b xs := by
  rcases h with (h | ⟨q, h⟩) | h
  · exact .inl (.inl (hb _ _ (fun z => by rw [z] at h; rcases hp with ⟨_, hp⟩ | ⟨_, hp⟩ | ⟨_, _, hp⟩ <;> (rw [hp] at h; cases h)) h))
  · exact .inl (.inr ⟨q, hb _ _ (fun z => by rw [z] at h; rcases hp with ⟨_, hp⟩ | ⟨_, hp⟩ | ⟨_, _, hp⟩ <;> (rw [hp] at h; cases h)) h⟩)
  · exact .inr h
/-- draws change the stream alone -/
theorem dp_but {s l : Addr} {v : V} {ds : List PyData} (S : Stm H s l) (b : But s H H') (n : ∀ d ∈ ds, NdA d) (h : Dp K H v (.tuple ds)) : Dp K H' v (.tuple ds) := by
  obtain ⟨x, y, m, ns, e, _⟩ := S.ex
  exact dp_map (fun c xs g => sqT_but (.inl ⟨_, e⟩) b g) _ _ (tup_noL n) h
end
theorem TabK.rep {K : PySem.W.Frag} {H : Hp} {n : Int} {v : V} {ds : List PyData} (hd : Dp K H v (.tuple ds)) : ∀ {kvs : List (Key × V)} {t : Tab}, TabK K H kvs t → TabK K H (kvs.map fun kv => if kv.1 = Sum.inl n then (kv.1, v) else kv) (t.map fun q => if q.1 = n then (q.1, ds) else q)
  | [], [], _ => True.intro
  | [], _ :: _, h => h.elim
  | _ :: _, [], h => h.elim
  | p :: kvs, q :: t, h => by
    have i : p.1 = Sum.inl n ↔ q.1 = n := by rw [h.1]; exact ⟨fun z => Sum.inl.inj z, fun z => congrArg _ z⟩
    refine ⟨?_, ?_, TabK.rep hd h.2.2⟩
    · by_cases e : q.1 = n
      · simp only [if_pos e, if_pos (i.mpr e)]; exact h.1
      · simp only [if_neg e, if_neg (fun z => e (i.mp z))]; exact h.1
    · by_cases e : q.1 = n
      · simp only [if_pos e, if_pos (i.mpr e)]; exact hd
      · simp only [if_neg e, if_neg (fun z => e (i.mp z))]; exact h.2.1
theorem TabK.put {K : PySem.W.Frag} {H : Hp} {n : Int} {v : V} {ds : List PyData} (hd : Dp K H v (.tuple ds)) {kvs : List (Key × V)} {t : Tab} (h : TabK K H kvs t) : ∃ t', TabK K H (putK kvs (Sum.inl n) v) t' ∧ (∀ q ∈ t', q ∈ t ∨ q.2 = ds) ∧ t'.length ≤ t.length + 1 := by
  unfold putK
  split
  · refine ⟨_, TabK.rep hd h, fun q hq => ?_, by rw [List.length_map]; exact Nat.le_succ _⟩
    obtain ⟨q', h1, h2⟩ := List.mem_map.mp hq
    split at h2
    · right; rw [← h2]
    · left; rw [← h2]; exact h1
  · refine ⟨_, TabK.snoc hd h, fun q hq => ?_, by rw [List.length_append]; exact Nat.le_refl _⟩
    rcases List.mem_append.mp hq with z | z
    · exact .inl z
    · right; rw [List.mem_singleton.mp z]
theorem TabK.at_ {K : PySem.W.Frag} {H : Hp} : ∀ {kvs : List (Key × V)} {t : Tab} {i : Nat} {k : Key} {v : V}, TabK K H kvs t → kvs[i]? = some (k, v) → ∃ q, q ∈ t ∧ k = Sum.inl q.1
  | [], [], i, k, v, _, h => by simp at h
  | [], _ :: _, _, _, _, h, _ => h.elim
  | _ :: _, [], _, _, _, h, _ => h.elim
  | p :: kvs, q :: t, 0, k, v, h, e => by
    rw [List.getElem?_cons_zero] at e
    cases e
    exact ⟨q, List.mem_cons_self, h.1⟩
  | p :: kvs, q :: t, i + 1, k, v, h, e => by
    rw [List.getElem?_cons_succ] at e
    obtain ⟨q', h1, h2⟩ := TabK.at_ h.2.2 e
    exact ⟨q', List.mem_cons_of_mem _ h1, h2⟩
theorem valT_of {t : Tab} {q : Int × List PyData} (h : q ∈ t) : ∃ ds, valT t q.1 = some ds := by
  cases e : valT t q.1 with
  | some ds => exact ⟨ds, rfl⟩
  | none => exact absurd rfl (valT_none e q h)
theorem putK_old {kvs : List (Key × V)} {k : Key} {v w : V} (h : valV kvs k = some w) : putK kvs k v = kvs.map fun kv => if kv.1 = k then (kv.1, v) else kv := by
  unfold putK
  rw [if_pos (by rw [valV_any, h]; rfl)]
theorem valT_mem {t : Tab} {n : Int} {ds : List PyData} (h : valT t n = some ds) : ∃ q ∈ t, q.2 = ds := by
  unfold valT at h
  cases e : t.find? fun p => decide (p.1 = n) with
  | none => rw [e] at h; cases h
  | some p =>
    rw [e] at h
    exact ⟨p, List.mem_of_find?_eq_some e, Option.some.inj h⟩
/-- a dict comprehension over what is walked -/
theorem dc_it {J : It} {n : Nat} {G : Hp → Prop} {Y : Nat → Hp → V → Hp → Prop} (wk : Walk J n G Y) {g : TG} {tt : TT} {tk tv : TE} {vs : List Nat} {σ : L2.St} {H1 : Hp} {D : Addr} {Qd : Hp → Prop} (Pv : Nat → Hp → Prop) (p0 : Pv 0 (upd H1 D (.dK []))) (pG : ∀ i H, i ≤ n → Pv i H → G H)
    (turn : ∀ i x H H', i < n → Pv i H → Y i H x H' → g x (wipe σ vs) H' fun σ2 H2 => wipe σ2 vs = wipe σ vs ∧ tt σ2 H2 fun b H3 =>
      if b = true then tk σ2 H3 fun y H4 => tv σ2 H4 fun z H5 => ∃ kvs k, y = kV k ∧ H5 D = some (.dK kvs) ∧ kvs.length < sizeLine ∧ Pv (i + 1) (upd H5 D (.dK (putK kvs k z))) else Pv (i + 1) H3) (pd : ∀ H, Pv n H → Qd H) :
    ∃ W : Nat → Nat → Hp → Prop, (∃ m, W 0 m (upd H1 D (.dK []))) ∧ ∀ i m H, W i m H →
      (J.stop i H ∧ Qd H) ∨ (J.go i H ∧ ∃ Nx : Hp → Prop, (∀ H', Nx H' → ∃ m', m' < m ∧ W (i + 1) m' H') ∧ ∀ x H', J.yld i H x H' → g x (wipe σ vs) H' fun σ2 H2 => wipe σ2 vs = wipe σ vs ∧ tt σ2 H2 fun b H3 =>
        if b = true then tk σ2 H3 fun y H4 => tv σ2 H4 fun z H5 => ∃ kvs k, y = kV k ∧ H5 D = some (.dK kvs) ∧ kvs.length < sizeLine ∧ Nx (upd H5 D (.dK (putK kvs k z))) else Nx H3) := by
  refine ⟨fun i m H => m = n - i ∧ i ≤ n ∧ Pv i H, ⟨n, by simp, Nat.zero_le _, p0⟩, ?_⟩
  rintro i m H ⟨rfl, hi, hp⟩
  have hg := pG i H hi hp
  rcases Nat.lt_or_ge i n with hlt | hge
  · exact .inr ⟨wk.goes i H hlt hg, Pv (i + 1), fun σ' p' => ⟨n - (i + 1), by omega, rfl, hlt, p'⟩, fun x H' y => turn i x H H' hlt hp (wk.yields i H x H' hlt hg y)⟩
  · obtain rfl : i = n := by omega
    exact .inl ⟨wk.stops H hg, pd H hp⟩
theorem TabK.get {K : PySem.W.Frag} {H : Hp} : ∀ {kvs : List (Key × V)} {t : Tab} {i : Nat} {kv : Key × V}, TabK K H kvs t → kvs[i]? = some kv → ∃ q, t[i]? = some q ∧ kv.1 = Sum.inl q.1 ∧ Dp K H kv.2 (.tuple q.2)
  | [], [], i, kv, _, h => by simp at h
  | [], _ :: _, _, _, h, _ => h.elim
  | _ :: _, [], _, _, h, _ => h.elim
  | p :: kvs, q :: t, 0, kv, h, e => by
    rw [List.getElem?_cons_zero] at e
    cases e
    exact ⟨q, rfl, h.1, h.2.1⟩
  | p :: kvs, q :: t, i + 1, kv, h, e => by
    rw [List.getElem?_cons_succ] at e
    obtain ⟨q', h1, h2⟩ := TabK.get h.2.2 e
    exact ⟨q', by rw [List.getElem?_cons_succ]; exact h1, h2⟩
theorem valT_notin {t : Tab} {n : Int} (h : n ∉ t.map (·.1)) : valT t n = none := by
  unfold valT
  rw [Option.map_eq_none_iff, List.find?_eq_none]
  exact fun q hq e => h (List.mem_map.mpr ⟨q, hq, of_decide_eq_true e⟩)
theorem TabK.none {K : PySem.W.Frag} {H : Hp} {kvs : List (Key × V)} {t : Tab} {n : Int} (T : TabK K H kvs t) (h : n ∉ t.map (·.1)) : valV kvs (Sum.inl n) = Option.none := by
  rcases TabK.val n T with ⟨w, _⟩ | ⟨v, ds, _, w, _⟩
  · exact w
  · rw [valT_notin h] at w; cases w
theorem TabK.some {K : PySem.W.Frag} {H : Hp} {kvs : List (Key × V)} {t : Tab} {n : Int} (T : TabK K H kvs t) (h : n ∈ t.map (·.1)) : (valV kvs (Sum.inl n)).isSome = true := by
  obtain ⟨q, hq, rfl⟩ := List.mem_map.mp h
  rcases TabK.val q.1 T with ⟨_, w⟩ | ⟨v, ds, w, _, _⟩
  · exact absurd rfl (valT_none w q hq)
  · rw [w]; rfl
/-- a key that is new goes to the end -/
theorem TabK.add {K : PySem.W.Frag} {H : Hp} {kvs : List (Key × V)} {t : Tab} {n : Int} {v : V} {ds : List PyData} (T : TabK K H kvs t) (h : n ∉ t.map (·.1)) (hd : Dp K H v (.tuple ds)) : TabK K H (putK kvs (Sum.inl n) v) (t ++ [(n, ds)]) := by
  rw [putK_new _ (T.none h)]
  exact TabK.snoc hd T
/-- the i-th key is none of those before -/
theorem nodup_new {t : Tab} {i : Nat} {q : Int × List PyData} (h : (t.map (·.1)).Nodup) (hq : t[i]? = some q) : q.1 ∉ (t.take i).map (·.1) := by
  intro hm
  obtain ⟨x, hx, e⟩ := List.mem_map.mp hm
  obtain ⟨j, hj⟩ := List.getElem?_of_mem hx
  have hji : j < i := by
    have := (List.getElem?_eq_some_iff.mp hj).1
    rw [List.length_take] at this
    omega
  rw [List.getElem?_take_of_lt hji] at hj
  have a1 : (t.map (·.1))[j]? = some q.1 := by rw [List.getElem?_map, hj, ← e]; rfl
  have a2 : (t.map (·.1))[i]? = some q.1 := by rw [List.getElem?_map, hq]; rfl
  have b1 := (List.getElem?_eq_some_iff.mp a1).1
  have := (List.getElem?_inj b1 h).mp (a1.trans a2.symm)
  omega
/-! ### substitutions -/
def varN (n : Int) : List PyData := [.tuple [.str "v", .int n]]
def appN (t : Tab) (d : PyData) : List PyData := if isVarN d = true then (match valT t (numN d) with | some w => w | none => [d]) else [d]
def appM (t : Tab) (ds : List PyData) : List PyData := ds.flatMap (appN t)
/-- a value that is the key itself falls out -/
def keepN (n : Int) (w : List PyData) : Option (List PyData) := if PyData.eqv (.tuple w) (.tuple (varN n)) = true then none else some w
def compV (t u : Tab) (n : Int) : Option (List PyData) :=
  match valT t n with
  | some w => keepN n (appM u w)
  | none => (match valT u n with | some w => keepN n w | none => none)
theorem var_form {d : PyData} (h : NdA d) (v : isVarN d = true) : ∃ n, d = .tuple [.str "v", .int n] := by
  obtain ⟨wd, nd⟩ := h
  cases nd with
  | v n _ _ => exact ⟨n, rfl⟩
  | i n _ _ => cases v
  | f x n _ _ _ => cases v
theorem var_nd {n : Int} (h : 0 ≤ n) : ∀ d ∈ varN n, NdA d := fun d hd => ⟨n + 1, by rw [List.mem_singleton.mp hd]; exact .v n h (by omega)⟩
theorem valT_nd {t : Tab} {n : Int} {w : List PyData} (ht : TabN t) (h : valT t n = some w) : ∀ d ∈ w, NdA d := by
  obtain ⟨q, hq, e⟩ := valT_mem h
  rw [← e]
  exact ht q hq
theorem appN_nd {t : Tab} (ht : TabN t) {d : PyData} (hd : NdA d) : ∀ e ∈ appN t d, NdA e := by
  unfold appN
  by_cases v : isVarN d = true
  · rw [if_pos v]
    cases e : valT t (numN d) with
    | some w => exact valT_nd ht e
    | none => exact fun e he => by rw [List.mem_singleton.mp he]; exact hd
  · rw [if_neg v]
    exact fun e he => by rw [List.mem_singleton.mp he]; exact hd
theorem appM_nd {t : Tab} (ht : TabN t) {ds : List PyData} (hd : ∀ d ∈ ds, NdA d) : ∀ e ∈ appM t ds, NdA e := fun e he => by
  obtain ⟨d, h1, h2⟩ := List.mem_flatMap.mp he
  exact appN_nd ht (hd d h1) e h2
theorem var_num {d : PyData} (h : NdA d) (v : isVarN d = true) : ∃ n, 0 ≤ n ∧ d = .tuple [.str "v", .int n] := by
  obtain ⟨wd, nd⟩ := h
  cases nd with
  | v n h1 _ => exact ⟨n, h1, rfl⟩
  | i n _ _ => cases v
  | f x n _ _ _ => cases v
theorem comp_app {t u c : Tab} (nt : TabN t) (nu : TabN u) (hc : ∀ n, valT c n = compV t u n) {ds : List PyData} (nd : ∀ d ∈ ds, NdA d) : appM c ds = appM u (appM t ds) := by
  unfold appM
  rw [List.flatMap_assoc]
  have h : ∀ d ∈ ds, appN c d = (appN t d).flatMap (appN u) := by
    intro d hd
    by_cases v : isVarN d = true
    · obtain ⟨n, n0, rfl⟩ := var_num (nd d hd) v
      have e1 : ∀ s : Tab, appN s (.tuple [.str "v", .int n]) = (match valT s n with | some w => w | none => varN n) := fun s => by
        unfold appN
        rw [if_pos v]
        rfl
      rw [e1, e1, hc n]
      unfold compV
      cases ht : valT t n with
      | some w =>
        simp only
        unfold keepN
        by_cases hk : PyData.eqv (.tuple (appM u w)) (.tuple (varN n)) = true
        · rw [if_pos hk]
          exact (tup_eq (appM_nd nu (valT_nd nt ht)) (var_nd n0) hk).symm
        · rw [if_neg hk]
          rfl
      | none =>
        simp only
        have e2 : (varN n).flatMap (appN u) = (match valT u n with | some w => w | none => varN n) := by
          unfold varN
          rw [List.flatMap_cons, List.flatMap_nil, List.append_nil]
          exact e1 u
        rw [e2]
        cases hu : valT u n with
        | some w =>
          simp only
          unfold keepN
          by_cases hk : PyData.eqv (.tuple w) (.tuple (varN n)) = true
          · rw [if_pos hk]
            exact (tup_eq (valT_nd nu hu) (var_nd n0) hk).symm
          · rw [if_neg hk]
        | none => rfl
    · have e3 : ∀ s : Tab, appN s d = [d] := fun s => if_neg v
      rw [e3, e3, List.flatMap_cons, List.flatMap_nil, List.append_nil, e3]
  clear hc
  induction ds with
  | nil => rfl
  | cons d r ih =>
    rw [List.flatMap_cons, List.flatMap_cons, h d List.mem_cons_self, ih (fun x hx => nd x (List.mem_cons_of_mem _ hx)) fun x hx => h x (List.mem_cons_of_mem _ hx)]
theorem appM_take {t : Tab} {ds : List PyData} {i : Nat} {d : PyData} (h : ds[i]? = some d) : appM t (ds.take (i + 1)) = appM t (ds.take i) ++ appN t d := by
  unfold appM
  rw [List.take_add_one, h, List.flatMap_append]
  show _ ++ (appN t d ++ []) = _
  rw [List.append_nil]
theorem appN_non {t : Tab} {d : PyData} (v : ¬ isVarN d = true) : appN t d = [d] := if_neg v
theorem appN_out {t : Tab} {n : Int} (h : valT t n = none) : appN t (.tuple [.str "v", .int n]) = [.tuple [.str "v", .int n]] := by
  unfold appN
  rw [if_pos (show isVarN (.tuple [.str "v", .int n]) = true from rfl), show numN (.tuple [.str "v", .int n]) = n from rfl, h]
theorem appN_in {t : Tab} {n : Int} {w : List PyData} (h : valT t n = some w) : appN t (.tuple [.str "v", .int n]) = w := by
  unfold appN
  rw [if_pos (show isVarN (.tuple [.str "v", .int n]) = true from rfl), show numN (.tuple [.str "v", .int n]) = n from rfl, h]
/-- the composed table: the first one's values with the second applied, then what the second adds, without a key that is its own value -/
def comp1 (t u : Tab) : Tab := t.map fun x => (x.1, appM u x.2)
def newK (t : Tab) (x : Int × List PyData) : Bool := !(decide (x.1 ∈ t.map (·.1)))
def notOwn (x : Int × List PyData) : Bool := !PyData.eqv (.tuple x.2) (.tuple (varN x.1))
def compT (t u : Tab) : Tab := (comp1 t u ++ u.filter (newK t)).filter notOwn
theorem comp1_keys (t u : Tab) : (comp1 t u).map (·.1) = t.map (·.1) := by unfold comp1; rw [List.map_map]; rfl
theorem comp1_nd {t u : Tab} (ht : TabN t) (hu : TabN u) : TabN (comp1 t u) := fun x hx => by
  obtain ⟨q, h1, rfl⟩ := List.mem_map.mp hx
  exact appM_nd hu (ht q h1)
/-! ### domains -/
def ivD (p : Int × Int) : PyData := .tuple [.int p.1, .int p.2]
def domD (D : List (Int × Int)) : PyData := .tuple (D.map ivD)
def Can : List (Int × Int) → Prop
  | [] => True
  | p :: D => p.1 ≤ p.2 ∧ (∀ q ∈ D, p.2 + 1 < q.1) ∧ Can D
def Inn (D : List (Int × Int)) (v : Int) : Prop := ∃ p ∈ D, p.1 ≤ v ∧ v ≤ p.2
theorem can_mem : ∀ {D : List (Int × Int)}, Can D → ∀ p ∈ D, p.1 ≤ p.2
  | _ :: _, h, p, hp => by
    rcases List.mem_cons.mp hp with z | z
    · rw [z]; exact h.1
    · exact can_mem h.2.2 p z
theorem inn_ge {p : Int × Int} {D : List (Int × Int)} (h : Can (p :: D)) {v : Int} (hv : Inn (p :: D) v) : p.1 ≤ v := by
  obtain ⟨q, hq, h1, h2⟩ := hv
  rcases List.mem_cons.mp hq with z | z
  · rw [z] at h1; exact h1
  · have := h.2.1 q z
    have := h.1
    omega
theorem can_end {p q : Int × Int} {D D' : List (Int × Int)} (h : Can (p :: D)) (h' : Can (q :: D')) (e : p.1 = q.1) (hv : ∀ v, Inn (q :: D') v → Inn (p :: D) v) : q.2 ≤ p.2 := by
  rcases (show p.2 < q.2 ∨ q.2 ≤ p.2 by omega) with z | z
  · exfalso
    have h1 := h.1
    obtain ⟨r, hr, r1, r2⟩ := hv (p.2 + 1) ⟨q, List.mem_cons_self, by omega, by omega⟩
    rcases List.mem_cons.mp hr with w | w
    · rw [w] at r2; omega
    · have := h.2.1 r w
      omega
  · exact z
theorem can_uniq : ∀ {D D' : List (Int × Int)}, Can D → Can D' → (∀ v, Inn D v ↔ Inn D' v) → D = D'
  | [], [], _, _, _ => rfl
  | [], q :: D', _, h, e => by
    obtain ⟨r, hr, _⟩ := (e q.1).mpr ⟨q, List.mem_cons_self, Int.le_refl _, h.1⟩
    cases hr
  | p :: D, [], h, _, e => by
    obtain ⟨r, hr, _⟩ := (e p.1).mp ⟨p, List.mem_cons_self, Int.le_refl _, h.1⟩
    cases hr
  | p :: D, q :: D', h, h', e => by
    have e1 : p.1 = q.1 := Int.le_antisymm (inn_ge h ((e q.1).mpr ⟨q, List.mem_cons_self, Int.le_refl _, h'.1⟩)) (inn_ge h' ((e p.1).mp ⟨p, List.mem_cons_self, Int.le_refl _, h.1⟩))
    have e2 : p.2 = q.2 := Int.le_antisymm (can_end h' h e1.symm fun v hv => (e v).mp hv) (can_end h h' e1 fun v hv => (e v).mpr hv)
    have half : ∀ {p q : Int × Int} {D D' : List (Int × Int)}, Can (p :: D) → p.2 = q.2 → (∀ v, Inn (p :: D) v → Inn (q :: D') v) → ∀ v, Inn D v → Inn D' v := by
      intro p q D D' h e2 e v ⟨r, hr, r1, r2⟩
      obtain ⟨t, ht, t1, t2⟩ := e v ⟨r, List.mem_cons_of_mem _ hr, r1, r2⟩
      rcases List.mem_cons.mp ht with z | z
      · have := h.2.1 r hr
        rw [z] at t2
        omega
      · exact ⟨t, z, t1, t2⟩
    have e3 := can_uniq h.2.2 h'.2.2 fun v => ⟨half h e2 (fun v => (e v).mp) v, half h' e2.symm (fun v => (e v).mpr) v⟩
    rw [e3, show p = q from Prod.ext e1 e2]
theorem can_snoc : ∀ {A : List (Int × Int)} {p : Int × Int}, Can (A ++ [p]) ↔ Can A ∧ p.1 ≤ p.2 ∧ ∀ q ∈ A, q.2 + 1 < p.1
  | [], p => ⟨fun h => ⟨True.intro, h.1, fun q hq => nomatch hq⟩, fun h => ⟨h.2.1, (fun q hq => nomatch hq), True.intro⟩⟩
  | a :: A, p => by
    constructor
    · rintro ⟨h1, h2, h3⟩
      obtain ⟨k1, k2, k3⟩ := can_snoc.mp h3
      refine ⟨⟨h1, fun q hq => h2 q (List.mem_append_left _ hq), k1⟩, k2, fun q hq => ?_⟩
      rcases List.mem_cons.mp hq with z | z
      · rw [z]; exact h2 p (List.mem_append_right _ (List.mem_singleton.mpr rfl))
      · exact k3 q z
    · rintro ⟨⟨h1, h2, h3⟩, k2, k3⟩
      refine ⟨h1, fun q hq => ?_, can_snoc.mpr ⟨h3, k2, fun q hq => k3 q (List.mem_cons_of_mem _ hq)⟩⟩
      rcases List.mem_append.mp hq with z | z
      · exact h2 q z
      · rw [List.mem_singleton.mp z]; exact k3 a List.mem_cons_self
/-- what the loop holds behind some values -/
structure Pre (I : List (Int × Int)) (pre : List Int) : Prop where
  can : Can I
  inn : ∀ w, Inn I w ↔ w ∈ pre
  top : ∀ A p, I = A ++ [p] → ∀ w ∈ pre, w ≤ p.2
theorem pre_nil : Pre [] [] := ⟨True.intro, fun w => ⟨fun ⟨_, h, _⟩ => (nomatch h), fun h => nomatch h⟩, fun A p h => by
  have := congrArg List.length h
  simp at this⟩
theorem snoc_inj {A B : List (Int × Int)} {p q : Int × Int} (h : A ++ [p] = B ++ [q]) : A = B ∧ p = q := by
  have := List.append_inj' h rfl
  exact ⟨this.1, List.singleton_inj.mp this.2⟩
theorem pre_new {I : List (Int × Int)} {pre : List Int} {v : Int} (h : Pre I pre) (hv : ∀ w ∈ pre, w ≤ v) (hn : ∀ A p, I = A ++ [p] → p.2 + 1 < v) : Pre (I ++ [(v, v)]) (pre ++ [v]) := by
  refine ⟨can_snoc.mpr ⟨h.can, Int.le_refl _, fun q hq => ?_⟩, fun w => ?_, fun A p e w hw => ?_⟩
  · rcases List.eq_nil_or_concat I with z | ⟨A, p, z⟩
    · rw [z] at hq; cases hq
    · have hp := hn A p (by rw [z, List.concat_eq_append])
      have hq2 : q.2 ∈ pre := (h.inn q.2).mp ⟨q, hq, can_mem h.can q hq, Int.le_refl _⟩
      have := h.top A p (by rw [z, List.concat_eq_append]) q.2 hq2
      show q.2 + 1 < v
      omega
  · constructor
    · rintro ⟨q, hq, h1, h2⟩
      rcases List.mem_append.mp hq with z | z
      · exact List.mem_append_left _ ((h.inn w).mp ⟨q, z, h1, h2⟩)
      · rw [List.mem_singleton.mp z] at h1 h2
        have e : w = v := Int.le_antisymm h2 h1
        rw [e]; exact List.mem_append_right _ (List.mem_singleton.mpr rfl)
    · intro hw
      rcases List.mem_append.mp hw with z | z
      · obtain ⟨q, hq, h1, h2⟩ := (h.inn w).mpr z
        exact ⟨q, List.mem_append_left _ hq, h1, h2⟩
      · rw [List.mem_singleton.mp z]
        exact ⟨(v, v), List.mem_append_right _ (List.mem_singleton.mpr rfl), Int.le_refl _, Int.le_refl _⟩
  · obtain ⟨_, e2⟩ := snoc_inj e
    rw [← e2]
    rcases List.mem_append.mp hw with z | z
    · exact hv w z
    · rw [List.mem_singleton.mp z]; exact Int.le_refl _
theorem pre_more {A : List (Int × Int)} {p : Int × Int} {pre : List Int} {v : Int} (h : Pre (A ++ [p]) pre) (hv : ∀ w ∈ pre, w ≤ v) (hn : v ≤ p.2 + 1) : Pre (A ++ [(p.1, v)]) (pre ++ [v]) := by
  obtain ⟨c1, c2, c3⟩ := can_snoc.mp h.can
  have hp2 : p.2 ∈ pre := (h.inn p.2).mp ⟨p, List.mem_append_right _ (List.mem_singleton.mpr rfl), c2, Int.le_refl _⟩
  have hpv := hv _ hp2
  refine ⟨can_snoc.mpr ⟨c1, by show p.1 ≤ v; omega, c3⟩, fun w => ?_, fun B q e w hw => ?_⟩
  · constructor
    · rintro ⟨q, hq, h1, h2⟩
      rcases List.mem_append.mp hq with z | z
      · exact List.mem_append_left _ ((h.inn w).mp ⟨q, List.mem_append_left _ z, h1, h2⟩)
      · rw [List.mem_singleton.mp z] at h1 h2
        have h1 : p.1 ≤ w := h1
        have h2 : w ≤ v := h2
        rcases (show p.2 < w ∨ w ≤ p.2 by omega) with y | y
        · have : w = v := by omega
          rw [this]; exact List.mem_append_right _ (List.mem_singleton.mpr rfl)
        · exact List.mem_append_left _ ((h.inn w).mp ⟨p, List.mem_append_right _ (List.mem_singleton.mpr rfl), h1, y⟩)
    · intro hw
      rcases List.mem_append.mp hw with z | z
      · obtain ⟨q, hq, h1, h2⟩ := (h.inn w).mpr z
        rcases List.mem_append.mp hq with y | y
        · exact ⟨q, List.mem_append_left _ y, h1, h2⟩
        · rw [List.mem_singleton.mp y] at h1 h2
          exact ⟨(p.1, v), List.mem_append_right _ (List.mem_singleton.mpr rfl), h1, by show w ≤ v; omega⟩
      · rw [List.mem_singleton.mp z]
        exact ⟨(p.1, v), List.mem_append_right _ (List.mem_singleton.mpr rfl), by show p.1 ≤ v; omega, Int.le_refl _⟩
  · obtain ⟨_, e2⟩ := snoc_inj e
    rw [← e2]
    rcases List.mem_append.mp hw with z | z
    · exact hv w z
    · rw [List.mem_singleton.mp z]; exact Int.le_refl _
/-- the domain of a set of values -/
def IsDom (D : List (Int × Int)) (ns : List Int) : Prop := Can D ∧ ∀ w, Inn D w ↔ w ∈ ns
theorem dom_uniq {D D' : List (Int × Int)} {ns ms : List Int} (h : IsDom D ns) (h' : IsDom D' ms) (e : ∀ v, v ∈ ns ↔ v ∈ ms) : D = D' :=
  can_uniq h.1 h'.1 fun v => (h.2 v).trans ((e v).trans (h'.2 v).symm)
def vals (p : Int × Int) : List Int := (List.range (p.2 + 1 - p.1).toNat).map fun i : Nat => p.1 + (i : Int)
def valsM (D : List (Int × Int)) : List Int := D.flatMap vals
theorem mem_vals {p : Int × Int} {v : Int} : v ∈ vals p ↔ p.1 ≤ v ∧ v ≤ p.2 := by
  unfold vals
  rw [List.mem_map]
  constructor
  · rintro ⟨i, hi, rfl⟩
    rw [List.mem_range] at hi
    omega
  · rintro ⟨h1, h2⟩
    exact ⟨(v - p.1).toNat, List.mem_range.mpr (by omega), by omega⟩
theorem mem_valsM {D : List (Int × Int)} {v : Int} : v ∈ valsM D ↔ Inn D v := by
  unfold valsM Inn
  rw [List.mem_flatMap]
  exact ⟨fun ⟨p, h1, h2⟩ => ⟨p, h1, mem_vals.mp h2⟩, fun ⟨p, h1, h2⟩ => ⟨p, h1, mem_vals.mpr h2⟩⟩
theorem vals_lt (p : Int × Int) : (vals p).Pairwise (· < ·) := by
  unfold vals
  rw [List.pairwise_map]
  exact List.pairwise_lt_range.imp fun h => by omega
theorem valsM_lt : ∀ {D : List (Int × Int)}, Can D → (valsM D).Pairwise (· < ·)
  | [], _ => List.Pairwise.nil
  | p :: D, h => by
    show (vals p ++ valsM D).Pairwise (· < ·)
    refine List.pairwise_append.mpr ⟨vals_lt p, valsM_lt h.2.2, fun a ha b hb => ?_⟩
    obtain ⟨q, hq, h1, h2⟩ := mem_valsM.mp hb
    have := h.2.1 q hq
    have := (mem_vals.mp ha).2
    omega
theorem lt_len : ∀ {l : List Int} {lo hi : Int}, l.Pairwise (· < ·) → (∀ v ∈ l, lo ≤ v ∧ v ≤ hi) → (l.length : Int) ≤ max (hi + 1 - lo) 0
  | [], _, _, _, _ => by simp; omega
  | v :: l, lo, hi, h, hb => by
    rw [List.pairwise_cons] at h
    obtain ⟨b1, b2⟩ := hb v List.mem_cons_self
    have := lt_len (lo := v + 1) (hi := hi) h.2 fun w hw => ⟨by have := h.1 w hw; omega, (hb w (List.mem_cons_of_mem _ hw)).2⟩
    rw [List.length_cons]
    omega
theorem vals_len {D : List (Int × Int)} {ns : List Int} (h : IsDom D ns) (hb : ∀ v ∈ ns, -50 ≤ v ∧ v ≤ 50) : (valsM D).length ≤ 101 := by
  have := lt_len (lo := -50) (hi := 50) (valsM_lt h.1) fun v hv => hb v ((h.2 v).mp (mem_valsM.mp hv))
  omega
/-! ### what stands for a domain -/
def endB : PyData → Bool
  | .int n => decide (-50 ≤ n) && decide (n ≤ 50)
  | _ => false
def ivB : PyData → Bool
  | .tuple [.int a, .int b] => endB (.int a) && endB (.int b) && decide (a ≤ b)
  | _ => false
def lowN : PyData → Int
  | .tuple [.int a, _] => a | _ => 0
def highN : PyData → Int
  | .tuple [_, .int b] => b | _ => 0
def gapsB : Int → List PyData → Bool
  | _, [] => true
  | last, d :: ds => decide (last + 1 < lowN d) && gapsB (highN d) ds
def domB : PyData → Bool
  | .tuple ds => ds.all ivB && gapsB (-52) ds
  | _ => false
theorem iv_form {d : PyData} (h : ivB d = true) : ∃ a b, d = .tuple [.int a, .int b] ∧ -50 ≤ a ∧ b ≤ 50 ∧ a ≤ b ∧ b ≥ -50 ∧ a ≤ 50 := by
  unfold ivB at h
  split at h
  · rename_i a b
    simp only [endB, Bool.and_eq_true, decide_eq_true_eq] at h
    exact ⟨a, b, rfl, h.1.1.1, h.1.2.2, h.2, h.1.2.1, h.1.1.2⟩
  · cases h
/-- the gaps between neighbours -/
def nbB : List PyData → Bool
  | d :: e :: ds => decide (highN d + 1 < lowN e) && nbB (e :: ds)
  | _ => true
theorem gaps_nb : ∀ (ds : List PyData), ds.all ivB = true → gapsB (-52) ds = nbB ds := by
  have main : ∀ (ds : List PyData) (d : PyData), gapsB (highN d) ds = nbB (d :: ds) := by
    intro ds
    induction ds with
    | nil => intro d; rfl
    | cons e ds ih =>
      intro d
      show (decide (highN d + 1 < lowN e) && gapsB (highN e) ds) = (decide (highN d + 1 < lowN e) && nbB (e :: ds))
      rw [ih e]
  intro ds h
  cases ds with
  | nil => rfl
  | cons d ds =>
    rw [List.all_cons, Bool.and_eq_true] at h
    obtain ⟨a, b, rfl, h1, _⟩ := iv_form h.1
    show (decide ((-52 : Int) + 1 < a) && gapsB b ds) = _
    rw [decide_eq_true (by omega), Bool.true_and]
    exact main ds (.tuple [.int a, .int b])
theorem pd_lay : ∀ (D : List (Int × Int)), PyData.canLayAll0 (D.map ivD) = true ∧ PyData.depthAll (D.map ivD) ≤ 1 ∧ PyData.eqvAll (D.map ivD) (D.map ivD) = true ∧ noLA (D.map ivD) = true
  | [] => ⟨by simp [PyData.canLayAll0], by simp [PyData.depthAll], by simp [PyData.eqvAll], by simp [noLA]⟩
  | p :: D => by
    obtain ⟨a, b, c, d⟩ := pd_lay D
    rw [List.map_cons]
    have e : (ivD p).canLay0 = true := by unfold ivD; simp only [PyData.canLay0, PyData.canLayAll0]; rfl
    have f : (ivD p).depth = 1 := by unfold ivD; simp [PyData.depth, PyData.depthAll]
    have g : PyData.eqv (ivD p) (ivD p) = true := by unfold ivD; simp [PyData.eqv, PyData.eqvAll]
    have k : noL (ivD p) = true := by unfold ivD; simp [noL, noLA]
    refine ⟨by simp only [PyData.canLayAll0, a, e, Bool.and_self], ?_, by simp only [PyData.eqvAll, c, g, Bool.and_self], by simp only [noLA, d, k, Bool.and_self]⟩
    simp only [PyData.depthAll]
    omega
theorem dom_shaped (D : List (Int × Int)) : SeqAt.shaped (domD D) = true := by
  obtain ⟨a, b, _⟩ := pd_lay D
  have hd : (domD D).depth ≤ 64 := by unfold domD; simp only [PyData.depth]; omega
  have hc : (domD D).canLay0 = true := by unfold domD; simp only [PyData.canLay0]; exact a
  show ((domD D).canLay0 && decide ((domD D).depth ≤ 64)) = true
  rw [hc, decide_eq_true hd]
  rfl
theorem dom_eqv (D : List (Int × Int)) : PyData.eqv (domD D) (domD D) = true := by
  unfold domD
  simp only [PyData.eqv]
  exact (pd_lay D).2.2.1
theorem dom_noL (D : List (Int × Int)) : noL (domD D) = true := by
  unfold domD
  rw [noL]
  exact (pd_lay D).2.2.2
theorem ints_lay : ∀ (ns : List Int), PyData.canLayAll0 (ns.map PyData.int) = true ∧ PyData.depthAll (ns.map PyData.int) = 0 ∧ PyData.eqvAll (ns.map PyData.int) (ns.map PyData.int) = true
  | [] => ⟨by simp [PyData.canLayAll0], by simp [PyData.depthAll], by simp [PyData.eqvAll]⟩
  | n :: ns => by
    obtain ⟨a, b, c⟩ := ints_lay ns
    rw [List.map_cons]
    refine ⟨by simp only [PyData.canLayAll0, PyData.canLay0, a, Bool.and_self], ?_, by simp only [PyData.eqvAll, PyData.eqv, c, beq_self_eq_true, Bool.and_self]⟩
    simp only [PyData.depthAll, PyData.depth, b]
    rfl
theorem ints_shaped (ns : List Int) : SeqAt.shaped (.list (ns.map PyData.int)) = true := by
  obtain ⟨a, b, _⟩ := ints_lay ns
  have hd : (PyData.list (ns.map PyData.int)).depth ≤ 64 := by simp only [PyData.depth, b]; decide
  have hc : (PyData.list (ns.map PyData.int)).canLay0 = true := by simp only [PyData.canLay0]; exact a
  show ((PyData.list (ns.map PyData.int)).canLay0 && decide ((PyData.list (ns.map PyData.int)).depth ≤ 64)) = true
  rw [hc, decide_eq_true hd]
  rfl
theorem ints_eqv (ns : List Int) : PyData.eqv (.list (ns.map PyData.int)) (.list (ns.map PyData.int)) = true := by
  simp only [PyData.eqv]
  exact (ints_lay ns).2.2
theorem dp_ints {K : PySem.W.Frag} {H : Hp} : ∀ (ns : List Int), DpAll K H (ns.map V.int) (ns.map PyData.int)
  | [] => .nil
  | n :: ns => .cons (.int n) (dp_ints ns)
theorem at_last {α : Type} (A : List α) (x : α) : atI (A ++ [x]) (-1) = some x := by
  have e : ixN (A ++ [x]).length (-1) = some A.length := by
    unfold ixN
    rw [List.length_append]
    show (if _ then _ else _) = _
    simp
    omega
  unfold atI
  rw [e]
  simp
theorem in_it {J : It} {n : Nat} {G : Hp → Prop} {Y : Nat → Hp → V → Hp → Prop} (wk : Walk J n G Y) {g : TG} {tt : TT} {te : TE} {vs : List Nat} {σ : L2.St} {H4 : Hp} {D : Addr} {Qd : Hp → Prop} (Pv : Nat → Hp → Prop) (p0 : Pv 0 H4) (pG : ∀ i H, i ≤ n → Pv i H → G H)
    (turn : ∀ i x H H', i < n → Pv i H → Y i H x H' → g x (wipe σ vs) H' fun σ2 H2 => wipe σ2 vs = wipe σ vs ∧ tt σ2 H2 fun b H3 =>
      if b = true then te σ2 H3 fun y H7 => ∃ acc, H7 D = some (.lst acc) ∧ acc.length < sizeLine ∧ Pv (i + 1) (upd H7 D (.lst (acc ++ [y]))) else Pv (i + 1) H3) (pd : ∀ H, Pv n H → Qd H) :
    ∃ W : Nat → Nat → Hp → Prop, (∃ m, W 0 m H4) ∧ ∀ i m H, W i m H →
      (J.stop i H ∧ Qd H) ∨ (J.go i H ∧ ∃ Nx : Hp → Prop, (∀ H', Nx H' → ∃ m', m' < m ∧ W (i + 1) m' H') ∧ ∀ x H', J.yld i H x H' → g x (wipe σ vs) H' fun σ2 H2 => wipe σ2 vs = wipe σ vs ∧ tt σ2 H2 fun b H3 =>
        if b = true then te σ2 H3 fun y H7 => ∃ acc, H7 D = some (.lst acc) ∧ acc.length < sizeLine ∧ Nx (upd H7 D (.lst (acc ++ [y]))) else Nx H3) := by
  refine ⟨fun i m H => m = n - i ∧ i ≤ n ∧ Pv i H, ⟨n, by simp, Nat.zero_le _, p0⟩, ?_⟩
  rintro i m H ⟨rfl, hi, hp⟩
  have hg := pG i H hi hp
  rcases Nat.lt_or_ge i n with hlt | hge
  · exact .inr ⟨wk.goes i H hlt hg, Pv (i + 1), fun σ' p' => ⟨n - (i + 1), by omega, rfl, hlt, p'⟩, fun x H' y => turn i x H H' hlt hp (wk.yields i H x H' hlt hg y)⟩
  · obtain rfl : i = n := by omega
    exact .inl ⟨wk.stops H hg, pd H hp⟩
theorem same_sqL {K : PySem.W.Frag} {H H' : Hp} {a : Addr} {xs : List V} (e : Same H H') (h : SqL K H a xs) : SqL K H' a xs := by
  rcases h with (h | ⟨p, h⟩) | h
  · exact .inl (.inl (e _ _ h))
  · exact .inl (.inr ⟨p, e _ _ h⟩)
  · exact .inr h
theorem walk_gen {J : It} {n : Nat} {G : Hp → Prop} {Y : Nat → Hp → V → Hp → Prop} (wk : Walk J n G Y) {B : V → Hp → (Hp → Prop) → Prop} {H0 : Hp} {Qd : Hp → Prop} (Pv : Nat → Hp → Prop) (p0 : Pv 0 H0) (pG : ∀ i H, i ≤ n → Pv i H → G H)
    (turn : ∀ i x H H', i < n → Pv i H → Y i H x H' → B x H' (Pv (i + 1))) (pd : ∀ H, Pv n H → Qd H) :
    ∃ W : Nat → Nat → Hp → Prop, (∃ m, W 0 m H0) ∧ ∀ i m H, W i m H → (J.stop i H ∧ Qd H) ∨ (J.go i H ∧ ∃ Nx : Hp → Prop, (∀ H', Nx H' → ∃ m', m' < m ∧ W (i + 1) m' H') ∧ ∀ x H', J.yld i H x H' → B x H' Nx) := by
  refine ⟨fun i m H => m = n - i ∧ i ≤ n ∧ Pv i H, ⟨n, by simp, Nat.zero_le _, p0⟩, ?_⟩
  rintro i m H ⟨rfl, hi, hp⟩
  have hg := pG i H hi hp
  rcases Nat.lt_or_ge i n with hlt | hge
  · exact .inr ⟨wk.goes i H hlt hg, Pv (i + 1), fun σ' p' => ⟨n - (i + 1), by omega, rfl, hlt, p'⟩, fun x H' y => turn i x H H' hlt hp (wk.yields i H x H' hlt hg y)⟩
  · obtain rfl : i = n := by omega
    exact .inl ⟨wk.stops H hg, pd H hp⟩
theorem ix_last {α : Type} (A : List α) (x : α) : ixN (A ++ [x]).length (-1) = some A.length := by
  unfold ixN
  rw [List.length_append]
  simp
  omega
theorem ix_len {α : Type} (A : List α) (x : α) : ixN (A ++ [x]).length (((A ++ [x]).length : Int) - 1) = some A.length := by
  unfold ixN
  rw [List.length_append]
  simp
  omega
theorem at_len {α : Type} (A : List α) (x : α) : atI (A ++ [x]) (((A ++ [x]).length : Int) - 1) = some x := by
  unfold atI
  rw [ix_len]
  simp
theorem set_last {α : Type} (A : List α) (x y : α) : (A ++ [x]).set A.length y = A ++ [y] := by
  rw [List.set_append_right _ _ (Nat.le_refl _), Nat.sub_self]
  rfl
theorem end_all (ns : List Int) : (ns.map fun n => endB (.int n)).all id = true ↔ ∀ n ∈ ns, -50 ≤ n ∧ n ≤ 50 := by
  rw [List.all_eq_true]
  constructor
  · intro h n hn
    have := h _ (List.mem_map.mpr ⟨n, hn, rfl⟩)
    simpa [endB] using this
  · intro h b hb
    obtain ⟨n, hn, rfl⟩ := List.mem_map.mp hb
    simpa [endB] using h n hn
theorem dp_snoc {K : PySem.W.Frag} {H : Hp} {ys : List V} {A : List (Int × Int)} {p : Int × Int} (h : DpAll K H ys ((A ++ [p]).map ivD)) : ∃ ya y, ys = ya ++ [y] ∧ DpAll K H ya (A.map ivD) ∧ Dp K H y (ivD p) := by
  have hl := DpAll.len h
  rw [List.map_append] at h hl
  rw [List.length_append, List.length_map] at hl
  rcases List.eq_nil_or_concat ys with z | ⟨ya, y, z⟩
  · rw [z] at hl; simp at hl
  · rw [List.concat_eq_append] at z
    subst z
    rw [List.length_append] at hl
    have hl2 : ya.length = A.length := by
      have e1 : ([y] : List V).length = 1 := rfl
      have e2 : ([p].map ivD).length = 1 := rfl
      omega
    refine ⟨ya, y, rfl, ?_, ?_⟩
    · have := DpAll.taket ya.length h
      rw [List.take_left' rfl, List.take_left' (by rw [List.length_map]; exact hl2.symm)] at this
      exact this
    · have := DpAll.dropt ya.length h
      rw [List.drop_left' rfl, List.drop_left' (by rw [List.length_map]; exact hl2.symm)] at this
      cases this with
      | cons h _ => exact h
theorem sorted_le {ns : List Int} (h : ns.Pairwise (· ≤ ·)) {i : Nat} {v : Int} (hv : ns[i]? = some v) : ∀ w ∈ ns.take i, w ≤ v := by
  intro w hw
  obtain ⟨j, hj⟩ := List.getElem?_of_mem hw
  have hji : j < i := by
    have := (List.getElem?_eq_some_iff.mp hj).1
    rw [List.length_take] at this
    omega
  rw [List.getElem?_take_of_lt hji] at hj
  obtain ⟨k1, g1⟩ := List.getElem?_eq_some_iff.mp hj
  obtain ⟨k2, g2⟩ := List.getElem?_eq_some_iff.mp hv
  rw [← g1, ← g2]
  exact List.pairwise_iff_getElem.mp h j i k1 k2 hji
theorem vals_take {p : Int × Int} {j : Nat} (h : j < (p.2 + 1 - p.1).toNat) : (vals p)[j]? = some (p.1 + (j : Int)) := by
  unfold vals
  rw [List.getElem?_map, List.getElem?_range h]
  rfl
theorem vals_length (p : Int × Int) : (vals p).length = (p.2 + 1 - p.1).toNat := by
  unfold vals
  rw [List.length_map, List.length_range]
theorem pre_bounds {D : List (Int × Int)} (h : (valsM D).length ≤ 101) (i : Nat) {p : Int × Int} (hp : D[i]? = some p) : (valsM (D.take i)).length + (vals p).length ≤ 101 ∧ valsM (D.take (i + 1)) = valsM (D.take i) ++ vals p := by
  have e : valsM (D.take (i + 1)) = valsM (D.take i) ++ vals p := by
    unfold valsM
    rw [List.take_add_one, hp, List.flatMap_append]
    show _ ++ (vals p ++ []) = _
    rw [List.append_nil]
  refine ⟨?_, e⟩
  have : valsM D = valsM (D.take (i + 1)) ++ valsM (D.drop (i + 1)) := by
    unfold valsM
    rw [← List.flatMap_append, List.take_append_drop]
  rw [this, e, List.length_append, List.length_append] at h
  omega
theorem dom_bounds {D : List (Int × Int)} {ns : List Int} (h : IsDom D ns) (hn : ∀ n ∈ ns, -50 ≤ n ∧ n ≤ 50) : ∀ p ∈ D, -50 ≤ p.1 ∧ p.2 ≤ 50 := fun p hp => by
  have hpp := can_mem h.1 p hp
  exact ⟨(hn _ ((h.2 p.1).mp ⟨p, hp, Int.le_refl _, hpp⟩)).1, (hn _ ((h.2 p.2).mp ⟨p, hp, hpp, Int.le_refl _⟩)).2⟩
theorem nopart_of {σ : L2.St} {H : Hp} {Q : Option Int → Hp → Prop} (h : Q Option.none H) : tNoPart σ H Q := h
/-! ### matching -/

theorem cut_take (xs : List V) (i : Nat) (h : i ≤ xs.length) : cutV xs Option.none (some (i : Int)) = xs.take i := by
  unfold cutV
  rw [HT.sIx_none, HT.sIx_nat, Nat.min_eq_left h, List.drop_zero, Nat.sub_zero]
theorem cut_drop (xs : List V) (i : Nat) (h : i ≤ xs.length) : cutV xs (some (i : Int)) Option.none = xs.drop i := by
  unfold cutV
  rw [HT.sIx_none, HT.sIx_nat, Nat.min_eq_left h, List.take_of_length_le (by rw [List.length_drop]; exact Nat.le_refl _)]
theorem int_pick {K : PySem.W.Frag} {G : Addr → Prop} {H : Hp} {xs : List V} {is : List Int} {r : Int} (a : ImAll K G H xs (is.map PyData.int)) (r0 : 0 ≤ r) (r1 : r < (is.length : Int)) : ∃ x, x ∈ is ∧ atI xs r = some (.int x) := by
  have hr : r.toNat < is.length := by omega
  have hd : (is.map PyData.int)[r.toNat]? = some (.int is[r.toNat]) := by
    rw [List.getElem?_map, List.getElem?_eq_getElem hr]
    rfl
  obtain ⟨v, hv, iv⟩ := ImAll.get a hd
  cases iv
  exact ⟨_, List.getElem_mem hr, at_of (j := r.toNat) (by omega) hv⟩
section
variable {K : PySem.W.Frag} {H Ha Hb Hn H' : Hp} {s l : Addr} {v : V} {d : PyData}
theorem fr_of (bn : But s H Hn) (Sn : Stm Hn s l) : ∀ b, Hn b = Option.none → H b = Option.none := fun b np => by
  obtain ⟨on, hon⟩ := Sn.at_s
  cases e : H b with
  | none => rfl
  | some o =>
    by_cases z : b = s
    · rw [z, hon] at np; cases np
    · rw [bn _ _ z e] at np; cases np
theorem frs_of (bn : But s H Hn) (Sn : Stm Hn s l) (i : Im K (fun b => Hn b = Option.none) H' v d) : Im K (fun b => H b = Option.none) H' v d := Im.mono (fun _ _ _ e => e) (fr_of bn Sn) _ _ i
theorem frs_keep (S0 : Stm H s l) (b : But s Ha Hb) (i : Im K (fun b => H b = Option.none) Ha v d) : Im K (fun b => H b = Option.none) Hb v d := by
  obtain ⟨os, hos⟩ := S0.at_s
  exact Im.mono (fun c o g e => b c o (fun z => by rw [z, hos] at g; cases g) e) (fun _ g => g) _ _ i
theorem frs_cat {x y : V} {ds es : List PyData} {Q : VK} (bn : But s H Ha) (Sn : Stm Ha s l) (iv : Im K (fun b => H b = Option.none) Ha x (.tuple ds)) (iw : Im K (fun b => H b = Option.none) Ha y (.tuple es)) (hz : ds.length + es.length ≤ 1000)
    (h : ∀ v H', Same Ha H' → Im K (fun b => H b = Option.none) H' v (.tuple (ds ++ es)) → Q v H') : rCatA K x y Ha Q :=
  im_cat iv iw hz fun v H' s' i => h v H' s' (Im.mono (fun _ _ _ e => e) (fun b g => g.elim id (fr_of bn Sn b)) _ _ i)
end
theorem dp_butL {K : PySem.W.Frag} {H H' : Hp} {s l : Addr} {v : V} {d : PyData} (S : Stm H s l) (b : But s H H') (n : noL d = true) (h : Dp K H v d) : Dp K H' v d := by
  obtain ⟨x, y, m, ns, e, _⟩ := S.ex
  exact dp_map (fun c xs g => sqT_but (.inl ⟨_, e⟩) b g) _ _ n h
theorem sl_from1 {K : PySem.W.Frag} {H : Hp} {a : Addr} {xs : List V} {Q : VK} (hs : SqT K H a xs) (h : ∀ b H', Same H H' → SqT K H' b (xs.drop 1) → Q (.ref b) H') : rSlA K (.ref a) (some (1 : Int)) Option.none H Q := by
  refine ⟨a, xs, rfl, hs, fun z => h a H (Same.refl H) ?_, fun z p np => ?_⟩
  · cases xs with
    | nil => exact hs
    | cons v xs =>
      exfalso
      have := z.1
      rw [show (1 : Int) = ((1 : Nat) : Int) from rfl, HT.sIx_nat] at this
      rw [List.length_cons] at this
      omega
  · cases xs with
    | nil =>
      refine absurd ⟨?_, ?_⟩ z
      · rw [show (1 : Int) = ((1 : Nat) : Int) from rfl, HT.sIx_nat]; rfl
      · rw [HT.sIx_none]
    | cons v xs =>
      rw [cut_from1]
      exact h p _ (same_upd np) (SqT.of upd_same)
def gapL (ds : List PyData) : List Bool := (ds.zip (ds.drop 1)).map fun p => decide (highN p.1 + 1 < lowN p.2)
theorem gapL_all : ∀ ds : List PyData, (gapL ds).all id = nbB ds
  | [] => rfl
  | [d] => rfl
  | d :: e :: ds => by
    have ih := gapL_all (e :: ds)
    show (decide (highN d + 1 < lowN e) && (gapL (e :: ds)).all id) = _
    rw [ih]
    rfl
theorem gapL_at {ds : List PyData} {i : Nat} {d e : PyData} (h1 : ds[i]? = some d) (h2 : ds[i + 1]? = some e) : (gapL ds)[i]? = some (decide (highN d + 1 < lowN e)) := by
  unfold gapL
  rw [List.getElem?_map, (List.getElem?_zip_eq_some (z := (d, e))).mpr ⟨h1, by rw [List.getElem?_drop, Nat.add_comm]; exact h2⟩]
  rfl
theorem gapL_len (ds : List PyData) : (gapL ds).length = min ds.length (ds.length - 1) := by
  unfold gapL
  rw [List.length_map, List.length_zip, List.length_drop]
def clip (v : Int) : Int := if (if v < 50 then v else 50) > -50 then (if v < 50 then v else 50) else -50
theorem clip_in (v : Int) : -50 ≤ clip v ∧ clip v ≤ 50 := by
  unfold clip
  split <;> split <;> omega
def sizes3 : List Int := [4, 12, 101]
def odd8 : List PyData := [.bool true, .none, .str "a", .tuple [.int 1], .list [.int 1], .int 51, .int (-51), .int (10 ^ (20 : Int).toNat)]
def bad4 : List Int := [51, -51, 10 ^ (20 : Int).toNat, -1000]
theorem bad4_out : ∀ i ∈ bad4, ¬ (-50 ≤ i ∧ i ≤ 50) := by decide +kernel
theorem perm_vals {D : List (Int × Int)} (h : Can D) {ns : List Int} (hp : ns.Perm (valsM D)) (hs : ns.Pairwise (· ≤ ·)) : ns = valsM D :=
  hp.eq_of_pairwise (fun x y _ _ h1 h2 => Int.le_antisymm h1 h2) hs ((valsM_lt h).imp fun h => Int.le_of_lt h)
structure Fy (K : PySem.W.Frag) (H : Hp) (s l r1 r2 g : Addr) (n1 n2 : List Int) (f1 f2 : V) (D1 D2 : List (Int × Int)) : Prop where
  h1 : H r1 = some (.lst (n1.map V.int))
  h2 : H r2 = some (.lst (n2.map V.int))
  hg : H g = some (.lst (n1.map V.int))
  d1 : Dp K H f1 (domD D1)
  d2 : Dp K H f2 (domD D2)
  st : Stm H s l
  a1 : r1 ≠ s
  a2 : r2 ≠ s
  ag : g ≠ s
theorem Fy.same {K : PySem.W.Frag} {H H' : Hp} {s l r1 r2 g : Addr} {n1 n2 : List Int} {f1 f2 : V} {D1 D2 : List (Int × Int)} (e : Same H H') (F : Fy K H s l r1 r2 g n1 n2 f1 f2 D1 D2) : Fy K H' s l r1 r2 g n1 n2 f1 f2 D1 D2 :=
  ⟨e _ _ F.h1, e _ _ F.h2, e _ _ F.hg, dp_same e _ _ F.d1, dp_same e _ _ F.d2, F.st.keep e, F.a1, F.a2, F.ag⟩
theorem Fy.but {K : PySem.W.Frag} {H H' : Hp} {s l r1 r2 g : Addr} {n1 n2 : List Int} {f1 f2 : V} {D1 D2 : List (Int × Int)} (e : But s H H') (S : Stm H' s l) (F : Fy K H s l r1 r2 g n1 n2 f1 f2 D1 D2) : Fy K H' s l r1 r2 g n1 n2 f1 f2 D1 D2 :=
  ⟨e _ _ F.a1 F.h1, e _ _ F.a2 F.h2, e _ _ F.ag F.hg, dp_butL F.st e (dom_noL D1) F.d1, dp_butL F.st e (dom_noL D2) F.d2, S, F.a1, F.a2, F.ag⟩
theorem inV_int (v : Int) : ∀ ns : List Int, inV (V.int v) (ns.map V.int) = decide (v ∈ ns)
  | [] => rfl
  | n :: ns => by
    have ih := inV_int v ns
    show (eqV (V.int n) (V.int v) || inV (V.int v) (ns.map V.int)) = _
    rw [ih, show eqV (V.int n) (V.int v) = decide (v = n) by
      by_cases e : v = n
      · subst e; rw [decide_eq_true rfl]; simp [eqV]
      · rw [decide_eq_false e]; simp [eqV]; exact fun z => e z.symm]
    rw [← Bool.decide_or]
    exact decide_eq_decide.mpr (by rw [List.mem_cons])
theorem flat_ints (ns : List Int) : (ns.map V.int).all flatV = true := by
  rw [List.all_map]
  exact List.all_eq_true.mpr fun n _ => rfl
theorem lst_of {ta : TA} {σ : L2.St} {H : Hp} {Q : VK} (h : ta σ H fun xs H1 => xs.length ≤ sizeLine ∧ ∀ p, H1 p = Option.none → Q (.ref p) (upd H1 p (.lst xs))) : tLst ta σ H Q := h
/-! ### the promises -/
def bpC (K : PySem.W.Frag) : Value := .ref (clsA K "BadProblem")
def Far (K : PySem.W.Frag) (H H' : Hp) (v : V) (d : PyData) : Prop := Im K (fun b => H b = Option.none) H' v d
def sp_is_integer (K : PySem.W.Frag) : Sp := fun vs H Q _ => ∃ (x : V) (d : PyData), vs = [x] ∧ Dp K H x d ∧ Q (.bl (isI d && !isB d)) H
def sp__law_is_integer (K : PySem.W.Frag) : Sp := sp_is_integer K
def sp_is_value (K : PySem.W.Frag) : Sp := fun vs H Q _ => ∃ (x : V) (d : PyData), vs = [x] ∧ Dp K H x d ∧ Q (.bl (endB d)) H
def sp__law_is_end (K : PySem.W.Frag) : Sp := sp_is_value K
def sp_domain (K : PySem.W.Frag) : Sp := fun vs H Q E => ∃ (a : Addr) (ns : List Int), vs = [.ref a] ∧ SqL K H a (ns.map V.int) ∧ ns.length ≤ 200 ∧ ((∀ n ∈ ns, -50 ≤ n ∧ n ≤ 50) → ∀ v D H', Same H H' → IsDom D ns → Dp K H' v (domD D) → Q v H') ∧ ((¬ ∀ n ∈ ns, -50 ≤ n ∧ n ≤ 50) → ∀ H', Same H H' → E (bpC K) Option.none H')
def sp__law_domain (K : PySem.W.Frag) : Sp := fun vs H Q _ => ∃ (a : Addr) (ns : List Int), vs = [.ref a] ∧ SqL K H a (ns.map V.int) ∧ ns.length ≤ 200 ∧ ∀ v D H', Same H H' → IsDom D ns → Dp K H' v (domD D) → Q v H'
def sp_values (K : PySem.W.Frag) : Sp := fun vs H Q _ => ∃ (x : V) (D : List (Int × Int)), vs = [x] ∧ Dp K H x (domD D) ∧ (valsM D).length ≤ 101 ∧ Can D ∧ (∀ p ∈ D, -50 ≤ p.1 ∧ p.2 ≤ 50) ∧ ∀ r H', Same H H' → H r = Option.none → H' r = some (.lst ((valsM D).map V.int)) → Q (.ref r) H'
def sp__law_values (K : PySem.W.Frag) : Sp := sp_values K
def sp_meet (K : PySem.W.Frag) : Sp := fun vs H Q _ => ∃ (x y : V) (D D' : List (Int × Int)) (ns ms : List Int), vs = [x, y] ∧ Dp K H x (domD D) ∧ Dp K H y (domD D') ∧ IsDom D ns ∧ IsDom D' ms ∧ (∀ n ∈ ns, -50 ≤ n ∧ n ≤ 50) ∧ (∀ n ∈ ms, -50 ≤ n ∧ n ≤ 50) ∧ ∀ (v : V) (D2 : List (Int × Int)) (ls : List Int) (H' : Hp), Same H H' → IsDom D2 ls → (∀ v, v ∈ ls ↔ v ∈ ns ∧ v ∈ ms) → Dp K H' v (domD D2) → Q v H'
def sp_without (K : PySem.W.Frag) : Sp := fun vs H Q _ => ∃ (x : V) (D : List (Int × Int)) (ns : List Int) (n : Int), vs = [x, .int n] ∧ Dp K H x (domD D) ∧ IsDom D ns ∧ (∀ n ∈ ns, -50 ≤ n ∧ n ≤ 50) ∧ ∀ (v : V) (D2 : List (Int × Int)) (ls : List Int) (H' : Hp), Same H H' → IsDom D2 ls → (∀ v, v ∈ ls ↔ v ∈ ns ∧ v ≠ n) → Dp K H' v (domD D2) → Q v H'
def sp_is_interval (K : PySem.W.Frag) : Sp := fun vs H Q _ => ∃ (x : V) (d : PyData), vs = [x] ∧ Dp K H x d ∧ Q (.bl (ivB d)) H
def sp_is_domain (K : PySem.W.Frag) : Sp := fun vs H Q _ => ∃ (x : V) (d : PyData), vs = [x] ∧ Dp K H x d ∧ (∀ ds, d = .tuple ds → ds.length ≤ 200) ∧ ∀ H', Same H H' → Q (.bl (domB d)) H'
def sp__law_is_domain (K : PySem.W.Frag) : Sp := fun vs H Q _ => ∃ (x : V) (d : PyData), vs = [x] ∧ Dp K H x d ∧ Q (.bl (domB d)) H
def sp__law_list (K : PySem.W.Frag) : Sp := fun vs H Q _ => ∃ (s l : Addr), vs = [.ref s] ∧ Stm H s l ∧ ∀ (r : Addr) (ns : List Int) (H' : Hp), (∀ n ∈ ns, -50 ≤ n ∧ n ≤ 50) → ns.length ≤ 30 → But s H H' → Stm H' s l → H r = Option.none → H' r = some (.lst (ns.map V.int)) → Q (.ref r) H'
def sp__law_value (K : PySem.W.Frag) : Sp := fun vs H Q _ => ∃ (s l : Addr), vs = [.ref s] ∧ Stm H s l ∧ ∀ v d H', But s H H' → Stm H' s l → Far K H H' v d → (∀ ds, d = .tuple ds → ds.length ≤ 100) → Q v H'
def sp__law_strange (K : PySem.W.Frag) : Sp := fun vs H Q _ => ∃ (s l : Addr), vs = [.ref s] ∧ Stm H s l ∧ ∀ v d H', But s H H' → Stm H' s l → Far K H H' v d → (∀ ds, d = .tuple ds → ds.length ≤ 100) → Q v H'
def sp_law (K : PySem.W.Frag) : Sp := fun vs H Q _ => ∃ (a : Addr) (ns : List Int), vs = [.ref a] ∧ SqL K H a (ns.map V.int) ∧ ns.length ≤ 63 ∧ ∀ H', Q (.bl true) H'

local macro_rules | `(tactic| walk_at "lits") => `(tactic| repeat' (first | exact lit_int | exact lit_str | exact lit_bl | exact lit_non | exact litA_nil | refine litA_cons ?_ ?_ | refine lit_tup ?_ (by decide) | refine lit_lst ?_ (by decide) | refine lit_neg ?_ | refine lit_sub ?_ ?_ | refine lit_pow ?_ ?_ ⟨by decide, by decide, by decide⟩ | refine lit_mulS ?_ ?_ ⟨by decide, by decide, by decide⟩))
section
variable {P : Program} {w : World} {K : PySem.W.Frag} {mg : Str → Option Value} {base : Heap}
theorem ok_is_integer {f : Addr} {fd : FuncData} (F : Fun K "is_integer" "is_integer" s_is_integer f fd) (E : Bi K mg)  : FnOk P w K mg base CX0 1 f fd ["value"] (sp_is_integer K) := by
  refine F.ok sc_is_integer (fun vs H Q E h => ?_) (fun cdv A outer s H vs Q E' hr h => ?_)
  · obtain ⟨x, d, rfl, _⟩ := h
    rfl
  · obtain ⟨x, d, rfl, hd, q⟩ := h
    refine ⟨_, (pss_one (ps_ret (pe_and (pe_callB call_isi (by rfl) E.b_isinstance (by decide +kernel) (pa_cons (pv 0) (pa_cons (pe_ty "int" (by rfl) E.b_int (by decide +kernel)) pa_nil))) (pe_one (pe_not (pe_callB call_isi (by rfl) E.b_isinstance (by decide +kernel) (pa_cons (pv 0) (pa_cons (pe_ty "bool" (by rfl) E.b_bool (by decide +kernel)) pa_nil)))))))), ?_⟩
    refine ⟨x, rfl, _, _, _, _, _, rfl, .ty _, tyx_of hd, kit_ty (kitI _), _, rfl, ite2 (fun e => ?_) (fun e => ?_)⟩
    · refine ⟨x, rfl, _, _, _, _, _, rfl, .ty _, tyx_of hd, kit_ty (kitBo _), _, rfl, ?_⟩
      rw [e, Bool.true_and] at q
      exact q
    · rw [Bool.eq_false_iff.mpr e, Bool.false_and] at q
      exact q

theorem ok_values {f : Addr} {fd : FuncData} (F : Fun K "values" "values" s_values f fd) (E : Bi K mg)  : FnOk P w K mg base CX0 1 f fd ["given"] (sp_values K) := by
  refine F.ok sc_values (fun vs H Q E h => ?_) (fun cdv A outer s H vs Q E' hr h => ?_)
  · obtain ⟨x, D, rfl, _⟩ := h
    rfl
  · obtain ⟨x, D, rfl, hx, hl, hc, hb, q⟩ := h
    refine ⟨_, (pss_one (ps_ret (pe_lc2 (own := [("low", 1), ("high", 2), ("value", 3)]) (vs1 := [3]) (g := gTup K 2 (gCons (gName 1) (gCons (gName 2) gNil))) (g1 := gName 3) (tt := tYes) (tt1 := tYes) rfl sc_values.nd (pi_tup (pv 0)) (blkOk_by (N := N_values) (sc := defScope s_values) (by decide +kernel)) (by decide) (fun _ _ _ _ _ => pg_tup rfl (pgs_cons (pg_name (i := 1) sc_values.nd rfl (Or.inl rfl)) (pgs_cons (pg_name (i := 2) sc_values.nd rfl (Or.inl rfl)) pgs_nil))) (fun _ _ _ _ _ => pts_nil) (fun _ _ _ _ _ => (pi_range2 (by rfl) E.b_range (pa_cons (pv 1) (pa_cons (pe_op op_add (pv 2) pe_int) pa_nil)))) (fun _ _ _ _ _ => pg_name (i := 3) sc_values.nd rfl (Or.inl rfl)) (fun _ _ _ _ _ => pts_nil) (fun _ _ _ _ _ => (pv 3))))), ?_⟩
    unfold domD at hx
    cases id hx with
    | @tup a xs _ hs ha =>
    have hxl := DpAll.len ha
    rw [List.length_map] at hxl
    refine ⟨_, rfl, a, rfl, ⟨_, hs⟩, fun R hR => ?_⟩
    refine walk_gen (n := xs.length) walk_tup (fun i H' => Same H H' ∧ H' R = some (.lst ((valsM (D.take i)).map V.int))) ⟨same_upd hR, upd_same⟩ (fun i H' _ h => same_sqT h.1 hs) ?_ ?_
    · rintro i y H1 H2 hi ⟨s1, h1⟩ ⟨rfl, hy⟩
      obtain ⟨d, hd, dy0⟩ := DpAll.getV ha hy
      rw [List.getElem?_map] at hd
      obtain ⟨p, hp, rfl⟩ : ∃ p, D[i]? = some p ∧ ivD p = d := by
        cases hr : D[i]? with
        | none => rw [hr] at hd; cases hd
        | some p => rw [hr] at hd; exact ⟨p, rfl, Option.some.inj hd⟩
      have hpm := List.mem_of_getElem? hp
      obtain ⟨b1, b2⟩ := hb p hpm
      have hpp := can_mem hc p hpm
      obtain ⟨k1, k2⟩ := pre_bounds hl i hp
      have dy := dp_same s1 _ _ dy0
      unfold ivD at dy
      cases id dy with
      | @tup c zs _ hz az =>
      cases az with
      | cons e1 az =>
      cases az with
      | cons e2 az =>
      cases az
      cases e1
      cases e2
      refine ⟨c, _, rfl, hz, rfl, _, _, rfl, gname ⟨_, [], rfl, gname ⟨rfl, ?_⟩⟩⟩
      refine ⟨rfl, ?_⟩
      refine ⟨_, rfl, _, rfl, _, _, rfl, rfl, _, _, rfl, ⟨by omega, by omega, by omega, by omega⟩, ?_⟩
      refine walk_gen (n := (p.2 + 1 - p.1).toNat) walk_range (fun j H' => Same H H' ∧ H' R = some (.lst ((valsM (D.take i) ++ (vals p).take j).map V.int))) ⟨s1, by rw [List.take_zero, List.append_nil]; exact h1⟩ (fun _ _ _ _ => trivial) ?_ ?_
      · rintro j z H3 H4 hj ⟨s3, h3⟩ ⟨rfl, rfl⟩
        refine ⟨rfl, _, rfl, _, h3, small1000 (by rw [List.length_map, List.length_append, List.length_take]; omega), fun b o e => by rw [upd_ne (ne_of_none e hR)]; exact s3 _ _ e, ?_⟩
        rw [upd_same, List.take_add_one, vals_take hj, ← List.append_assoc, List.map_append, List.map_append, List.map_append]
        rfl
      · rintro H3 ⟨s3, h3⟩
        rw [← vals_length, List.take_length] at h3
        exact ⟨s3, by rw [k2]; exact h3⟩
    · rintro H1 ⟨s1, h1⟩
      rw [hxl, List.take_length] at h1
      exact q _ _ s1 hR h1

theorem ok__law_stream {f : Addr} {fd : FuncData} (F : Fun K "_law_stream" "_law_stream" s__law_stream f fd) (E : Bi K mg)  : FnOk P w K mg base CX0 1 f fd ["script"] (sp__law_stream K) := by
  refine F.ok sc__law_stream (fun vs H Q E h => ?_) (fun cdv A outer s H vs Q E' hr h => ?_)
  · obtain ⟨a, ns, rfl, _⟩ := h
    rfl
  · obtain ⟨a, ns, rfl, hS, hl, q⟩ := h
    refine ⟨_, (pss_cons (ps_set (i := 1) sc__law_stream.nd rfl (Or.inl rfl) pe_int)
      (pss_cons (ps_for PassesOwn.never rfl (pi_list (pv 0)) (pg_name (i := 2) sc__law_stream.nd rfl (Or.inl rfl)) (pss_one (ps_set (i := 1) sc__law_stream.nd rfl (Or.inl rfl) (pe_op op_mod (pe_callTy call_int1 (by rfl) E.b_int (by decide +kernel) (pa_cons (pe_op op_add (pe_op op_add (pe_op op_mul (pv 1) pe_int) (pe_op op_mod (pe_callTy call_int1 (by rfl) E.b_int (by decide +kernel) (pa_cons (pv 2) pa_nil)) pe_int)) pe_int) pa_nil)) pe_int))))
      (pss_one (ps_ret (pe_lst (pa_cons (pe_callTy call_list_of (by rfl) E.b_list (by decide +kernel) (pa_cons (pv 0) pa_nil)) (pa_cons pe_int (pa_cons pe_int (pa_cons (pv 1) pa_nil))))))))), ?_⟩
    refine ⟨_, rfl, a, rfl, ⟨_, hS⟩, for_list (K := K) (a := a) (xs := ns.map V.int) (fun i σ H1 => ∃ (m : Int) (v : Option V), σ = [some (.ref a), some (.int m), v] ∧ H1 = H ∧ 0 ≤ m ∧ m < 2147483647)
      ⟨17, none, rfl, rfl, by decide, by decide⟩ (fun i σ H1 _ ⟨_, _, _, e, _⟩ => by rw [e]; exact hS) ?_ ?_⟩
    · rintro i y σ H1 hi ⟨m, v, rfl, rfl, h0, h1⟩
      obtain ⟨z, rfl⟩ : ∃ z, y = V.int z := by
        rw [List.getElem?_map] at hi
        cases e : ns[i]? with
        | none =>
          rw [e] at hi
          cases hi
        | some z =>
          rw [e] at hi
          exact ⟨z, (Option.some.inj hi).symm⟩
      refine ⟨_, rfl, _, _, rfl, rfl, .inr ⟨by decide, by decide⟩, _, rfl, .inl ⟨_, rfl, _, _, rfl, rfl, (by decide : (0 : Int) < 65521), _, _, rfl, rfl, _, _, rfl, rfl, .inl ⟨_, rfl, _, _, rfl, rfl, (by decide : (0 : Int) < 2147483647), ?_⟩⟩⟩
      exact ⟨_, _, rfl, rfl, Int.emod_nonneg _ (by decide), Int.emod_lt_of_pos _ (by decide)⟩
    · rintro σ H1 ⟨m, v, rfl, rfl, h0, h1⟩
      refine ⟨_, rfl, a, _, rfl, .inl hS, fun l hl2 => ⟨_, rfl, (by show 4 ≤ sizeLine; decide), fun p hp => ?_⟩⟩
      have npl : l ≠ p := fun z => by
        rw [← z, upd_same] at hp
        cases hp
      refine q p l _ ((same_upd hl2).free hp) hl2 ((same_upd hl2).trans (same_upd hp)) ⟨0, 0, m, ns, upd_same, ?_, hl, Int.le_refl 0, Int.le_refl 0, h0, h1⟩
      rw [upd_ne npl, upd_same]

theorem ok__law_draw {f : Addr} {fd : FuncData} (F : Fun K "_law_draw" "_law_draw" s__law_draw f fd) (E : Bi K mg)  : FnOk P w K mg base CX0 1 f fd ["stream", "many"] (sp__law_draw K) := by
  refine F.ok sc__law_draw (fun vs H Q E h => ?_) (fun cdv A outer s H vs Q E' hr h => ?_)
  · obtain ⟨s, l, n, rfl, _⟩ := h
    rfl
  · obtain ⟨p, l, n, rfl, hS, hn, hn2, q⟩ := h
    obtain ⟨a, b, m, ns, h1, h2, hlen, ha, hb, hm, hm2⟩ := hS.ex
    have nlp : l ≠ p := fun z => by
      rw [z, h1] at h2
      have h3 := HO.lst.inj (Option.some.inj h2)
      cases ns with
      | nil => cases h3
      | cons x r => cases (List.cons.inj h3).1
    refine ⟨_, (pss_cons (ps_if (pw_and (pt_cmpR op_eq (pe_ix ix_list (pv 0) pe_int (fun _ _ => rfl)) pe_int (nomark _)) (pw_and1 (pt_cmpR op_lt (pe_ix ix_list (pv 0) pe_int (fun _ _ => rfl)) (pe_callB call_len_seq (by rfl) E.b_len PySem.boot_len (pa_cons (pe_ix ix_list (pv 0) pe_int (fun _ _ => rfl)) pa_nil)) (nomark _)))).pt (pss_cons (ps_asg (pe_callB call_abs (by rfl) E.b_abs (by decide +kernel) (pa_cons (pe_callTy call_int1 (by rfl) E.b_int (by decide +kernel) (pa_cons (pe_ix ix_list (pe_ix ix_list (pv 0) pe_int (fun _ _ => rfl)) (pe_ix ix_list (pv 0) pe_int (fun _ _ => rfl)) (fun _ _ => rfl)) pa_nil)) pa_nil)) (pg_sub (pv 0) pe_int set_list))
      (pss_one (ps_asg (pe_op op_add (pe_ix ix_list (pv 0) pe_int (fun _ _ => rfl)) pe_int) (pg_sub (pv 0) pe_int set_list)))) pss_nil)
      (pss_cons (ps_if (pt_cmpR op_eq (pe_ix ix_list (pv 0) pe_int (fun _ _ => rfl)) pe_int (nomark _)) (pss_cons (ps_asg (pe_op op_mod (pe_callTy call_int1 (by rfl) E.b_int (by decide +kernel) (pa_cons (pe_op op_add (pe_op op_mul (pe_ix ix_list (pv 0) pe_int (fun _ _ => rfl)) pe_int) pe_int) pa_nil)) pe_int) (pg_sub (pv 0) pe_int set_list))
      (pss_one (ps_ret (pe_op op_mod (pe_callTy call_int1 (by rfl) E.b_int (by decide +kernel) (pa_cons (pe_op op_fdivW (pe_ix ix_list (pv 0) pe_int (fun _ _ => rfl)) pe_int) pa_nil)) (pv 1))))) pss_nil)
      (pss_cons (ps_set (i := 2) sc__law_draw.nd rfl (Or.inl rfl) (pe_op op_mod (pe_callTy call_int1 (by rfl) E.b_int (by decide +kernel) (pa_cons (pe_ix ix_list (pv 0) pe_int (fun _ _ => rfl)) pa_nil)) (pv 1)))
      (pss_cons (ps_asg (pe_op op_fdivW (pe_ix ix_list (pv 0) pe_int (fun _ _ => rfl)) (pv 1)) (pg_sub (pv 0) pe_int set_list))
      (pss_one (ps_ret (pv 2))))))), ?_⟩
    refine ⟨_, rfl, _, _, _, _, rfl, rfl, SqL.of h1, atI_nat (j := 1) rfl, rfl, _, rfl, ite2 (fun e => ?_) (fun e => ?_)⟩
    · refine ⟨_, rfl, _, _, _, _, rfl, rfl, SqL.of h1, atI_nat (j := 2) rfl, _, rfl, _, _, _, _, rfl, rfl, SqL.of h1, atI_nat (j := 0) rfl, _, _, rfl, .inl (SqL.of h2), _, _, rfl, rfl, _, rfl, ite2 (fun e1 => ?_) (fun e1 => ?_)⟩
      · have e2 : b < (ns.map V.int).length := of_decide_eq_true e1
        rw [List.length_map] at e2
        have hz : (ns.map V.int)[b.toNat]? = some (V.int (ns[b.toNat]'(by omega))) := by
          rw [List.getElem?_map, List.getElem?_eq_getElem (by omega)]
          rfl
        refine ⟨_, rfl, _, _, _, _, rfl, rfl, SqL.of h1, atI_nat (j := 0) rfl, _, rfl, _, _, _, _, rfl, rfl, SqL.of h1, atI_nat (j := 2) rfl, _, _, _, _, rfl, rfl, SqL.of h2, at_of (j := b.toNat) (by omega) hz, .inl ⟨_, rfl, _, rfl, _, rfl, _, _, _, _, rfl, rfl, h1, rfl, ?_⟩⟩
        refine ⟨_, rfl, _, _, _, _, rfl, rfl, SqL.of upd_same, atI_nat (j := 2) rfl, _, _, rfl, rfl, _, rfl, _, _, _, _, rfl, rfl, upd_same, rfl, ?_⟩
        generalize hH : upd _ p _ = H1
        have hX : ∃ a' b' : Int, H1 p = some (.lst [.ref l, .int a', .int b', .int m]) ∧ 0 ≤ a' ∧ 0 ≤ b' := ⟨_, _, by rw [← hH]; exact upd_same, by split <;> omega, by omega⟩
        have hB : But p H H1 := by rw [← hH]; exact But.put.trans But.put
        have hL : H1 l = some (.lst (ns.map V.int)) := hB l _ nlp h2
        clear hH
        obtain ⟨a', b', hX, ha', hb'⟩ := hX
        refine ⟨_, rfl, _, _, _, _, rfl, rfl, SqL.of hX, atI_nat (j := 1) rfl, rfl, _, rfl, ite2 (fun e3 => ?_) (fun e3 => ?_)⟩
        · refine ⟨_, rfl, _, _, _, _, rfl, rfl, SqL.of hX, atI_nat (j := 3) rfl, _, _, rfl, rfl, .inr ⟨by decide, by decide⟩, _, _, rfl, rfl, .inl ⟨_, rfl, _, _, rfl, rfl, (by decide : (0 : Int) < 2147483647), _, rfl, _, _, _, _, rfl, rfl, hX, rfl, ?_⟩⟩
          refine ⟨_, rfl, _, _, _, _, rfl, rfl, SqL.of upd_same, atI_nat (j := 3) rfl, _, _, rfl, rfl, wide_div (b := 64) (by decide) (by decide) (by decide) (by decide), .inl ⟨_, rfl, _, rfl, _, _, rfl, rfl, hn, ?_⟩⟩
          exact q _ _ (Int.emod_nonneg _ (by omega)) (Int.emod_lt_of_pos _ hn) (hB.trans But.put) ⟨a', b', _, ns, upd_same, by rw [upd_ne nlp]; exact hL, hlen, ha', hb', Int.emod_nonneg _ (by decide), Int.emod_lt_of_pos _ (by decide)⟩
        · refine ⟨_, rfl, _, _, _, _, rfl, rfl, SqL.of hX, atI_nat (j := 1) rfl, .inl ⟨_, rfl, _, rfl, _, _, rfl, rfl, hn, ?_⟩⟩
          refine ⟨_, rfl, _, _, _, _, rfl, rfl, SqL.of hX, atI_nat (j := 1) rfl, _, rfl, _, _, rfl, rfl, wide_div hn hn2 (by decide) (by decide), _, rfl, _, _, _, _, rfl, rfl, hX, rfl, ?_⟩
          refine ⟨_, rfl, ?_⟩
          exact q _ _ (Int.emod_nonneg _ (by omega)) (Int.emod_lt_of_pos _ hn) (hB.trans But.put) ⟨_, b', m, ns, upd_same, by rw [upd_ne nlp]; exact hL, hlen, Int.ediv_nonneg ha' (by omega), hb', hm, hm2⟩
      · have hX : ∃ a' b' : Int, H p = some (.lst [.ref l, .int a', .int b', .int m]) ∧ 0 ≤ a' ∧ 0 ≤ b' := ⟨_, _, h1, ha, hb⟩
        have hB : But p H H := But.refl p H
        have hL := h2
        obtain ⟨a', b', hX, ha', hb'⟩ := hX
        refine ⟨_, rfl, _, _, _, _, rfl, rfl, SqL.of hX, atI_nat (j := 1) rfl, rfl, _, rfl, ite2 (fun e3 => ?_) (fun e3 => ?_)⟩
        · refine ⟨_, rfl, _, _, _, _, rfl, rfl, SqL.of hX, atI_nat (j := 3) rfl, _, _, rfl, rfl, .inr ⟨by decide, by decide⟩, _, _, rfl, rfl, .inl ⟨_, rfl, _, _, rfl, rfl, (by decide : (0 : Int) < 2147483647), _, rfl, _, _, _, _, rfl, rfl, hX, rfl, ?_⟩⟩
          refine ⟨_, rfl, _, _, _, _, rfl, rfl, SqL.of upd_same, atI_nat (j := 3) rfl, _, _, rfl, rfl, wide_div (b := 64) (by decide) (by decide) (by decide) (by decide), .inl ⟨_, rfl, _, rfl, _, _, rfl, rfl, hn, ?_⟩⟩
          exact q _ _ (Int.emod_nonneg _ (by omega)) (Int.emod_lt_of_pos _ hn) (hB.trans But.put) ⟨a', b', _, ns, upd_same, by rw [upd_ne nlp]; exact hL, hlen, ha', hb', Int.emod_nonneg _ (by decide), Int.emod_lt_of_pos _ (by decide)⟩
        · refine ⟨_, rfl, _, _, _, _, rfl, rfl, SqL.of hX, atI_nat (j := 1) rfl, .inl ⟨_, rfl, _, rfl, _, _, rfl, rfl, hn, ?_⟩⟩
          refine ⟨_, rfl, _, _, _, _, rfl, rfl, SqL.of hX, atI_nat (j := 1) rfl, _, rfl, _, _, rfl, rfl, wide_div hn hn2 (by decide) (by decide), _, rfl, _, _, _, _, rfl, rfl, hX, rfl, ?_⟩
          refine ⟨_, rfl, ?_⟩
          exact q _ _ (Int.emod_nonneg _ (by omega)) (Int.emod_lt_of_pos _ hn) (hB.trans But.put) ⟨_, b', m, ns, upd_same, by rw [upd_ne nlp]; exact hL, hlen, Int.ediv_nonneg ha' (by omega), hb', hm, hm2⟩
    · have hX : ∃ a' b' : Int, H p = some (.lst [.ref l, .int a', .int b', .int m]) ∧ 0 ≤ a' ∧ 0 ≤ b' := ⟨_, _, h1, ha, hb⟩
      have hB : But p H H := But.refl p H
      have hL := h2
      obtain ⟨a', b', hX, ha', hb'⟩ := hX
      refine ⟨_, rfl, _, _, _, _, rfl, rfl, SqL.of hX, atI_nat (j := 1) rfl, rfl, _, rfl, ite2 (fun e3 => ?_) (fun e3 => ?_)⟩
      · refine ⟨_, rfl, _, _, _, _, rfl, rfl, SqL.of hX, atI_nat (j := 3) rfl, _, _, rfl, rfl, .inr ⟨by decide, by decide⟩, _, _, rfl, rfl, .inl ⟨_, rfl, _, _, rfl, rfl, (by decide : (0 : Int) < 2147483647), _, rfl, _, _, _, _, rfl, rfl, hX, rfl, ?_⟩⟩
        refine ⟨_, rfl, _, _, _, _, rfl, rfl, SqL.of upd_same, atI_nat (j := 3) rfl, _, _, rfl, rfl, wide_div (b := 64) (by decide) (by decide) (by decide) (by decide), .inl ⟨_, rfl, _, rfl, _, _, rfl, rfl, hn, ?_⟩⟩
        exact q _ _ (Int.emod_nonneg _ (by omega)) (Int.emod_lt_of_pos _ hn) (hB.trans But.put) ⟨a', b', _, ns, upd_same, by rw [upd_ne nlp]; exact hL, hlen, ha', hb', Int.emod_nonneg _ (by decide), Int.emod_lt_of_pos _ (by decide)⟩
      · refine ⟨_, rfl, _, _, _, _, rfl, rfl, SqL.of hX, atI_nat (j := 1) rfl, .inl ⟨_, rfl, _, rfl, _, _, rfl, rfl, hn, ?_⟩⟩
        refine ⟨_, rfl, _, _, _, _, rfl, rfl, SqL.of hX, atI_nat (j := 1) rfl, _, rfl, _, _, rfl, rfl, wide_div hn hn2 (by decide) (by decide), _, rfl, _, _, _, _, rfl, rfl, hX, rfl, ?_⟩
        refine ⟨_, rfl, ?_⟩
        exact q _ _ (Int.emod_nonneg _ (by omega)) (Int.emod_lt_of_pos _ hn) (hB.trans But.put) ⟨_, b', m, ns, upd_same, by rw [upd_ne nlp]; exact hL, hlen, Int.ediv_nonneg ha' (by omega), hb', hm, hm2⟩

theorem ok__law_is_integer {f : Addr} {fd : FuncData} (F : Fun K "_law_is_integer" "_law_is_integer" s__law_is_integer f fd) (E : Bi K mg)  : FnOk P w K mg base CX0 1 f fd ["value"] (sp__law_is_integer K) := by
  refine F.ok sc__law_is_integer (fun vs H Q E h => ?_) (fun cdv A outer s H vs Q E' hr h => ?_)
  · obtain ⟨x, d, rfl, _⟩ := h
    rfl
  · obtain ⟨x, d, rfl, hd, q⟩ := h
    refine ⟨_, (pss_one (ps_ret (pe_and (pe_callB call_isi (by rfl) E.b_isinstance (by decide +kernel) (pa_cons (pv 0) (pa_cons (pe_ty "int" (by rfl) E.b_int (by decide +kernel)) pa_nil))) (pe_one (pe_not (pe_callB call_isi (by rfl) E.b_isinstance (by decide +kernel) (pa_cons (pv 0) (pa_cons (pe_ty "bool" (by rfl) E.b_bool (by decide +kernel)) pa_nil)))))))), ?_⟩
    refine ⟨x, rfl, _, _, _, _, _, rfl, .ty _, tyx_of hd, kit_ty (kitI _), _, rfl, ite2 (fun e => ?_) (fun e => ?_)⟩
    · refine ⟨x, rfl, _, _, _, _, _, rfl, .ty _, tyx_of hd, kit_ty (kitBo _), _, rfl, ?_⟩
      rw [e, Bool.true_and] at q
      exact q
    · rw [Bool.eq_false_iff.mpr e, Bool.false_and] at q
      exact q

theorem ok__law_domain {f : Addr} {fd : FuncData} (F : Fun K "_law_domain" "_law_domain" s__law_domain f fd) (E : Bi K mg)  : FnOk P w K mg base CX0 1 f fd ["given"] (sp__law_domain K) := by
  refine F.ok sc__law_domain (fun vs H Q E h => ?_) (fun cdv A outer s H vs Q E' hr h => ?_)
  · obtain ⟨a, ns, rfl, _⟩ := h
    rfl
  · obtain ⟨a, ns, rfl, ha, hl, q⟩ := h
    refine ⟨_, (pss_cons (ps_set (i := 1) sc__law_domain.nd rfl (Or.inl rfl) (pe_lst pa_nil))
      (pss_cons (ps_for PassesOwn.never rfl (pi_list (pe_callB cr_sortedI (by rfl) E.b_sorted (by decide +kernel) (pa_cons (pv 0) pa_nil))) (pg_name (i := 2) sc__law_domain.nd rfl (Or.inl rfl)) (pss_one (ps_if (pw_and (pt_cmpR op_gt (pe_callB call_len_seq (by rfl) E.b_len PySem.boot_len (pa_cons (pv 1) pa_nil)) pe_int (nomark _)) (pw_and1 (pt_cmpR op_le (pv 2) (pe_op op_add (pe_ix ix_tup (pe_ix ix_list (pv 1) (pe_op op_sub (pe_callB call_len_seq (by rfl) E.b_len PySem.boot_len (pa_cons (pv 1) pa_nil)) pe_int) (fun _ _ => rfl)) pe_int (fun _ _ => rfl)) pe_int) (nomark _)))).pt (pss_one (ps_asg (pe_tup (pa_cons (pe_ix ix_tup (pe_ix ix_list (pv 1) (pe_op op_sub (pe_callB call_len_seq (by rfl) E.b_len PySem.boot_len (pa_cons (pv 1) pa_nil)) pe_int) (fun _ _ => rfl)) pe_int (fun _ _ => rfl)) (pa_cons (pv 2) pa_nil))) (pg_sub (pv 1) (pe_op op_sub (pe_callB call_len_seq (by rfl) E.b_len PySem.boot_len (pa_cons (pv 1) pa_nil)) pe_int) set_list))) (pss_one (ps_expr (pe_bm PySem.F.plainAttrs_list PySem.F.slot_list_append PySem.F.type_list_append mt_append (pv 1) (pa_cons (pe_tup (pa_cons (pv 2) (pa_cons (pv 2) pa_nil))) pa_nil)))))))
      (pss_one (ps_ret (pe_callTy call_tuple_of (by rfl) E.b_tuple (by decide +kernel) (pa_cons (pv 1) pa_nil)))))), ?_⟩
    refine seq_asg ?_
    refine ⟨Nat.zero_le _, fun r nr => ?_⟩
    refine gname (seq_any ?_)
    have hr0 : (upd H r (.lst [])) r = some (.lst []) := upd_same
    have hsr : Same H (upd H r (.lst [])) := same_upd nr
    have hrs : ∀ b u, H b = some u → b ≠ r := fun b u e => ne_of_none e nr
    have has := same_sqL (same_upd (o := .lst []) nr) ha
    clear nr
    generalize upd H r (.lst []) = HY at hr0 hsr has
    let Hs := H
    refine ⟨_, rfl, a, ns, rfl, has, fun ns' p hperm hsort np => ⟨p, rfl, ⟨_, SqL.of upd_same⟩, ?_⟩⟩
    have sp := same_upd (o := .lst (ns'.map V.int)) np
    have hrp : r ≠ p := ne_of_none hr0 np
    refine for_list (K := K) (a := p) (xs := ns'.map V.int) (fun i σ H' => ∃ (vv : Option V) (I : List (Int × Int)) (ys : List V), σ = [some (.ref a), some (.ref r), vv] ∧ Same Hs H' ∧ H' p = some (.lst (ns'.map V.int)) ∧ H' r = some (.lst ys) ∧ DpAll K H' ys (I.map ivD) ∧ Pre I (ns'.take i) ∧ I.length ≤ i)
      ⟨_, [], [], rfl, fun b o e => sp _ _ (hsr b o e), upd_same, by rw [upd_ne hrp]; exact hr0, .nil, pre_nil, Nat.le_refl 0⟩ (fun i σ H' _ ⟨_, _, _, _, _, e, _⟩ => SqL.of e) ?_ ?_
    · rintro i x σ H1 hi ⟨vv, I, ys, rfl, s1, hp1, hr1, dI, hpre, hlen⟩
      rw [List.getElem?_map] at hi
      obtain ⟨v, hv, rfl⟩ : ∃ v, ns'[i]? = some v ∧ V.int v = x := by
        cases hv : ns'[i]? with
        | none => rw [hv] at hi; cases hi
        | some v => rw [hv] at hi; exact ⟨v, rfl, Option.some.inj hi⟩
      have hle := sorted_le hsort hv
      have htk : ns'.take (i + 1) = ns'.take i ++ [v] := by rw [List.take_add_one, hv]; rfl
      have hil := (List.getElem?_eq_some_iff.mp hv).1
      have hnl : ns'.length = ns.length := hperm.length_eq
      have hyl := DpAll.len dI
      rw [List.length_map] at hyl
      have put : ∀ {Ha : Hp} {o : HO}, Same Hs Ha → Same Hs (upd Ha r o) := fun {Ha o} s b u e => by rw [upd_ne (hrs b u e)]; exact s b u e
      have app : (∀ A p0, I = A ++ [p0] → p0.2 + 1 < v) → ∀ vv, ∀ q2, H1 q2 = Option.none → ∃ (vv' : Option V) (I' : List (Int × Int)) (ys' : List V), [some (.ref a), some (.ref r), vv] = [some (.ref a), some (.ref r), vv'] ∧ Same Hs (upd (upd H1 q2 (.tup [.int v, .int v])) r (.lst (ys ++ [.ref q2]))) ∧ (upd (upd H1 q2 (.tup [.int v, .int v])) r (.lst (ys ++ [.ref q2]))) p = some (.lst (ns'.map V.int)) ∧ (upd (upd H1 q2 (.tup [.int v, .int v])) r (.lst (ys ++ [.ref q2]))) r = some (.lst ys') ∧ DpAll K (upd (upd H1 q2 (.tup [.int v, .int v])) r (.lst (ys ++ [.ref q2]))) ys' (I'.map ivD) ∧ Pre I' (ns'.take (i + 1)) ∧ I'.length ≤ i + 1 := fun hn vv q2 nq2 => by
        have sq := same_upd (o := .tup [.int v, .int v]) nq2
        have nt : notTup (upd H1 q2 (.tup [.int v, .int v])) r := .inl ⟨_, sq _ _ hr1⟩
        refine ⟨_, I ++ [(v, v)], _, rfl, put (s1.trans sq), by rw [upd_ne hrp.symm]; exact sq _ _ hp1, upd_same, ?_, by rw [htk]; exact pre_new hpre hle hn, by rw [List.length_append]; exact Nat.add_le_add_right hlen 1⟩
        rw [List.map_append]
        exact DpAll.app (dp_putAll nt _ _ (pd_lay I).2.2.2 (dp_sameAll sq _ _ dI)) (.cons (dp_put nt _ _ (by simp [ivD, noL, noLA]) (.tup (SqT.of upd_same) (.cons (.int _) (.cons (.int _) .nil)))) .nil)
      refine gname ?_
      refine ⟨_, rfl, _, _, rfl, .inl (SqL.of hr1), _, _, rfl, rfl, _, rfl, ?_⟩
      rcases List.eq_nil_or_concat I with z | ⟨A, p0, z⟩
      · subst z
        have hy0 : ys = [] := List.eq_nil_of_length_eq_zero hyl
        subst hy0
        refine iteF (iteF ?_)
        refine ⟨_, rfl, .inl ⟨rfl, _, SqL.of hr1⟩, _, rfl, _, rfl, (by show 2 ≤ sizeLine; decide), fun q2 nq2 => ?_⟩
        refine ⟨_, _, _, rfl, rfl, same_upd nq2 _ _ hr1, small1000 (by show 0 ≤ 1000; decide), ?_⟩
        exact app (fun A p0 h => by have := congrArg List.length h; simp at this) _ q2 nq2
      · rw [List.concat_eq_append] at z
        subst z
        obtain ⟨ya, y, rfl, dA, dy⟩ := dp_snoc dI
        have hpos : decide ((0 : Int) < (((ya ++ [y]).length : Nat) : Int)) = true := decide_eq_true (by rw [List.length_append, List.length_singleton]; omega)
        rw [hpos]
        refine iteT ?_
        unfold ivD at dy
        cases id dy with
        | @tup c zs _ hz az =>
        obtain ⟨w0, hw0, dw0⟩ := DpAll.get (i := 0) az rfl
        obtain ⟨w1, hw1, dw1⟩ := DpAll.get (i := 1) az rfl
        cases dw0
        cases dw1
        refine ⟨_, rfl, _, rfl, _, rfl, _, _, rfl, .inl (SqL.of hr1), _, _, rfl, rfl, _, _, _, _, rfl, rfl, SqL.of hr1, at_len _ _, _, _, _, _, rfl, rfl, hz, atI_nat (j := 1) hw1, _, _, rfl, rfl, _, _, rfl, rfl, _, rfl, ite2 (fun e => ?_) (fun e => ?_)⟩
        · have hve : v ≤ p0.2 + 1 := of_decide_eq_true e
          refine ⟨_, rfl, _, rfl, _, _, rfl, .inl (SqL.of hr1), _, _, rfl, rfl, _, _, _, _, rfl, rfl, SqL.of hr1, at_len _ _, _, _, _, _, rfl, rfl, hz, atI_nat (j := 0) hw0, _, rfl, (by show 2 ≤ sizeLine; decide), fun q2 nq2 => ?_⟩
          have sq := same_upd (o := .tup [.int p0.1, .int v]) nq2
          have hr2 := sq _ _ hr1
          have nt : notTup (upd H1 q2 (.tup [.int p0.1, .int v])) r := .inl ⟨_, hr2⟩
          refine ⟨_, rfl, _, rfl, _, _, rfl, .inl (SqL.of hr2), _, _, rfl, rfl, _, _, _, _, rfl, rfl, hr2, ix_len _ _, ?_⟩
          rw [set_last]
          refine ⟨_, A ++ [(p0.1, v)], _, rfl, put (s1.trans sq), by rw [upd_ne hrp.symm]; exact sq _ _ hp1, upd_same, ?_, by rw [htk]; exact pre_more hpre hle hve, by rw [List.length_append] at hlen ⊢; exact Nat.le_succ_of_le hlen⟩
          rw [List.map_append]
          exact DpAll.app (dp_putAll nt _ _ (pd_lay A).2.2.2 (dp_sameAll sq _ _ dA)) (.cons (dp_put nt _ _ (by simp [ivD, noL, noLA]) (.tup (SqT.of upd_same) (.cons (.int _) (.cons (.int _) .nil)))) .nil)
        · have hve : ¬ v ≤ p0.2 + 1 := fun z => e (decide_eq_true z)
          refine ⟨_, rfl, .inl ⟨rfl, _, SqL.of hr1⟩, _, rfl, _, rfl, (by show 2 ≤ sizeLine; decide), fun q2 nq2 => ?_⟩
          refine ⟨_, _, _, rfl, rfl, same_upd nq2 _ _ hr1, small1000 (by omega), ?_⟩
          exact app (fun B p1 h => by rw [← (snoc_inj h).2]; omega) _ q2 nq2
    · rintro σ H1 ⟨vv, I, ys, rfl, s1, hp1, hr1, dI, hpre, hlen⟩
      rw [List.length_map, List.take_length] at hpre
      refine nxp ?_
      refine ⟨_, rfl, _, _, rfl, .inl ⟨SqL.of hr1, fun u nu => ?_⟩⟩
      have hD : IsDom I ns := ⟨hpre.can, fun w => (hpre.inn w).trans hperm.mem_iff⟩
      exact q _ I _ (s1.trans (same_upd nu)) hD (.tup (SqT.of upd_same) (dp_sameAll (same_upd nu) _ _ dI))

theorem ok__law_values {f : Addr} {fd : FuncData} (F : Fun K "_law_values" "_law_values" s__law_values f fd) (E : Bi K mg)  : FnOk P w K mg base CX0 1 f fd ["given"] (sp__law_values K) := by
  refine F.ok sc__law_values (fun vs H Q E h => ?_) (fun cdv A outer s H vs Q E' hr h => ?_)
  · obtain ⟨x, D, rfl, _⟩ := h
    rfl
  · obtain ⟨x, D, rfl, hx, hl, hc, hb, q⟩ := h
    refine ⟨_, (pss_cons (ps_set (i := 1) sc__law_values.nd rfl (Or.inl rfl) (pe_lst pa_nil))
      (pss_cons (ps_for PassesOwn.never rfl (pi_tup (pv 0)) (pg_name (i := 2) sc__law_values.nd rfl (Or.inl rfl)) (pss_one (ps_expr (pe_bm PySem.F.plainAttrs_list PySem.F.slot_list_extend PySem.F.type_list_extend mt_extend (pv 1) (pa_cons (pe_lc (own := [("value", 3)]) (g := gName 3) (tt := tYes) rfl sc__law_values.nd (pi_range2 (by rfl) E.b_range (pa_cons (pe_ix ix_tup (pv 2) pe_int (fun _ _ => rfl)) (pa_cons (pe_op op_add (pe_ix ix_tup (pv 2) pe_int (fun _ _ => rfl)) pe_int) pa_nil))) (blkOk_by (N := N__law_values) (sc := defScope s__law_values) (by decide +kernel)) (fun _ _ _ _ _ => pg_name (i := 3) sc__law_values.nd rfl (Or.inl rfl)) (fun _ _ _ _ _ => pts_nil) (fun _ _ _ _ _ => (pv 3))) pa_nil)))))
      (pss_one (ps_ret (pv 1))))), ?_⟩
    unfold domD at hx
    cases id hx with
    | @tup a xs _ hs ha =>
    have hxl := DpAll.len ha
    rw [List.length_map] at hxl
    refine seq_asg ?_
    refine ⟨Nat.zero_le _, fun R hR => ?_⟩
    refine gname (seq_any ?_)
    refine ⟨_, rfl, a, rfl, ⟨_, same_sqT (same_upd hR) hs⟩, for_tup (K := K) (a := a) (xs := xs) (fun i σ H' => ∃ vp, σ = [some (.ref a), some (.ref R), vp, none] ∧ Same H H' ∧ H' R = some (.lst ((valsM (D.take i)).map V.int)))
      ⟨none, rfl, same_upd hR, upd_same⟩ (fun i σ H' _ ⟨_, _, e, _⟩ => same_sqT e hs) ?_ ?_⟩
    · rintro i y σ H1 hy ⟨vp, rfl, s1, h1⟩
      obtain ⟨d, hd, dy0⟩ := DpAll.getV ha hy
      rw [List.getElem?_map] at hd
      obtain ⟨p, hp, rfl⟩ : ∃ p, D[i]? = some p ∧ ivD p = d := by
        cases hr : D[i]? with
        | none => rw [hr] at hd; cases hd
        | some p => rw [hr] at hd; exact ⟨p, rfl, Option.some.inj hd⟩
      have hpm := List.mem_of_getElem? hp
      obtain ⟨b1, b2⟩ := hb p hpm
      have hpp := can_mem hc p hpm
      obtain ⟨k1, k2⟩ := pre_bounds hl i hp
      have dy := dp_same s1 _ _ dy0
      unfold ivD at dy
      cases id dy with
      | @tup c zs _ hz az =>
      cases az with
      | cons e1 az =>
      cases az with
      | cons e2 az =>
      cases az
      cases e1
      cases e2
      refine gname ?_
      refine ⟨_, rfl, .inl ⟨rfl, _, SqL.of h1⟩, ?_⟩
      refine ⟨_, rfl, _, _, _, _, rfl, rfl, hz, atI_nat (j := 0) rfl, _, rfl, _, _, _, _, rfl, rfl, hz, atI_nat (j := 1) rfl, _, _, rfl, rfl, _, _, rfl, ⟨by omega, by omega, by omega, by omega⟩, fun R2 hR2 => ?_⟩
      have s2 := same_upd (o := .lst []) hR2
      have hRR : R ≠ R2 := ne_of_none h1 hR2
      refine lc_it (n := (p.2 + 1 - p.1).toNat) walk_range (fun j H' => Same H1 H' ∧ H' R2 = some (.lst (((vals p).take j).map V.int))) ⟨s2, upd_same⟩ (fun _ _ _ _ => trivial) ?_ ?_
      · rintro j z H3 H4 hj ⟨s3, h3⟩ ⟨rfl, rfl⟩
        refine ⟨rfl, _, rfl, _, h3, small1000 (by rw [List.length_map, List.length_take, vals_length]; omega), fun b o e => by rw [upd_ne (ne_of_none e hR2)]; exact s3 _ _ e, ?_⟩
        rw [upd_same, List.take_add_one, vals_take hj, List.map_append]
        rfl
      · rintro H3 ⟨s3, h3⟩
        rw [← vals_length, List.take_length] at h3
        refine ⟨_, _, _, _, rfl, rfl, s3 _ _ h1, h3, small_of (by rw [List.length_map, List.length_map]; omega), ?_⟩
        refine ⟨_, rfl, fun b o e => by rw [upd_ne (ne_of_none e hR)]; exact s3 _ _ (s1 _ _ e), ?_⟩
        rw [upd_same, k2, List.map_append]
    · rintro σ H1 ⟨vp, rfl, s1, h1⟩
      rw [hxl, List.take_length] at h1
      exact nxp ⟨_, rfl, q _ _ s1 hR h1⟩

theorem ok_is_value {f : Addr} {fd : FuncData} (F : Fun K "is_value" "is_value" s_is_value f fd) (E : Bi K mg) (D_is_integer : Has P w K mg base 1 "is_integer" ["value"] (sp_is_integer K)) : FnOk P w K mg base CX0 2 f fd ["value"] (sp_is_value K) := by
  obtain ⟨f_is_integer, fd_is_integer, G_is_integer, g_is_integer, kp_is_integer, b_is_integer⟩ := D_is_integer
  refine F.ok sc_is_value (fun vs H Q E h => ?_) (fun cdv A outer s H vs Q E' hr h => ?_)
  · obtain ⟨x, d, rfl, _⟩ := h
    rfl
  · obtain ⟨x, d, rfl, hd, q⟩ := h
    refine ⟨_, (pss_one (ps_ret (pe_and (pe_call G_is_integer (hr.mono (by decide)) (by rfl) g_is_integer kp_is_integer b_is_integer .nil pass0 (pa_cons (pv 0) pa_nil)) (pe_one (pe_chain op_le op_le (pe_gC (by rfl) E.c_LOWEST) (pv 0) (pe_gC (by rfl) E.c_HIGHEST)))))), ?_⟩
    refine ⟨_, rfl, x, d, rfl, hd, _, rfl, ite2 (fun e => ?_) (fun e => ?_)⟩
    · obtain ⟨n, rfl⟩ : ∃ n, d = .int n := by cases d <;> first | exact ⟨_, rfl⟩ | cases e
      cases hd
      refine ⟨_, rfl, _, _, rfl, rfl, _, rfl, ite2 (fun e1 => ?_) (fun e1 => ?_)⟩
      · refine ⟨_, _, rfl, rfl, ?_⟩
        rw [show endB (.int n) = (decide (-50 ≤ n) && decide (n ≤ 50)) from rfl, e1, Bool.true_and] at q
        exact q
      · rw [show endB (.int n) = (decide (-50 ≤ n) && decide (n ≤ 50)) from rfl, Bool.eq_false_iff.mpr e1, Bool.false_and] at q
        exact q
    · have e2 : endB d = false := by cases d <;> first | rfl | exact absurd rfl e
      rw [e2] at q
      exact q

theorem ok__law_list {f : Addr} {fd : FuncData} (F : Fun K "_law_list" "_law_list" s__law_list f fd) (E : Bi K mg) (D__law_draw : Has P w K mg base 1 "_law_draw" ["stream", "many"] (sp__law_draw K)) : FnOk P w K mg base CX0 2 f fd ["stream"] (sp__law_list K) := by
  obtain ⟨f__law_draw, fd__law_draw, G__law_draw, g__law_draw, kp__law_draw, b__law_draw⟩ := D__law_draw
  refine F.ok sc__law_list (fun vs H Q E h => ?_) (fun cdv A outer s H vs Q E' hr h => ?_)
  · obtain ⟨s, l, rfl, _⟩ := h
    rfl
  · obtain ⟨s, l, rfl, hS, q⟩ := h
    have n9 : (2 : Nat) ^ 8 ≤ 2 ^ 9000 := Nat.pow_le_pow_right (by decide) (by decide)
    refine ⟨_, (pss_cons (ps_set (i := 1) sc__law_list.nd rfl (Or.inr rfl) (pe_op op_sub (pe_call G__law_draw (hr.mono (by decide)) (by rfl) g__law_draw kp__law_draw b__law_draw .nil pass0 (pa_cons (pv 0) (pa_cons pe_int pa_nil))) pe_int))
      (pss_cons (ps_set (i := 2) sc__law_list.nd rfl (Or.inr rfl) (pe_op op_add pe_int (pe_call G__law_draw (hr.mono (by decide)) (by rfl) g__law_draw kp__law_draw b__law_draw .nil pass0 (pa_cons (pv 0) (pa_cons (pe_ix ix_list (pe_lst (pa_cons pe_int (pa_cons pe_int (pa_cons pe_int pa_nil)))) (pe_call G__law_draw (hr.mono (by decide)) (by rfl) g__law_draw kp__law_draw b__law_draw .nil pass0 (pa_cons (pv 0) (pa_cons pe_int pa_nil))) (fun _ _ => rfl)) pa_nil)))))
      (pss_cons (ps_setLc (i := 3) (own := [("k", 4)]) (g := gName 4) (tt := tYes) rfl sc__law_list.nd rfl rfl (by rfl) (pi_range1 (by rfl) E.b_range (pa_cons (pe_call G__law_draw (hr.mono (by decide)) (by rfl) g__law_draw kp__law_draw b__law_draw .nil pass0 (pa_cons (pv 0) (pa_cons pe_int pa_nil))) pa_nil)) (blkOk_by (N := N__law_list) (sc := defScope s__law_list) (by decide +kernel)) (fun _ _ _ _ _ => pg_name (i := 4) sc__law_list.nd rfl (Or.inl rfl)) (fun _ _ _ _ _ => pts_nil) (fun _ _ _ _ _ => (pe_op op_add (pv 1) (pe_call G__law_draw (hr.mono (by decide)) (by rfl) g__law_draw kp__law_draw b__law_draw .nil pass0 (pa_cons (pv 0) (pa_cons (pv 2) pa_nil))))))
      (pss_one (ps_ret (pe_lc (own := [("value", 5)]) (g := gName 5) (tt := tYes) rfl sc__law_list.nd (pi_list (pv 3)) (blkOk_by (N := N__law_list) (sc := defScope s__law_list) (by decide +kernel)) (fun _ _ _ _ _ => pg_name (i := 5) sc__law_list.nd rfl (Or.inl rfl)) (fun _ _ _ _ _ => pts_nil) (fun _ _ _ _ _ => (pe_callB (call_max2 rfl) (by rfl) E.b_max (by decide +kernel) (pa_cons (pe_un un_neg pe_int) (pa_cons (pe_callB (call_min2 rfl) (by rfl) E.b_min (by decide +kernel) (pa_cons pe_int (pa_cons (pv 5) pa_nil))) pa_nil)))))))))), ?_⟩
    refine seq_asg ?_
    refine ⟨_, rfl, s, l, 101, rfl, hS, by decide, Nat.lt_of_lt_of_le (by decide) n9, fun low H1 _ _ b1 S1 => ⟨_, _, rfl, rfl, ?_⟩⟩
    refine gname (seq_asg ?_)
    refine ⟨_, rfl, ?_⟩
    refine args1 (op_of ?_)
    refine lit_lst (K := K) (ds := sizes3.map PyData.int) ?_ (by decide) H1 _ fun v0 H0 t0 i0 => ?_
    · unfold sizes3
      simp only [List.map_cons, List.map_nil]
      walk_at "lits"
    cases i0 with
    | @lst p0 xs0 _ g0 e0 a0 =>
    obtain ⟨os1, hos1⟩ := S1.at_s
    have np0 : p0 ≠ s := fun z => by
      rw [z, hos1] at g0
      cases g0
    refine ⟨_, rfl, s, l, 3, rfl, S1.keep t0, by decide, Nat.lt_of_lt_of_le (by decide) n9, fun r H2 r0 r1 b2 S2 => ?_⟩
    obtain ⟨m, hm, hat⟩ := int_pick a0 r0 r1
    have hm2 : 0 < m ∧ m ≤ 101 := (show ∀ m ∈ sizes3, 0 < m ∧ m ≤ 101 by decide) m hm
    refine ⟨_, _, _, _, rfl, rfl, SqL.of (b2 _ _ np0 e0), hat, s, l, m, rfl, S2, hm2.1, Nat.lt_of_lt_of_le (show _ < 2 ^ 8 from by omega) n9, fun w H3 w0 w1 b3 S3 => ⟨_, _, rfl, rfl, ?_⟩⟩
    have bb := ((b1.trans (But.of t0)).trans b2).trans b3
    refine gname (seq_asg ?_)
    refine ⟨_, rfl, s, l, 31, rfl, S3, by decide, Nat.lt_of_lt_of_le (by decide) n9, fun n H4 n0 n1 b4 S4 => ?_⟩
    refine ⟨_, rfl, by omega, by omega, fun D hD => ?_⟩
    obtain ⟨os4, hos4⟩ := S4.at_s
    obtain ⟨ol4, hol4⟩ := S4.at_l
    have sD : s ≠ D := ne_of_none hos4 hD
    have lD : l ≠ D := ne_of_none hol4 hD
    refine lc_range (fun i H' => ∃ ns : List Int, H' D = some (.lst (ns.map V.int)) ∧ ns.length = i ∧ Stm H' s l ∧ (∀ b o, b ≠ s → b ≠ D → H4 b = some o → H' b = some o))
      ⟨[], upd_same, rfl, S4.put sD lD, fun b o _ h2 e => by rw [upd_ne h2]; exact e⟩ ?_ ?_
    · rintro i H5 hi ⟨ns, h1, h2, h3, h4⟩
      refine ⟨rfl, _, rfl, _, rfl, _, rfl, s, l, _, rfl, h3, by omega, Nat.lt_of_lt_of_le (show _ < 2 ^ 8 from by omega) n9, fun v H6 v0 v1 b6 S6 => ⟨_, _, rfl, rfl, ?_⟩⟩
      refine ⟨_, b6 _ _ sD.symm h1, small1000 (by rw [List.length_map]; omega), ns ++ [low - 50 + v], ?_, by rw [List.length_append, h2]; rfl, S6.put sD lD, fun b o hb1 hb2 e => ?_⟩
      · rw [upd_same, List.map_append]; rfl
      · rw [upd_ne hb2]
        exact b6 b o hb1 (h4 b o hb1 hb2 e)
    · rintro H5 ⟨ns, h1, h2, h3, h4⟩
      refine gname ?_
      have b45 : But s H4 H5 := fun b o hb e => h4 b o hb (fun z => by rw [z, hD] at e; cases e) e
      have b05 := (bb.trans b4).trans b45
      refine ⟨_, rfl, D, rfl, ⟨_, SqL.of h1⟩, fun D2 hD2 => ?_⟩
      have hDD : D ≠ D2 := ne_of_none h1 hD2
      refine lc_list (K := K) (a := D) (xs := ns.map V.int) (fun i H' => H' = upd H5 D2 (.lst (((ns.take i).map clip).map V.int))) rfl (fun i H' _ e => by rw [e]; exact SqL.of (by rw [upd_ne hDD]; exact h1)) ?_ ?_
      · rintro i y H6 hi rfl
        rw [List.getElem?_map] at hi
        obtain ⟨v, hv, rfl⟩ : ∃ v, ns[i]? = some v ∧ V.int v = y := by
          cases hv : ns[i]? with
          | none => rw [hv] at hi; cases hi
          | some v => rw [hv] at hi; exact ⟨v, rfl, Option.some.inj hi⟩
        have hil := (List.getElem?_eq_some_iff.mp hv).1
        refine ⟨rfl, _, rfl, _, rfl, _, _, rfl, _, _, rfl, _, upd_same, small1000 (by rw [List.length_map, List.length_map, List.length_take]; omega), ?_⟩
        rw [upd_upd, List.take_add_one, hv, List.map_append, List.map_append]
        rfl
      · rintro H6 rfl
        rw [List.length_map, List.take_length]
        have hfree : H D2 = Option.none := fr_of b05 h3 _ hD2
        refine q D2 (ns.map clip) _ (fun k hk => ?_) (by rw [List.length_map]; omega) (b05.trans (But.of (same_upd hD2))) (h3.keep (same_upd hD2)) hfree upd_same
        obtain ⟨v, _, rfl⟩ := List.mem_map.mp hk
        exact clip_in v

theorem ok__law_value {f : Addr} {fd : FuncData} (F : Fun K "_law_value" "_law_value" s__law_value f fd) (E : Bi K mg) (D__law_draw : Has P w K mg base 1 "_law_draw" ["stream", "many"] (sp__law_draw K)) : FnOk P w K mg base CX0 2 f fd ["stream"] (sp__law_value K) := by
  obtain ⟨f__law_draw, fd__law_draw, G__law_draw, g__law_draw, kp__law_draw, b__law_draw⟩ := D__law_draw
  refine F.ok sc__law_value (fun vs H Q E h => ?_) (fun cdv A outer s H vs Q E' hr h => ?_)
  · obtain ⟨s, l, rfl, _⟩ := h
    rfl
  · obtain ⟨s, l, rfl, hS, q⟩ := h
    have n9 : (2 : Nat) ^ 8 ≤ 2 ^ 9000 := Nat.pow_le_pow_right (by decide) (by decide)
    refine ⟨_, (pss_cons (ps_set (i := 1) sc__law_value.nd rfl (Or.inl rfl) (pe_lst (pa_cons pe_bl (pa_cons pe_non (pa_cons pe_str (pa_cons (pe_tup (pa_cons pe_int pa_nil)) (pa_cons (pe_lst (pa_cons pe_int pa_nil)) (pa_cons pe_int (pa_cons (pe_un un_neg pe_int) (pa_cons (pe_op op_pow pe_int pe_int) pa_nil))))))))))
      (pss_cons (ps_if (pt_cmpR op_eq (pe_call G__law_draw (hr.mono (by decide)) (by rfl) g__law_draw kp__law_draw b__law_draw .nil pass0 (pa_cons (pv 0) (pa_cons pe_int pa_nil))) pe_int (nomark _)) (pss_one (ps_ret (pe_ix ix_list (pv 1) (pe_call G__law_draw (hr.mono (by decide)) (by rfl) g__law_draw kp__law_draw b__law_draw .nil pass0 (pa_cons (pv 0) (pa_cons (pe_callB call_len_seq (by rfl) E.b_len PySem.boot_len (pa_cons (pv 1) pa_nil)) pa_nil))) (fun _ _ => rfl)))) pss_nil)
      (pss_one (ps_ret (pe_op op_sub (pe_call G__law_draw (hr.mono (by decide)) (by rfl) g__law_draw kp__law_draw b__law_draw .nil pass0 (pa_cons (pv 0) (pa_cons pe_int pa_nil))) pe_int))))), ?_⟩
    refine seq_asg ?_
    refine lit_lst (K := K) (ds := odd8) ?_ (by decide) H _ fun v0 H0 t0 i0 => ?_
    · unfold odd8
      walk_at "lits"
    cases i0 with
    | @lst p0 xs0 _ g0 e0 a0 =>
    obtain ⟨os0, hos0⟩ := hS.at_s
    have np0 : p0 ≠ s := fun z => by
      rw [z, hos0] at g0
      cases g0
    have lx : xs0.length = 8 := a0.len
    have b0 : But s H H0 := But.of t0
    refine gname (seq_ifN ?_)
    refine ⟨_, rfl, s, l, 9, rfl, hS.keep t0, by decide, Nat.lt_of_lt_of_le (by decide) n9, fun r1 H1 _ _ b1 S1 => ⟨rfl, _, rfl, ite2 (fun e => ?_) (fun e => ?_)⟩⟩
    · have e1 := b1 _ _ np0 e0
      refine ⟨_, rfl, _, rfl, _, rfl, _, _, rfl, .inl (SqL.of e1), s, l, _, rfl, S1, by rw [lx]; decide, Nat.lt_of_lt_of_le (show _ < 2 ^ 8 from by rw [lx]; decide) n9, fun r H2 r0 r8 b2 S2 => ?_⟩
      rw [lx] at r8
      have hr : r.toNat < odd8.length := by show r.toNat < 8; omega
      obtain ⟨v, hv, iv⟩ := ImAll.get a0 (List.getElem?_eq_getElem hr)
      refine ⟨_, _, _, _, rfl, rfl, SqL.of (b2 _ _ np0 e1), at_of (j := r.toNat) (by omega) hv, ?_⟩
      refine q v _ H2 ((b0.trans b1).trans b2) S2 (frs_keep hS (b1.trans b2) iv) fun ds hds => ?_
      have hmem : odd8[r.toNat] ∈ odd8 := List.getElem_mem hr
      rw [hds] at hmem
      unfold odd8 at hmem
      simp only [List.mem_cons, List.not_mem_nil, or_false, reduceCtorEq, false_or, PyData.tuple.injEq] at hmem
      rw [hmem]
      decide
    · refine ⟨_, rfl, s, l, 101, rfl, S1, by decide, Nat.lt_of_lt_of_le (by decide) n9, fun r H2 _ _ b2 S2 => ⟨_, _, rfl, rfl, ?_⟩⟩
      exact q _ (.int (r - 50)) H2 ((b0.trans b1).trans b2) S2 (.int _) fun ds h => nomatch h

theorem ok__law_is_end {f : Addr} {fd : FuncData} (F : Fun K "_law_is_end" "_law_is_end" s__law_is_end f fd) (E : Bi K mg) (D__law_is_integer : Has P w K mg base 1 "_law_is_integer" ["value"] (sp__law_is_integer K)) : FnOk P w K mg base CX0 2 f fd ["value"] (sp__law_is_end K) := by
  obtain ⟨f__law_is_integer, fd__law_is_integer, G__law_is_integer, g__law_is_integer, kp__law_is_integer, b__law_is_integer⟩ := D__law_is_integer
  refine F.ok sc__law_is_end (fun vs H Q E h => ?_) (fun cdv A outer s H vs Q E' hr h => ?_)
  · obtain ⟨x, d, rfl, _⟩ := h
    rfl
  · obtain ⟨x, d, rfl, hd, q⟩ := h
    refine ⟨_, (pss_one (ps_ret (pe_and (pe_call G__law_is_integer (hr.mono (by decide)) (by rfl) g__law_is_integer kp__law_is_integer b__law_is_integer .nil pass0 (pa_cons (pv 0) pa_nil)) (pe_one (pe_chain op_le op_le (pe_un un_neg pe_int) (pv 0) pe_int))))), ?_⟩
    refine ⟨_, rfl, x, d, rfl, hd, _, rfl, ite2 (fun e => ?_) (fun e => ?_)⟩
    · obtain ⟨n, rfl⟩ : ∃ n, d = .int n := by cases d <;> first | exact ⟨_, rfl⟩ | cases e
      cases hd
      refine ⟨_, rfl, _, rfl, _, _, rfl, rfl, _, rfl, ite2 (fun e1 => ?_) (fun e1 => ?_)⟩
      · refine ⟨_, _, rfl, rfl, ?_⟩
        rw [show endB (.int n) = (decide (-50 ≤ n) && decide (n ≤ 50)) from rfl, e1, Bool.true_and] at q
        exact q
      · rw [show endB (.int n) = (decide (-50 ≤ n) && decide (n ≤ 50)) from rfl, Bool.eq_false_iff.mpr e1, Bool.false_and] at q
        exact q
    · have e2 : endB d = false := by cases d <;> first | rfl | exact absurd rfl e
      rw [e2] at q
      exact q

theorem ok_domain {f : Addr} {fd : FuncData} (F : Fun K "domain" "domain" s_domain f fd) (E : Bi K mg) (D_is_value : Has P w K mg base 2 "is_value" ["value"] (sp_is_value K)) : FnOk P w K mg base (L2.CX P w) 3 f fd ["values"] (sp_domain K) := by
  obtain ⟨f_is_value, fd_is_value, G_is_value, g_is_value, kp_is_value, b_is_value⟩ := D_is_value
  refine F.okX sc_domain (fun vs H Q E h => ?_) (fun cdv A outer s H vs Q E' hr h => ?_)
  · obtain ⟨a, ns, rfl, _⟩ := h
    rfl
  · obtain ⟨a, ns, rfl, ha, hl, q1, q2⟩ := h
    refine ⟨_, (pss_cons (ps_if (pt_not (pt_val (pe_callB (cr_all rfl) (by rfl) E.b_all (by decide +kernel) (pa_cons (pe_lc (own := [("value", 1)]) (g := gName 1) (tt := tYes) rfl sc_domain.nd (pi_list (pv 0)) (blkOk_by (N := N_domain) (sc := defScope s_domain) (by decide +kernel)) (fun _ _ _ _ _ => pg_name (i := 1) sc_domain.nd rfl (Or.inl rfl)) (fun _ _ _ _ _ => pts_nil) (fun _ _ _ _ _ => (pe_call G_is_value (hr.mono (by decide)) (by rfl) g_is_value kp_is_value b_is_value .nil pass0 (pa_cons (pv 1) pa_nil)))) pa_nil)))) (pss_one (ps_raise rfl (takes_of rfl rfl rfl rfl) (pmk_own PySem.F.excBase_ValueError E.x_BadProblem.xC E.x_BadProblem.gC E.x_BadProblem.kC (raises_own E.x_BadProblem.bC E.x_BadProblem.tC) rfl))) pss_nil)
      (pss_cons (ps_set (i := 2) sc_domain.nd rfl (Or.inl rfl) (pe_lst pa_nil))
      (pss_cons (ps_for (passes_of rfl) rfl (pi_list (pe_callB cr_sortedI (by rfl) E.b_sorted (by decide +kernel) (pa_cons (pv 0) pa_nil))) (pg_name (i := 1) sc_domain.nd rfl (Or.inl rfl)) (pss_one (ps_if (pw_and (pt_cmpR op_gt (pe_callB call_len_seq (by rfl) E.b_len PySem.boot_len (pa_cons (pv 2) pa_nil)) pe_int (nomark _)) (pw_and1 (pt_cmpR op_le (pv 1) (pe_op op_add (pe_ix ix_tup (pe_ix ix_list (pv 2) (pe_un un_neg pe_int) (fun _ _ => rfl)) pe_int (fun _ _ => rfl)) pe_int) (nomark _)))).pt (pss_one (ps_asg (pe_tup (pa_cons (pe_ix ix_tup (pe_ix ix_list (pv 2) (pe_un un_neg pe_int) (fun _ _ => rfl)) pe_int (fun _ _ => rfl)) (pa_cons (pv 1) pa_nil))) (pg_sub (pv 2) (pe_un un_neg pe_int) set_list))) (pss_one (ps_expr (pe_bm PySem.F.plainAttrs_list PySem.F.slot_list_append PySem.F.type_list_append mt_append (pv 2) (pa_cons (pe_tup (pa_cons (pv 1) (pa_cons (pv 1) pa_nil))) pa_nil)))))))
      (pss_one (ps_ret (pe_callTy call_tuple_of (by rfl) E.b_tuple (by decide +kernel) (pa_cons (pv 2) pa_nil))))))), ?_⟩
    refine seq_ifN ?_
    refine ⟨_, rfl, a, rfl, ⟨_, ha⟩, fun D hD => ?_⟩
    have sD := same_upd (o := .lst []) hD
    have haD : ∀ o, SqL K (upd H D o) a (ns.map V.int) := fun o => same_sqL (same_upd hD) ha
    refine lc_list (K := K) (a := a) (xs := ns.map V.int) (fun i H' => H' = upd H D (.lst ((ns.take i).map fun n => V.bl (endB (.int n))))) rfl (fun i H' _ e => by rw [e]; exact haD _) ?_ ?_
    · rintro i x H1 hi rfl
      rw [List.getElem?_map] at hi
      obtain ⟨v, hv, rfl⟩ : ∃ v, ns[i]? = some v ∧ V.int v = x := by
        cases hv : ns[i]? with
        | none => rw [hv] at hi; cases hi
        | some v => rw [hv] at hi; exact ⟨v, rfl, Option.some.inj hi⟩
      have hil := (List.getElem?_eq_some_iff.mp hv).1
      refine ⟨rfl, _, rfl, _, .int v, rfl, .int v, _, upd_same, small1000 (by rw [List.length_map, List.length_take]; omega), ?_⟩
      rw [upd_upd, List.take_add_one, hv, List.map_append]
      rfl
    · rintro H1 rfl
      refine ⟨D, ns.map fun n => endB (.int n), rfl, SqL.of (by rw [upd_same, List.length_map, List.take_length, List.map_map]; rfl), ?_⟩
      refine ⟨_, rfl, ?_⟩
      have sX := same_upd (o := .lst ((ns.take (ns.map V.int).length).map fun n => V.bl (endB (.int n)))) hD
      have haX := same_sqL sX ha
      generalize upd H D (.lst ((ns.take (ns.map V.int).length).map fun n => V.bl (endB (.int n)))) = HX at sX haX
      cases hall : (ns.map fun n => endB (.int n)).all id with
      | false =>
        exact iteT (q2 (fun hno => by rw [(end_all ns).mpr hno] at hall; cases hall) _ sX)
      | true =>
        have hin := (end_all ns).mp hall
        refine iteF (seq_asg ?_)
        refine ⟨Nat.zero_le _, fun r nr => ?_⟩
        refine gname (seq_any ?_)
        have hr0 : (upd HX r (.lst [])) r = some (.lst []) := upd_same
        have hsr : Same H (upd HX r (.lst [])) := sX.trans (same_upd nr)
        have hrs : ∀ b u, H b = some u → b ≠ r := fun b u e => ne_of_none (sX _ _ e) nr
        have has := same_sqL (same_upd (o := .lst []) nr) haX
        clear sD haD nr
        generalize upd HX r (.lst []) = HY at hr0 hsr has
        let Hs := H
        refine ⟨_, rfl, a, ns, rfl, has, fun ns' p hperm hsort np => ⟨p, rfl, ⟨_, SqL.of upd_same⟩, ?_⟩⟩
        have sp := same_upd (o := .lst (ns'.map V.int)) np
        have hrp : r ≠ p := ne_of_none hr0 np
        refine for_list (K := K) (a := p) (xs := ns'.map V.int) (fun i σ H' => ∃ (vv : Option V) (I : List (Int × Int)) (ys : List V), σ = [some (.ref a), vv, some (.ref r)] ∧ Same Hs H' ∧ H' p = some (.lst (ns'.map V.int)) ∧ H' r = some (.lst ys) ∧ DpAll K H' ys (I.map ivD) ∧ Pre I (ns'.take i) ∧ I.length ≤ i)
          ⟨_, [], [], rfl, fun b o e => sp _ _ (hsr b o e), upd_same, by rw [upd_ne hrp]; exact hr0, .nil, pre_nil, Nat.le_refl 0⟩ (fun i σ H' _ ⟨_, _, _, _, _, e, _⟩ => SqL.of e) ?_ ?_
        · rintro i x σ H1 hi ⟨vv, I, ys, rfl, s1, hp1, hr1, dI, hpre, hlen⟩
          rw [List.getElem?_map] at hi
          obtain ⟨v, hv, rfl⟩ : ∃ v, ns'[i]? = some v ∧ V.int v = x := by
            cases hv : ns'[i]? with
            | none => rw [hv] at hi; cases hi
            | some v => rw [hv] at hi; exact ⟨v, rfl, Option.some.inj hi⟩
          have hle := sorted_le hsort hv
          have htk : ns'.take (i + 1) = ns'.take i ++ [v] := by rw [List.take_add_one, hv]; rfl
          have hil := (List.getElem?_eq_some_iff.mp hv).1
          have hnl : ns'.length = ns.length := hperm.length_eq
          have hyl := DpAll.len dI
          rw [List.length_map] at hyl
          have put : ∀ {Ha : Hp} {o : HO}, Same Hs Ha → Same Hs (upd Ha r o) := fun {Ha o} s b u e => by rw [upd_ne (hrs b u e)]; exact s b u e
          have app : (∀ A p0, I = A ++ [p0] → p0.2 + 1 < v) → ∀ vv, ∀ q2, H1 q2 = Option.none → ∃ (vv' : Option V) (I' : List (Int × Int)) (ys' : List V), [some (.ref a), vv, some (.ref r)] = [some (.ref a), vv', some (.ref r)] ∧ Same Hs (upd (upd H1 q2 (.tup [.int v, .int v])) r (.lst (ys ++ [.ref q2]))) ∧ (upd (upd H1 q2 (.tup [.int v, .int v])) r (.lst (ys ++ [.ref q2]))) p = some (.lst (ns'.map V.int)) ∧ (upd (upd H1 q2 (.tup [.int v, .int v])) r (.lst (ys ++ [.ref q2]))) r = some (.lst ys') ∧ DpAll K (upd (upd H1 q2 (.tup [.int v, .int v])) r (.lst (ys ++ [.ref q2]))) ys' (I'.map ivD) ∧ Pre I' (ns'.take (i + 1)) ∧ I'.length ≤ i + 1 := fun hn vv q2 nq2 => by
            have sq := same_upd (o := .tup [.int v, .int v]) nq2
            have nt : notTup (upd H1 q2 (.tup [.int v, .int v])) r := .inl ⟨_, sq _ _ hr1⟩
            refine ⟨_, I ++ [(v, v)], _, rfl, put (s1.trans sq), by rw [upd_ne hrp.symm]; exact sq _ _ hp1, upd_same, ?_, by rw [htk]; exact pre_new hpre hle hn, by rw [List.length_append]; exact Nat.add_le_add_right hlen 1⟩
            rw [List.map_append]
            exact DpAll.app (dp_putAll nt _ _ (pd_lay I).2.2.2 (dp_sameAll sq _ _ dI)) (.cons (dp_put nt _ _ (by simp [ivD, noL, noLA]) (.tup (SqT.of upd_same) (.cons (.int _) (.cons (.int _) .nil)))) .nil)
          refine gname ?_
          refine ⟨_, rfl, _, _, rfl, .inl (SqL.of hr1), _, _, rfl, rfl, _, rfl, ?_⟩
          rcases List.eq_nil_or_concat I with z | ⟨A, p0, z⟩
          · subst z
            have hy0 : ys = [] := List.eq_nil_of_length_eq_zero hyl
            subst hy0
            refine iteF (iteF ?_)
            refine ⟨_, rfl, .inl ⟨rfl, _, SqL.of hr1⟩, _, rfl, _, rfl, (by show 2 ≤ sizeLine; decide), fun q2 nq2 => ?_⟩
            refine ⟨_, _, _, rfl, rfl, same_upd nq2 _ _ hr1, small1000 (by show 0 ≤ 1000; decide), ?_⟩
            exact app (fun A p0 h => by have := congrArg List.length h; simp at this) _ q2 nq2
          · rw [List.concat_eq_append] at z
            subst z
            obtain ⟨ya, y, rfl, dA, dy⟩ := dp_snoc dI
            have hpos : decide ((0 : Int) < (((ya ++ [y]).length : Nat) : Int)) = true := decide_eq_true (by rw [List.length_append, List.length_singleton]; omega)
            rw [hpos]
            refine iteT ?_
            unfold ivD at dy
            cases id dy with
            | @tup c zs _ hz az =>
            obtain ⟨w0, hw0, dw0⟩ := DpAll.get (i := 0) az rfl
            obtain ⟨w1, hw1, dw1⟩ := DpAll.get (i := 1) az rfl
            cases dw0
            cases dw1
            refine ⟨_, rfl, _, rfl, _, rfl, _, _, _, _, rfl, rfl, SqL.of hr1, at_last _ _, _, _, _, _, rfl, rfl, hz, atI_nat (j := 1) hw1, _, _, rfl, rfl, _, _, rfl, rfl, _, rfl, ite2 (fun e => ?_) (fun e => ?_)⟩
            · have hve : v ≤ p0.2 + 1 := of_decide_eq_true e
              refine ⟨_, rfl, _, rfl, _, _, _, _, rfl, rfl, SqL.of hr1, at_last _ _, _, _, _, _, rfl, rfl, hz, atI_nat (j := 0) hw0, _, rfl, (by show 2 ≤ sizeLine; decide), fun q2 nq2 => ?_⟩
              have sq := same_upd (o := .tup [.int p0.1, .int v]) nq2
              have hr2 := sq _ _ hr1
              have nt : notTup (upd H1 q2 (.tup [.int p0.1, .int v])) r := .inl ⟨_, hr2⟩
              refine ⟨_, rfl, _, rfl, _, _, _, _, rfl, rfl, hr2, ix_last _ _, ?_⟩
              rw [set_last]
              refine ⟨_, A ++ [(p0.1, v)], _, rfl, put (s1.trans sq), by rw [upd_ne hrp.symm]; exact sq _ _ hp1, upd_same, ?_, by rw [htk]; exact pre_more hpre hle hve, by rw [List.length_append] at hlen ⊢; exact Nat.le_succ_of_le hlen⟩
              rw [List.map_append]
              exact DpAll.app (dp_putAll nt _ _ (pd_lay A).2.2.2 (dp_sameAll sq _ _ dA)) (.cons (dp_put nt _ _ (by simp [ivD, noL, noLA]) (.tup (SqT.of upd_same) (.cons (.int _) (.cons (.int _) .nil)))) .nil)
            · have hve : ¬ v ≤ p0.2 + 1 := fun z => e (decide_eq_true z)
              refine ⟨_, rfl, .inl ⟨rfl, _, SqL.of hr1⟩, _, rfl, _, rfl, (by show 2 ≤ sizeLine; decide), fun q2 nq2 => ?_⟩
              refine ⟨_, _, _, rfl, rfl, same_upd nq2 _ _ hr1, small1000 (by omega), ?_⟩
              exact app (fun B p1 h => by rw [← (snoc_inj h).2]; omega) _ q2 nq2
        · rintro σ H1 ⟨vv, I, ys, rfl, s1, hp1, hr1, dI, hpre, hlen⟩
          rw [List.length_map, List.take_length] at hpre
          refine nxp ?_
          refine ⟨_, rfl, _, _, rfl, .inl ⟨SqL.of hr1, fun u nu => ?_⟩⟩
          have hD : IsDom I ns := ⟨hpre.can, fun w => (hpre.inn w).trans hperm.mem_iff⟩
          exact q1 hin _ I _ (s1.trans (same_upd nu)) hD (.tup (SqT.of upd_same) (dp_sameAll (same_upd nu) _ _ dI))

theorem ok_is_interval {f : Addr} {fd : FuncData} (F : Fun K "is_interval" "is_interval" s_is_interval f fd) (E : Bi K mg) (D_is_value : Has P w K mg base 2 "is_value" ["value"] (sp_is_value K)) : FnOk P w K mg base CX0 3 f fd ["value"] (sp_is_interval K) := by
  obtain ⟨f_is_value, fd_is_value, G_is_value, g_is_value, kp_is_value, b_is_value⟩ := D_is_value
  refine F.ok sc_is_interval (fun vs H Q E h => ?_) (fun cdv A outer s H vs Q E' hr h => ?_)
  · obtain ⟨x, d, rfl, _⟩ := h
    rfl
  · obtain ⟨x, d, rfl, hd, q⟩ := h
    refine ⟨_, (pss_cons (ps_if (pw_or (pt_not (pt_val (pe_callB call_isi (by rfl) E.b_isinstance (by decide +kernel) (pa_cons (pv 0) (pa_cons (pe_ty "tuple" (by rfl) E.b_tuple (by decide +kernel)) pa_nil))))) (pw_or1 (pt_cmpR op_ne (pe_callB call_len_seq (by rfl) E.b_len PySem.boot_len (pa_cons (pv 0) pa_nil)) pe_int (nomark _)))).pt (pss_one (ps_ret pe_bl)) pss_nil)
      (pss_cons (ps_asg (pv 0) (pg_tup rfl (pgs_cons (pg_name (i := 1) sc_is_interval.nd rfl (Or.inl rfl)) (pgs_cons (pg_name (i := 2) sc_is_interval.nd rfl (Or.inl rfl)) pgs_nil))))
      (pss_one (ps_ret (pe_and (pe_call G_is_value (hr.mono (by decide)) (by rfl) g_is_value kp_is_value b_is_value .nil pass0 (pa_cons (pv 1) pa_nil)) (pe_and (pe_call G_is_value (hr.mono (by decide)) (by rfl) g_is_value kp_is_value b_is_value .nil pass0 (pa_cons (pv 2) pa_nil)) (pe_one (pe_cmpR op_le (pv 1) (pv 2) (nomark _))))))))), ?_⟩
    refine seq_ifN ?_
    refine ⟨_, rfl, _, _, _, _, _, rfl, .ty _, tyx_of hd, kit_ty (kitT _), _, rfl, ite2 (fun e => ?_) (fun e => ?_)⟩
    · have e2 : ivB d = false := by cases d <;> first | rfl | cases e
      rw [e2] at q
      exact iteT q
    · obtain ⟨ds, rfl⟩ : ∃ ds, d = .tuple ds := by cases d <;> first | exact ⟨_, rfl⟩ | exact absurd rfl e
      cases id hd with
      | @tup a xs _ hs ha =>
      have hxl := DpAll.len ha
      refine ⟨_, rfl, _, _, rfl, .inr hs, rfl, _, rfl, ?_⟩
      rcases ds with _ | ⟨d0, _ | ⟨d1, _ | ⟨d2, dr⟩⟩⟩
      · cases ha
        exact iteT q
      · cases ha with
        | cons _ ha =>
        cases ha
        rw [show ivB (.tuple [d0]) = false by cases d0 <;> rfl] at q
        exact iteT q
      · cases ha with
        | @cons v0 _ _ _ h0 ha =>
        cases ha with
        | @cons v1 _ _ _ h1 ha =>
        cases ha
        refine iteF (seq_asg ?_)
        refine ⟨_, rfl, a, _, rfl, hs, rfl, _, _, rfl, gname ⟨_, [], rfl, gname ⟨rfl, ?_⟩⟩⟩
        have iv : ivB (.tuple [d0, d1]) = (endB d0 && endB d1 && (match d0, d1 with | .int a, .int b => decide (a ≤ b) | _, _ => true)) := by
          cases d0 <;> cases d1 <;> first | rfl | (simp [ivB, endB])
        rw [iv] at q
        refine ⟨_, rfl, v0, d0, rfl, h0, _, rfl, ite2 (fun e0 => ?_) (fun e0 => ?_)⟩
        · rw [e0, Bool.true_and] at q
          refine ⟨_, rfl, v1, d1, rfl, h1, _, rfl, ite2 (fun e1 => ?_) (fun e1 => ?_)⟩
          · rw [e1, Bool.true_and] at q
            obtain ⟨m, rfl⟩ : ∃ m, d0 = .int m := by cases d0 <;> first | exact ⟨_, rfl⟩ | cases e0
            obtain ⟨n, rfl⟩ : ∃ n, d1 = .int n := by cases d1 <;> first | exact ⟨_, rfl⟩ | cases e1
            cases h0
            cases h1
            exact ⟨_, rfl, _, rfl, _, _, rfl, rfl, q⟩
          · rw [Bool.eq_false_iff.mpr e1, Bool.false_and] at q
            exact q
        · rw [Bool.eq_false_iff.mpr e0, Bool.false_and, Bool.false_and] at q
          exact q
      · have e3 : ivB (.tuple (d0 :: d1 :: d2 :: dr)) = false := by cases d0 <;> cases d1 <;> rfl
        rw [e3] at q
        rw [List.length_cons, List.length_cons, List.length_cons] at hxl
        rw [decide_eq_false (fun z => by have := V.int.inj z; omega)]
        exact iteT q

theorem ok__law_strange {f : Addr} {fd : FuncData} (F : Fun K "_law_strange" "_law_strange" s__law_strange f fd) (E : Bi K mg) (D__law_draw : Has P w K mg base 1 "_law_draw" ["stream", "many"] (sp__law_draw K)) (D__law_value : Has P w K mg base 2 "_law_value" ["stream"] (sp__law_value K)) : FnOk P w K mg base CX0 3 f fd ["stream"] (sp__law_strange K) := by
  obtain ⟨f__law_draw, fd__law_draw, G__law_draw, g__law_draw, kp__law_draw, b__law_draw⟩ := D__law_draw
  obtain ⟨f__law_value, fd__law_value, G__law_value, g__law_value, kp__law_value, b__law_value⟩ := D__law_value
  refine F.ok sc__law_strange (fun vs H Q E h => ?_) (fun cdv A outer s H vs Q E' hr h => ?_)
  · obtain ⟨s, l, rfl, _⟩ := h
    rfl
  · obtain ⟨s, l, rfl, hS, q⟩ := h
    have n9 : (2 : Nat) ^ 8 ≤ 2 ^ 9000 := Nat.pow_le_pow_right (by decide) (by decide)
    refine ⟨_, (pss_cons (ps_set (i := 1) sc__law_strange.nd rfl (Or.inl rfl) (pe_lst pa_nil))
      (pss_cons (ps_set (i := 2) sc__law_strange.nd rfl (Or.inl rfl) (pe_op op_add (pe_op op_sub (pe_call G__law_draw (hr.mono (by decide)) (by rfl) g__law_draw kp__law_draw b__law_draw .nil pass0 (pa_cons (pv 0) (pa_cons pe_int pa_nil))) pe_int) (pe_call G__law_draw (hr.mono (by decide)) (by rfl) g__law_draw kp__law_draw b__law_draw .nil pass0 (pa_cons (pv 0) (pa_cons pe_int pa_nil)))))
      (pss_cons (ps_for PassesOwn.never rfl (pi_range1 (by rfl) E.b_range (pa_cons (pe_call G__law_draw (hr.mono (by decide)) (by rfl) g__law_draw kp__law_draw b__law_draw .nil pass0 (pa_cons (pv 0) (pa_cons pe_int pa_nil))) pa_nil)) (pg_name (i := 3) sc__law_strange.nd rfl (Or.inl rfl)) (pss_cons (ps_set (i := 4) sc__law_strange.nd rfl (Or.inl rfl) (pe_op op_add (pv 2) (pe_call G__law_draw (hr.mono (by decide)) (by rfl) g__law_draw kp__law_draw b__law_draw .nil pass0 (pa_cons (pv 0) (pa_cons pe_int pa_nil)))))
      (pss_cons (ps_set (i := 5) sc__law_strange.nd rfl (Or.inl rfl) (pe_op op_sub (pe_op op_add (pv 4) (pe_call G__law_draw (hr.mono (by decide)) (by rfl) g__law_draw kp__law_draw b__law_draw .nil pass0 (pa_cons (pv 0) (pa_cons pe_int pa_nil)))) (pe_callTy call_int1 (by rfl) E.b_int (by decide +kernel) (pa_cons (pe_cmpR op_eq (pe_call G__law_draw (hr.mono (by decide)) (by rfl) g__law_draw kp__law_draw b__law_draw .nil pass0 (pa_cons (pv 0) (pa_cons pe_int pa_nil))) pe_int (nomark _)) pa_nil))))
      (pss_cons (ps_expr (pe_bm PySem.F.plainAttrs_list PySem.F.slot_list_append PySem.F.type_list_append mt_append (pv 1) (pa_cons (pe_tup (pa_cons (pv 4) (pa_cons (pv 5) pa_nil))) pa_nil)))
      (pss_one (ps_set (i := 2) sc__law_strange.nd rfl (Or.inl rfl) (pe_op op_sub (pe_op op_add (pv 5) pe_int) (pe_callTy call_int1 (by rfl) E.b_int (by decide +kernel) (pa_cons (pe_cmpR op_eq (pe_call G__law_draw (hr.mono (by decide)) (by rfl) g__law_draw kp__law_draw b__law_draw .nil pass0 (pa_cons (pv 0) (pa_cons pe_int pa_nil))) pe_int (nomark _)) pa_nil)))))))))
      (pss_cons (ps_set (i := 6) sc__law_strange.nd rfl (Or.inl rfl) (pe_call G__law_draw (hr.mono (by decide)) (by rfl) g__law_draw kp__law_draw b__law_draw .nil pass0 (pa_cons (pv 0) (pa_cons pe_int pa_nil))))
      (pss_cons (ps_if (pt_cmpR op_eq (pv 6) pe_int (nomark _)) (pss_one (ps_ret (pe_callTy call_list_of (by rfl) E.b_list (by decide +kernel) (pa_cons (pv 1) pa_nil)))) pss_nil)
      (pss_cons (ps_if (pt_cmpR op_eq (pv 6) pe_int (nomark _)) (pss_one (ps_ret (pe_op op_catA (pe_callTy call_tuple_of (by rfl) E.b_tuple (by decide +kernel) (pa_cons (pv 1) pa_nil)) (pe_tup (pa_cons (pe_lst (pa_cons pe_int (pa_cons pe_int pa_nil))) pa_nil))))) pss_nil)
      (pss_cons (ps_if (pt_cmpR op_eq (pv 6) pe_int (nomark _)) (pss_one (ps_ret (pe_op op_catA (pe_callTy call_tuple_of (by rfl) E.b_tuple (by decide +kernel) (pa_cons (pv 1) pa_nil)) (pe_tup (pa_cons (pe_tup (pa_cons pe_int (pa_cons pe_int (pa_cons pe_int pa_nil)))) pa_nil))))) pss_nil)
      (pss_cons (ps_if (pt_cmpR op_eq (pv 6) pe_int (nomark _)) (pss_one (ps_ret (pe_op op_catA (pe_callTy call_tuple_of (by rfl) E.b_tuple (by decide +kernel) (pa_cons (pv 1) pa_nil)) (pe_tup (pa_cons (pe_tup (pa_cons (pe_call G__law_value (hr.mono (by decide)) (by rfl) g__law_value kp__law_value b__law_value .nil pass0 (pa_cons (pv 0) pa_nil)) (pa_cons (pe_call G__law_value (hr.mono (by decide)) (by rfl) g__law_value kp__law_value b__law_value .nil pass0 (pa_cons (pv 0) pa_nil)) pa_nil))) pa_nil))))) pss_nil)
      (pss_cons (ps_if (pt_cmpR op_eq (pv 6) pe_int (nomark _)) (pss_one (ps_ret (pe_call G__law_value (hr.mono (by decide)) (by rfl) g__law_value kp__law_value b__law_value .nil pass0 (pa_cons (pv 0) pa_nil)))) pss_nil)
      (pss_one (ps_ret (pe_callTy call_tuple_of (by rfl) E.b_tuple (by decide +kernel) (pa_cons (pv 1) pa_nil))))))))))))), ?_⟩
    refine seq_asg ?_
    refine ⟨Nat.zero_le _, fun r nr => ?_⟩
    obtain ⟨os, hos⟩ := hS.at_s
    obtain ⟨ol, hol⟩ := hS.at_l
    have sr : s ≠ r := ne_of_none hos nr
    have lr : l ≠ r := ne_of_none hol nr
    refine gname (seq_asg ?_)
    refine ⟨_, rfl, s, l, 30, rfl, hS.put sr lr, by decide, Nat.lt_of_lt_of_le (by decide) n9, fun v1 H1 _ _ b1 S1 => ⟨_, _, rfl, rfl, ?_⟩⟩
    refine ⟨_, rfl, s, l, 3, rfl, S1, by decide, Nat.lt_of_lt_of_le (by decide) n9, fun v2 H2 _ _ b2 S2 => ⟨_, _, rfl, rfl, ?_⟩⟩
    refine gname (seq_any ?_)
    refine ⟨_, rfl, s, l, 5, rfl, S2, by decide, Nat.lt_of_lt_of_le (by decide) n9, fun n H3 n0 n1 b3 S3 => ?_⟩
    have b03 : But s H H3 := (((But.of (same_upd nr)).trans b1).trans b2).trans b3
    have e3 : H3 r = some (.lst []) := ((b1.trans b2).trans b3) _ _ sr.symm upd_same
    refine ⟨_, rfl, by omega, by omega, for_range (lo := 0) (n := n.toNat) (fun i σ H' => ∃ (at' : Int) (vk vl vh : Option V) (ys : List V) (P : List (Int × Int)), σ = [some (.ref s), some (.ref r), some (.int at'), vk, vl, vh, none] ∧ H' r = some (.lst ys) ∧ ImAll K (fun b => H b = Option.none ∧ b ≠ r) H' ys (P.map ivD) ∧ P.length ≤ i ∧ Stm H' s l ∧ But s H H')
      ⟨_, none, none, none, [], [], rfl, e3, .nil, Nat.le_refl 0, S3, b03⟩ ?_ ?_⟩
    · rintro i σ H4 hi ⟨at', vk, vl, vh, ys, P, rfl, h1, h2, h3, S4, b4⟩
      have hyl := h2.len
      rw [List.length_map] at hyl
      refine gname (seq_asg ?_)
      refine ⟨_, rfl, _, rfl, s, l, 5, rfl, S4, by decide, Nat.lt_of_lt_of_le (by decide) n9, fun w1 H5 _ _ b5 S5 => ⟨_, _, rfl, rfl, ?_⟩⟩
      refine gname (seq_asg ?_)
      refine ⟨_, rfl, _, rfl, s, l, 4, rfl, S5, by decide, Nat.lt_of_lt_of_le (by decide) n9, fun w2 H6 _ _ b6 S6 => ⟨_, _, rfl, rfl, ?_⟩⟩
      refine ⟨_, rfl, s, l, 9, rfl, S6, by decide, Nat.lt_of_lt_of_le (by decide) n9, fun w3 H7 _ _ b7 S7 => ⟨rfl, .inr ⟨_, rfl, _, _, rfl, rfl, ?_⟩⟩⟩
      refine gname (seq_any ?_)
      have bb := (b5.trans b6).trans b7
      have e7 := bb _ _ sr.symm h1
      refine ⟨_, rfl, .inl ⟨rfl, _, SqL.of e7⟩, _, rfl, _, rfl, (by show 2 ≤ sizeLine; decide), fun p np => ?_⟩
      have sp : ∀ o, Same H7 (upd H7 p o) := fun o => same_upd np
      refine ⟨_, _, _, rfl, rfl, sp _ _ _ e7, small1000 (by omega), ?_⟩
      refine nxp (asg1 ?_)
      have hfp := fr_of (b4.trans bb) S7 p np
      have rp : r ≠ p := ne_of_none e7 np
      have S8 := (S7.keep (sp (.tup [.int (at' + w1), .int (at' + w1 + w2 - (if decide (V.int w3 = V.int 0) = true then 1 else 0))]))).put (o := .lst (ys ++ [.ref p])) sr lr
      refine ⟨_, rfl, _, _, rfl, rfl, _, rfl, s, l, 9, rfl, S8, by decide, Nat.lt_of_lt_of_le (by decide) n9, fun w4 H9 _ _ b9 S9 => ⟨rfl, .inr ⟨_, rfl, _, _, rfl, rfl, ?_⟩⟩⟩
      have k9 : ∀ b o, (H b = Option.none ∧ b ≠ r) → H7 b = some o → H9 b = some o := fun b o g e => b9 b o (fun z => by rw [z, hos] at g; cases g.1) (by rw [upd_ne g.2]; exact sp _ b o e)
      refine gname ⟨_, _, _, _, ys ++ [.ref p], P ++ [(at' + w1, at' + w1 + w2 - (if decide (V.int w3 = V.int 0) = true then 1 else 0))], rfl, b9 _ _ sr.symm upd_same, ?_, by rw [List.length_append]; exact Nat.add_le_add_right h3 1, S9, fun b o hb e => b9 b o hb (by rw [upd_ne (ne_of_none e nr)]; exact sp _ b o (bb b o hb (b4 b o hb e)))⟩
      rw [List.map_append]
      refine ImAll.snoc (Im.monoAll (fun b o g e => k9 b o g (bb b o (fun z => by rw [z, hos] at g; cases g.1) e)) (fun _ g => g) _ _ h2) ?_
      refine .tup ⟨hfp, rp.symm⟩ (b9 _ _ (fun z => by rw [z, hos] at hfp; cases hfp) (by rw [upd_ne rp.symm]; exact upd_same)) (.cons (.int _) (.cons (.int _) .nil))
    · rintro σ H4 ⟨at', vk, vl, vh, ys, P, rfl, h1, h2, h3, S4, b4⟩
      have hP : P.length ≤ 10 := by omega
      have h2' : ImAll K (fun b => H b = Option.none) H4 ys (P.map ivD) := Im.monoAll (fun _ _ _ e => e) (fun _ g => g.1) _ _ h2
      have hlen : (P.map ivD).length ≤ 10 := by rw [List.length_map]; exact hP
      refine nxp (seq_asg ?_)
      refine ⟨_, rfl, s, l, 12, rfl, S4, by decide, Nat.lt_of_lt_of_le (by decide) n9, fun pick H5 _ _ b5 S5 => ?_⟩
      have b05 := b4.trans b5
      have e5 := b5 _ _ sr.symm h1
      have I5 : ImAll K (fun b => H b = Option.none) H5 ys (P.map ivD) := Im.monoAll (fun b o g e => b5 b o (fun z => by rw [z, hos] at g; cases g) e) (fun _ g => g) _ _ h2'
      clear h1 h2 h2' h3
      -- the rows as a tuple
      have tup : ∀ t, H5 t = Option.none → Im K (fun b => H b = Option.none) (upd H5 t (.tup ys)) (.ref t) (.tuple (P.map ivD)) := fun t nt => .tup (fr_of b05 S5 t nt) upd_same (Im.monoAll (fun b o _ e => same_upd nt b o e) (fun _ g => g) _ _ I5)
      refine gname (seq_ifN ?_)
      refine ⟨_, rfl, rfl, _, rfl, ite2 (fun _ => ?_) (fun _ => ?_)⟩
      · refine ⟨_, rfl, _, _, rfl, .inl (SqL.of e5), fun t nt => ?_⟩
        exact q _ (.list (P.map ivD)) _ (b05.trans (But.of (same_upd nt))) (S5.keep (same_upd nt)) (.lst (fr_of b05 S5 t nt) upd_same (Im.monoAll (fun b o _ e => same_upd nt b o e) (fun _ g => g) _ _ I5)) (fun ds h => nomatch h)
      refine seq_ifN ?_
      refine ⟨_, rfl, rfl, _, rfl, ite2 (fun _ => ?_) (fun _ => ?_)⟩
      · refine ⟨_, rfl, _, _, rfl, .inl ⟨SqL.of e5, fun t nt => ?_⟩⟩
        have s1 := same_upd (o := .tup ys) nt
        have i1 := tup t nt
        have b06 := b05.trans (But.of s1)
        have S6 := S5.keep s1
        clear nt
        generalize upd H5 t (.tup ys) = H6 at s1 i1 b06 S6
        refine lit_tup (K := K) (ds := [.list [.int 1, .int 2]]) ?_ (by decide) H6 _ fun v7 H7 t7 i7 => ?_
        · walk_at "lits"
        have b07 := b06.trans (But.of t7)
        have S7 := S6.keep t7
        refine frs_cat b07 S7 (frs_keep hS (But.of t7) i1) (frs_of b06 S6 i7) (by rw [List.length_singleton]; omega) fun v8 H8 s8 i8 => ?_
        exact q _ _ _ (b07.trans (But.of s8)) (S7.keep s8) i8 (fun ds h => by cases h; rw [List.length_append, List.length_singleton]; omega)
      refine seq_ifN ?_
      refine ⟨_, rfl, rfl, _, rfl, ite2 (fun _ => ?_) (fun _ => ?_)⟩
      · refine ⟨_, rfl, _, _, rfl, .inl ⟨SqL.of e5, fun t nt => ?_⟩⟩
        have s1 := same_upd (o := .tup ys) nt
        have i1 := tup t nt
        have b06 := b05.trans (But.of s1)
        have S6 := S5.keep s1
        clear nt
        generalize upd H5 t (.tup ys) = H6 at s1 i1 b06 S6
        refine lit_tup (K := K) (ds := [.tuple [.int 49, .int 50, .int 50]]) ?_ (by decide) H6 _ fun v7 H7 t7 i7 => ?_
        · walk_at "lits"
        have b07 := b06.trans (But.of t7)
        have S7 := S6.keep t7
        refine frs_cat b07 S7 (frs_keep hS (But.of t7) i1) (frs_of b06 S6 i7) (by rw [List.length_singleton]; omega) fun v8 H8 s8 i8 => ?_
        exact q _ _ _ (b07.trans (But.of s8)) (S7.keep s8) i8 (fun ds h => by cases h; rw [List.length_append, List.length_singleton]; omega)
      refine seq_ifN ?_
      refine ⟨_, rfl, rfl, _, rfl, ite2 (fun _ => ?_) (fun _ => ?_)⟩
      · refine ⟨_, rfl, _, _, rfl, .inl ⟨SqL.of e5, fun t nt => ?_⟩⟩
        have s1 := same_upd (o := .tup ys) nt
        have i1 := tup t nt
        have b06 := b05.trans (But.of s1)
        have S6 := S5.keep s1
        clear nt
        generalize upd H5 t (.tup ys) = H6 at s1 i1 b06 S6
        refine ⟨_, rfl, s, l, rfl, S6, fun x1 d1 H7 b7 S7 j1 _ => ⟨_, rfl, s, l, rfl, S7, fun x2 d2 H8 b8 S8 j2 _ => ?_⟩⟩
        have b08 := (b06.trans b7).trans b8
        have j1' : Im K (fun b => H b = Option.none) H8 x1 d1 := frs_keep hS b8 (frs_of b06 S6 j1)
        have j2' : Im K (fun b => H b = Option.none) H8 x2 d2 := frs_of (b06.trans b7) S7 j2
        refine ⟨(by show 2 ≤ sizeLine; decide), fun p np => ⟨(by show 1 ≤ sizeLine; decide), fun p2 np2 => ?_⟩⟩
        have sp := same_upd (o := .tup [x1, x2]) np
        have sp2 := same_upd (o := .tup [.ref p]) np2
        have b010 := b08.trans (But.of (sp.trans sp2))
        have S10 := S8.keep (sp.trans sp2)
        have ip : Im K (fun b => H b = Option.none) (upd (upd H8 p (.tup [x1, x2])) p2 (.tup [.ref p])) (.ref p2) (.tuple [.tuple [d1, d2]]) := .tup (fr_of (b08.trans (But.of sp)) (S8.keep sp) _ np2) upd_same (.cons (.tup (fr_of b08 S8 _ np) (sp2 _ _ upd_same) (.cons (frs_keep hS (But.of (sp.trans sp2)) j1') (.cons (frs_keep hS (But.of (sp.trans sp2)) j2') .nil))) .nil)
        refine frs_cat b010 S10 (frs_keep hS ((b7.trans b8).trans (But.of (sp.trans sp2))) i1) ip (by rw [List.length_singleton]; omega) fun v9 H9 s9 i9 => ?_
        exact q _ _ _ (b010.trans (But.of s9)) (S10.keep s9) i9 (fun ds h => by cases h; rw [List.length_append, List.length_singleton]; omega)
      refine seq_ifN ?_
      refine ⟨_, rfl, rfl, _, rfl, ite2 (fun _ => ?_) (fun _ => ?_)⟩
      · refine ⟨_, rfl, s, l, rfl, S5, fun x1 d1 H7 b7 S7 j1 hd => ?_⟩
        exact q _ d1 _ (b05.trans b7) S7 (frs_of b05 S5 j1) hd
      · refine ⟨_, rfl, _, _, rfl, .inl ⟨SqL.of e5, fun t nt => ?_⟩⟩
        exact q _ _ _ (b05.trans (But.of (same_upd nt))) (S5.keep (same_upd nt)) (tup t nt) (fun ds h => by cases h; omega)

theorem ok__law_is_domain {f : Addr} {fd : FuncData} (F : Fun K "_law_is_domain" "_law_is_domain" s__law_is_domain f fd) (E : Bi K mg) (D__law_is_end : Has P w K mg base 2 "_law_is_end" ["value"] (sp__law_is_end K)) : FnOk P w K mg base CX0 3 f fd ["value"] (sp__law_is_domain K) := by
  obtain ⟨f__law_is_end, fd__law_is_end, G__law_is_end, g__law_is_end, kp__law_is_end, b__law_is_end⟩ := D__law_is_end
  refine F.ok sc__law_is_domain (fun vs H Q E h => ?_) (fun cdv A outer s H vs Q E' hr h => ?_)
  · obtain ⟨x, d, rfl, _⟩ := h
    rfl
  · obtain ⟨x, d, rfl, hd, q⟩ := h
    refine ⟨_, (pss_cons (ps_if (pt_not (pt_val (pe_callB call_isi (by rfl) E.b_isinstance (by decide +kernel) (pa_cons (pv 0) (pa_cons (pe_ty "tuple" (by rfl) E.b_tuple (by decide +kernel)) pa_nil))))) (pss_one (ps_ret pe_bl)) pss_nil)
      (pss_cons (ps_set (i := 1) sc__law_is_domain.nd rfl (Or.inl rfl) (pe_un un_neg pe_int))
      (pss_cons (ps_for PassesOwn.never rfl (pi_tup (pv 0)) (pg_name (i := 2) sc__law_is_domain.nd rfl (Or.inl rfl)) (pss_cons (ps_if (pw_or (pt_not (pt_val (pe_callB call_isi (by rfl) E.b_isinstance (by decide +kernel) (pa_cons (pv 2) (pa_cons (pe_ty "tuple" (by rfl) E.b_tuple (by decide +kernel)) pa_nil))))) (pw_or (pt_cmpR op_ne (pe_callB call_len_seq (by rfl) E.b_len PySem.boot_len (pa_cons (pv 2) pa_nil)) pe_int (nomark _)) (pw_or (pt_not (pt_val (pe_call G__law_is_end (hr.mono (by decide)) (by rfl) g__law_is_end kp__law_is_end b__law_is_end .nil pass0 (pa_cons (pe_ix ix_tup (pv 2) pe_int (fun _ _ => rfl)) pa_nil)))) (pw_or1 (pt_not (pt_val (pe_call G__law_is_end (hr.mono (by decide)) (by rfl) g__law_is_end kp__law_is_end b__law_is_end .nil pass0 (pa_cons (pe_ix ix_tup (pv 2) pe_int (fun _ _ => rfl)) pa_nil)))))))).pt (pss_one (ps_ret pe_bl)) pss_nil)
      (pss_cons (ps_if (pw_or (pt_cmpR op_gt (pe_ix ix_tup (pv 2) pe_int (fun _ _ => rfl)) (pe_ix ix_tup (pv 2) pe_int (fun _ _ => rfl)) (nomark _)) (pw_or1 (pt_cmpR op_le (pe_ix ix_tup (pv 2) pe_int (fun _ _ => rfl)) (pe_op op_add (pv 1) pe_int) (nomark _)))).pt (pss_one (ps_ret pe_bl)) pss_nil)
      (pss_one (ps_set (i := 1) sc__law_is_domain.nd rfl (Or.inl rfl) (pe_ix ix_tup (pv 2) pe_int (fun _ _ => rfl)))))))
      (pss_one (ps_ret pe_bl))))), ?_⟩
    refine seq_ifN ?_
    refine ⟨_, rfl, _, _, _, _, _, rfl, .ty _, tyx_of hd, kit_ty (kitT _), _, rfl, ite2 (fun e => ?_) (fun e => ?_)⟩
    · have e2 : domB d = false := by cases d <;> first | rfl | cases e
      rw [e2] at q
      exact q
    · obtain ⟨ds, rfl⟩ : ∃ ds, d = .tuple ds := by cases d <;> first | exact ⟨_, rfl⟩ | exact absurd rfl e
      cases id hd with
      | @tup a xs _ hs ha =>
      have hxl := DpAll.len ha
      refine seq_asg ?_
      refine ⟨_, rfl, gname (seq_any ?_)⟩
      refine ⟨_, rfl, a, rfl, ⟨_, hs⟩, for_tup (K := K) (a := a) (xs := xs) (fun i σ H' => ∃ (vp : Option V) (last : Int), σ = [some (.ref a), some (.int last), vp] ∧ H' = H ∧ domB (.tuple ds) = ((ds.drop i).all ivB && gapsB last (ds.drop i)))
        ⟨none, -52, rfl, rfl, rfl⟩ (fun i σ H' _ ⟨_, _, _, e, _⟩ => by rw [e]; exact hs) ?_ ?_⟩
      · rintro i y σ H1 hi ⟨vp, last, rfl, rfl, hinv⟩
        obtain ⟨d, hdi, dy⟩ := DpAll.getV ha hi
        obtain ⟨kd, gd⟩ := List.getElem?_eq_some_iff.mp hdi
        rw [show ds.drop i = d :: ds.drop (i + 1) by rw [List.drop_eq_getElem_cons kd, gd], List.all_cons] at hinv
        have bad : ivB d = false → Q (.bl false) H1 := fun h => by
          rw [hinv, h, Bool.false_and, Bool.false_and] at q
          exact q
        refine gname (seq_ifN ?_)
        refine ⟨_, rfl, _, _, _, _, _, rfl, .ty _, tyx_of dy, kit_ty (kitT _), _, rfl, ite2 (fun e => ?_) (fun e => ?_)⟩
        · exact iteT (bad (by cases d <;> first | rfl | cases e))
        · obtain ⟨es, rfl⟩ : ∃ es, d = .tuple es := by cases d <;> first | exact ⟨_, rfl⟩ | exact absurd rfl e
          cases id dy with
          | @tup c zs _ hz az =>
          have hzl := DpAll.len az
          refine ⟨_, rfl, _, _, rfl, .inr hz, rfl, _, rfl, ?_⟩
          rcases es with _ | ⟨d0, _ | ⟨d1, _ | ⟨d2, dr⟩⟩⟩
          · cases az
            exact iteT (iteT (bad rfl))
          · cases az with
            | cons _ az =>
            cases az
            exact iteT (iteT (bad (by cases d0 <;> rfl)))
          · cases az with
            | @cons v0 _ _ _ h0 az =>
            cases az with
            | @cons v1 _ _ _ h1 az =>
            cases az
            have iv : ivB (.tuple [d0, d1]) = (endB d0 && endB d1 && (match d0, d1 with | .int a, .int b => decide (a ≤ b) | _, _ => true)) := by
              cases d0 <;> cases d1 <;> first | rfl | (simp [ivB, endB])
            refine iteF ?_
            refine ⟨_, rfl, _, _, _, _, rfl, rfl, hz, atI_nat (j := 0) rfl, v0, d0, rfl, h0, _, rfl, ?_⟩
            cases e0 : endB d0 with
            | false => exact iteT (iteT (bad (by rw [iv, e0]; rfl)))
            | true =>
              refine iteF ?_
              refine ⟨_, rfl, _, _, _, _, rfl, rfl, hz, atI_nat (j := 1) rfl, v1, d1, rfl, h1, _, rfl, ?_⟩
              cases e1 : endB d1 with
              | false => exact iteT (bad (by rw [iv, e0, e1]; rfl))
              | true =>
                obtain ⟨m, rfl⟩ : ∃ m, d0 = .int m := by cases d0 <;> first | exact ⟨_, rfl⟩ | cases e0
                obtain ⟨n, rfl⟩ : ∃ n, d1 = .int n := by cases d1 <;> first | exact ⟨_, rfl⟩ | cases e1
                cases h0
                cases h1
                refine iteF (seq_ifN ?_)
                refine ⟨_, rfl, _, _, _, _, rfl, rfl, hz, atI_nat (j := 0) rfl, _, rfl, _, _, _, _, rfl, rfl, hz, atI_nat (j := 1) rfl, _, _, rfl, rfl, _, rfl, ite2 (fun g => ?_) (fun g => ?_)⟩
                · have := of_decide_eq_true g
                  refine iteT (bad ?_)
                  rw [iv, e0, e1]
                  exact decide_eq_false (by omega)
                · have hmn : m ≤ n := by
                    have : ¬ n < m := fun z => g (decide_eq_true z)
                    omega
                  refine ⟨_, rfl, _, _, _, _, rfl, rfl, hz, atI_nat (j := 0) rfl, _, rfl, _, _, rfl, rfl, _, _, rfl, rfl, _, rfl, ite2 (fun g2 => ?_) (fun g2 => ?_)⟩
                  · have hml := of_decide_eq_true g2
                    rw [hinv] at q
                    have : gapsB last (.tuple [.int m, .int n] :: ds.drop (i + 1)) = false := by
                      show (decide (last + 1 < m) && _) = false
                      rw [decide_eq_false (by omega), Bool.false_and]
                    rw [this, Bool.and_false] at q
                    exact q
                  · have hml : last + 1 < m := by
                      have : ¬ m ≤ last + 1 := fun z => g2 (decide_eq_true z)
                      omega
                    refine asg1 ?_
                    refine ⟨_, rfl, _, _, _, _, rfl, rfl, hz, atI_nat (j := 1) rfl, ?_⟩
                    refine gname ⟨_, n, rfl, rfl, ?_⟩
                    rw [hinv, iv, e0, e1]
                    show ((true && true && decide (m ≤ n)) && _ && (decide (last + 1 < m) && gapsB n _)) = _
                    rw [decide_eq_true hmn, decide_eq_true hml]
                    simp
          · have e3 : ivB (.tuple (d0 :: d1 :: d2 :: dr)) = false := by cases d0 <;> cases d1 <;> rfl
            rw [List.length_cons, List.length_cons, List.length_cons] at hzl
            rw [decide_eq_false (fun z => by have := V.int.inj z; omega)]
            exact iteT (iteT (bad e3))
      · rintro σ H1 ⟨vp, last, rfl, rfl, hinv⟩
        rw [hxl, List.drop_length] at hinv
        rw [hinv] at q
        exact nxp q

theorem ok_meet {f : Addr} {fd : FuncData} (F : Fun K "meet" "meet" s_meet f fd) (E : Bi K mg) (D_values : Has P w K mg base 1 "values" ["given"] (sp_values K)) (D_domain : HasX P w K mg base 3 "domain" ["values"] (sp_domain K)) : FnOk P w K mg base CX0 4 f fd ["first", "second"] (sp_meet K) := by
  obtain ⟨f_values, fd_values, G_values, g_values, kp_values, b_values⟩ := D_values
  obtain ⟨f_domain, fd_domain, G_domain, g_domain, kp_domain, b_domain⟩ := D_domain
  refine F.ok sc_meet (fun vs H Q E h => ?_) (fun cdv A outer s H vs Q E' hr h => ?_)
  · obtain ⟨x, y, D, D2, ns, ms, rfl, _⟩ := h
    rfl
  · obtain ⟨x, y, D, D2, ns, ms, rfl, hx, hy, hD, hD2, hn, hm, q⟩ := h
    refine ⟨_, (pss_cons (ps_set (i := 2) sc_meet.nd rfl (Or.inr rfl) (pe_dc (own := [("value", 3)]) (g := gName 3) (tt := tYes) rfl sc_meet.nd (pi_list (pe_call G_values (hr.mono (by decide)) (by rfl) g_values kp_values b_values .nil pass0 (pa_cons (pv 1) pa_nil))) (blkOk_by (N := N_meet) (sc := defScope s_meet) (by decide +kernel)) (fun _ _ _ _ _ => pg_name (i := 3) sc_meet.nd rfl (Or.inl rfl)) (fun _ _ _ _ _ => pts_nil) (fun _ _ _ _ _ => (pv 3)) (fun _ _ _ _ _ => pe_bl)))
      (pss_one (ps_ret (pe_call G_domain (hr.mono (by decide)) (by rfl) g_domain kp_domain b_domain .nil passL (pa_cons (pe_lc (own := [("value", 3)]) (g := gName 3) rfl sc_meet.nd (pi_list (pe_call G_values (hr.mono (by decide)) (by rfl) g_values kp_values b_values .nil pass0 (pa_cons (pv 0) pa_nil))) (blkOk_by (N := N_meet) (sc := defScope s_meet) (by decide +kernel)) (fun _ _ _ _ _ => pg_name (i := 3) sc_meet.nd rfl (Or.inl rfl)) (fun _ _ _ _ _ => pts_one (pt_cmp (pc_din (hu_of hr) (pv 3) (pv 2)))) (fun _ _ _ _ _ => (pv 3))) pa_nil))))), ?_⟩
    refine seq_asg ?_
    refine ⟨_, rfl, y, D2, rfl, hy, vals_len hD2 hm, hD2.1, dom_bounds hD2 hm, fun r H1 s1 nr hr => ?_⟩
    refine ⟨r, rfl, ⟨_, SqL.of hr⟩, fun C hC => ?_⟩
    have hrC : r ≠ C := ne_of_none hr hC
    have hvl2 := vals_len hD2 hm
    have hvl := vals_len hD hn
    refine dc_it (n := ((valsM D2).map V.int).length) walk_list (fun i H' => ∃ kvs : List (Key × V), Same H1 H' ∧ H' C = some (.dK kvs) ∧ kvs.length ≤ i ∧ ∀ v : Int, (valV kvs (Sum.inl v)).isSome = true ↔ v ∈ (valsM D2).take i)
      ⟨[], same_upd hC, upd_same, Nat.le_refl 0, fun v => ⟨(fun h => nomatch h), (fun h => nomatch h)⟩⟩ (fun i H' _ ⟨_, e, _⟩ => SqL.of (e _ _ hr)) ?_ ?_
    · rintro i z H2 H3 hi ⟨kvs, s2, h2, l2, m2⟩ ⟨rfl, hz⟩
      rw [List.getElem?_map] at hz
      obtain ⟨v, hv, rfl⟩ : ∃ v, (valsM D2)[i]? = some v ∧ V.int v = z := by
        cases hv : (valsM D2)[i]? with
        | none => rw [hv] at hz; cases hz
        | some v => rw [hv] at hz; exact ⟨v, rfl, Option.some.inj hz⟩
      rw [List.length_map] at hi
      have htk : (valsM D2).take (i + 1) = (valsM D2).take i ++ [v] := by rw [List.take_add_one, hv]; rfl
      refine ⟨rfl, _, rfl, kvs, Sum.inl v, rfl, h2, small1000 (by omega), putK kvs (Sum.inl v) (.bl true), (fun b o e => by rw [upd_ne (ne_of_none e hC)]; exact s2 _ _ e), upd_same, ?_, fun w => ?_⟩
      · unfold putK
        split
        · rw [List.length_map]; omega
        · rw [List.length_append]; exact Nat.add_le_add_right l2 1
      · rw [htk, List.mem_append, ← m2 w, List.mem_singleton]
        by_cases e : w = v
        · subst e
          rw [valV_put, if_pos rfl]
          exact ⟨fun _ => .inr rfl, fun _ => rfl⟩
        · rw [valV_put, if_neg (fun z => e (Sum.inl.inj z))]
          exact ⟨fun h => .inl h, fun h => h.resolve_right e⟩
    · rintro H2 ⟨kvs, s2, h2, l2, m2⟩
      rw [List.length_map, List.take_length] at m2
      refine gname ?_
      have s12 := s1.trans s2
      refine ⟨_, rfl, x, D, rfl, dp_same s12 _ _ hx, hvl, hD.1, dom_bounds hD hn, fun r2 H3 s3 nr2 hr2 => ?_⟩
      have h3 := s3 _ _ h2
      refine ⟨r2, rfl, ⟨_, SqL.of hr2⟩, fun R hR => ?_⟩
      have hrR : r2 ≠ R := ne_of_none hr2 hR
      have hCR : C ≠ R := ne_of_none h3 hR
      refine lc_list (K := K) (a := r2) (xs := (valsM D).map V.int) (fun i H' => H' = upd H3 R (.lst ((((valsM D).take i).filter fun v => (valV kvs (Sum.inl v)).isSome).map V.int))) rfl (fun i H' _ e => by rw [e]; exact SqL.of (by rw [upd_ne hrR]; exact hr2)) ?_ ?_
      · rintro i y H4 hi rfl
        rw [List.getElem?_map] at hi
        obtain ⟨v, hv, rfl⟩ : ∃ v, (valsM D)[i]? = some v ∧ V.int v = y := by
          cases hv : (valsM D)[i]? with
          | none => rw [hv] at hi; cases hi
          | some v => rw [hv] at hi; exact ⟨v, rfl, Option.some.inj hi⟩
        have hil := (List.getElem?_eq_some_iff.mp hv).1
        have htk : (valsM D).take (i + 1) = (valsM D).take i ++ [v] := by rw [List.take_add_one, hv]; rfl
        refine ⟨rfl, ?_⟩
        refine ⟨_, rfl, _, rfl, C, _, rfl, DGet.k (k := Sum.inl v) (show (upd H3 R (.lst ((((valsM D).take i).filter fun v => (valV kvs (Sum.inl v)).isSome).map V.int))) C = some (.dK kvs) by rw [upd_ne hCR]; exact h3), _, rfl, ?_⟩
        cases e : (valV kvs (Sum.inl v)).isSome with
        | false =>
          refine iteF ?_
          rw [htk, List.filter_append]
          simp [e]
        | true =>
          refine iteT ⟨_, rfl, _, upd_same, small1000 (by rw [List.length_map]; exact Nat.le_trans (List.length_filter_le _ _) (by rw [List.length_take]; omega)), ?_⟩
          rw [upd_upd, htk, List.filter_append, List.map_append]
          simp [e]
      · rintro H4 rfl
        rw [List.length_map, List.take_length]
        have sR := same_upd (o := .lst (((valsM D).filter fun v => (valV kvs (Sum.inl v)).isSome).map V.int)) hR
        have hmm : ∀ v, v ∈ (valsM D).filter (fun v => (valV kvs (Sum.inl v)).isSome) ↔ v ∈ ns ∧ v ∈ ms := fun v => by
          rw [List.mem_filter, mem_valsM, hD.2 v, m2 v, mem_valsM, hD2.2 v]
        refine ⟨R, _, rfl, SqL.of upd_same, Nat.le_trans (List.length_filter_le _ _) (by omega), fun _ v D3 H5 s5 hD3 d5 => q v D3 _ H5 (((s12.trans s3).trans sR).trans s5) hD3 hmm d5, fun hno => absurd (fun v hv => hn v ((hmm v).mp hv).1) hno⟩

theorem ok_without {f : Addr} {fd : FuncData} (F : Fun K "without" "without" s_without f fd) (E : Bi K mg) (D_domain : HasX P w K mg base 3 "domain" ["values"] (sp_domain K)) (D_values : Has P w K mg base 1 "values" ["given"] (sp_values K)) : FnOk P w K mg base CX0 4 f fd ["given", "value"] (sp_without K) := by
  obtain ⟨f_domain, fd_domain, G_domain, g_domain, kp_domain, b_domain⟩ := D_domain
  obtain ⟨f_values, fd_values, G_values, g_values, kp_values, b_values⟩ := D_values
  refine F.ok sc_without (fun vs H Q E h => ?_) (fun cdv A outer s H vs Q E' hr h => ?_)
  · obtain ⟨x, D, ns, n, rfl, _⟩ := h
    rfl
  · obtain ⟨x, D, ns, n, rfl, hx, hD, hn, q⟩ := h
    refine ⟨_, (pss_one (ps_ret (pe_call G_domain (hr.mono (by decide)) (by rfl) g_domain kp_domain b_domain .nil passL (pa_cons (pe_lc (own := [("other", 2)]) (g := gName 2) rfl sc_without.nd (pi_list (pe_call G_values (hr.mono (by decide)) (by rfl) g_values kp_values b_values .nil pass0 (pa_cons (pv 0) pa_nil))) (blkOk_by (N := N_without) (sc := defScope s_without) (by decide +kernel)) (fun _ _ _ _ _ => pg_name (i := 2) sc_without.nd rfl (Or.inl rfl)) (fun _ _ _ _ _ => pts_one (pt_cmpR op_ne (pv 2) (pv 1) (nomark _))) (fun _ _ _ _ _ => (pv 2))) pa_nil)))), ?_⟩
    have hvl := vals_len hD hn
    refine ⟨_, rfl, x, D, rfl, hx, hvl, hD.1, dom_bounds hD hn, fun r H1 s1 nr hr => ?_⟩
    refine ⟨r, rfl, ⟨_, SqL.of hr⟩, fun R hR => ?_⟩
    have hrR : r ≠ R := ne_of_none hr hR
    refine lc_list (K := K) (a := r) (xs := (valsM D).map V.int) (fun i H' => H' = upd H1 R (.lst ((((valsM D).take i).filter fun v => !decide (v = n)).map V.int))) rfl (fun i H' _ e => by rw [e]; exact SqL.of (by rw [upd_ne hrR]; exact hr)) ?_ ?_
    · rintro i y H2 hi rfl
      rw [List.getElem?_map] at hi
      obtain ⟨v, hv, rfl⟩ : ∃ v, (valsM D)[i]? = some v ∧ V.int v = y := by
        cases hv : (valsM D)[i]? with
        | none => rw [hv] at hi; cases hi
        | some v => rw [hv] at hi; exact ⟨v, rfl, Option.some.inj hi⟩
      have hil := (List.getElem?_eq_some_iff.mp hv).1
      have htk : (valsM D).take (i + 1) = (valsM D).take i ++ [v] := by rw [List.take_add_one, hv]; rfl
      refine ⟨rfl, ?_⟩
      refine ⟨_, rfl, _, rfl, rfl, _, rfl, ?_⟩
      by_cases e : v = n
      · rw [decide_eq_true (congrArg V.int e)]
        refine iteF ?_
        rw [htk, List.filter_append]
        simp [e]
      · rw [decide_eq_false (fun z => e (V.int.inj z))]
        refine iteT ⟨_, rfl, _, upd_same, small1000 (by rw [List.length_map]; exact Nat.le_trans (List.length_filter_le _ _) (by rw [List.length_take]; omega)), ?_⟩
        rw [upd_upd, htk, List.filter_append, List.map_append]
        simp [e]
    · rintro H2 rfl
      rw [List.length_map, List.take_length]
      have sR := same_upd (o := .lst (((valsM D).filter fun v => !decide (v = n)).map V.int)) hR
      have hm : ∀ v, v ∈ (valsM D).filter (fun v => !decide (v = n)) ↔ v ∈ ns ∧ v ≠ n := fun v => by
        rw [List.mem_filter, mem_valsM, hD.2 v]
        simp
      refine ⟨R, _, rfl, SqL.of upd_same, Nat.le_trans (List.length_filter_le _ _) (by omega), fun _ v D2 H3 s3 hD2 d3 => q v D2 _ H3 ((s1.trans sR).trans s3) hD2 hm d3, fun hno => absurd (fun v hv => hn v ((hm v).mp hv).1) hno⟩

theorem ok_is_domain {f : Addr} {fd : FuncData} (F : Fun K "is_domain" "is_domain" s_is_domain f fd) (E : Bi K mg) (D_is_interval : Has P w K mg base 3 "is_interval" ["value"] (sp_is_interval K)) : FnOk P w K mg base CX0 4 f fd ["value"] (sp_is_domain K) := by
  obtain ⟨f_is_interval, fd_is_interval, G_is_interval, g_is_interval, kp_is_interval, b_is_interval⟩ := D_is_interval
  refine F.ok sc_is_domain (fun vs H Q E h => ?_) (fun cdv A outer s H vs Q E' hr h => ?_)
  · obtain ⟨x, d, rfl, _⟩ := h
    rfl
  · obtain ⟨x, d, rfl, hd, hl, q⟩ := h
    refine ⟨_, (pss_cons (ps_if (pw_or (pt_not (pt_val (pe_callB call_isi (by rfl) E.b_isinstance (by decide +kernel) (pa_cons (pv 0) (pa_cons (pe_ty "tuple" (by rfl) E.b_tuple (by decide +kernel)) pa_nil))))) (pw_or1 (pt_not (pt_val (pe_callB (cr_all rfl) (by rfl) E.b_all (by decide +kernel) (pa_cons (pe_lc (own := [("pair", 1)]) (g := gName 1) (tt := tYes) rfl sc_is_domain.nd (pi_tup (pv 0)) (blkOk_by (N := N_is_domain) (sc := defScope s_is_domain) (by decide +kernel)) (fun _ _ _ _ _ => pg_name (i := 1) sc_is_domain.nd rfl (Or.inl rfl)) (fun _ _ _ _ _ => pts_nil) (fun _ _ _ _ _ => (pe_call G_is_interval (hr.mono (by decide)) (by rfl) g_is_interval kp_is_interval b_is_interval .nil pass0 (pa_cons (pv 1) pa_nil)))) pa_nil)))))).pt (pss_one (ps_ret pe_bl)) pss_nil)
      (pss_one (ps_ret (pe_callB (cr_all rfl) (by rfl) E.b_all (by decide +kernel) (pa_cons (pe_lc (own := [("before", 2), ("behind", 3)]) (g := gTup K 2 (gCons (gName 2) (gCons (gName 3) gNil))) (tt := tYes) rfl sc_is_domain.nd (RZ.pi_zipA (by rfl) E.b_zip (pa_cons (pv 0) (pa_cons (pe_slice sl_tupA (pv 0) (po_some pe_int) po_none) pa_nil))) (blkOk_by (N := N_is_domain) (sc := defScope s_is_domain) (by decide +kernel)) (fun _ _ _ _ _ => pg_tup rfl (pgs_cons (pg_name (i := 2) sc_is_domain.nd rfl (Or.inl rfl)) (pgs_cons (pg_name (i := 3) sc_is_domain.nd rfl (Or.inl rfl)) pgs_nil))) (fun _ _ _ _ _ => pts_nil) (fun _ _ _ _ _ => (pe_cmpR op_lt (pe_op op_add (pe_ix (show IxR _ (rIxT K) from ix_tup) (pv 2) pe_int (fun _ _ => rfl)) pe_int) (pe_ix (show IxR _ (rIxT K) from ix_tup) (pv 3) pe_int (fun _ _ => rfl)) (nomark _)))) pa_nil))))), ?_⟩
    refine seq_ifN ?_
    refine ⟨_, rfl, _, _, _, _, _, rfl, .ty _, tyx_of hd, kit_ty (kitT _), _, rfl, ite2 (fun e => ?_) (fun e => ?_)⟩
    · have e2 : domB d = false := by cases d <;> first | rfl | cases e
      rw [e2] at q
      exact iteT (q _ (Same.refl H))
    · obtain ⟨ds, rfl⟩ : ∃ ds, d = .tuple ds := by cases d <;> first | exact ⟨_, rfl⟩ | exact absurd rfl e
      have hl := hl ds rfl
      cases id hd with
      | @tup a xs _ hs ha =>
      have hxl := DpAll.len ha
      refine ⟨_, rfl, a, rfl, ⟨_, hs⟩, fun D hD => ?_⟩
      have sD : ∀ o, Same H (upd H D o) := fun o => same_upd hD
      refine lc_tup (K := K) (a := a) (xs := xs) (fun i H' => H' = upd H D (.lst ((ds.take i).map fun d => V.bl (ivB d)))) rfl (fun i H' _ e => by rw [e]; exact same_sqT (sD _) hs) ?_ ?_
      · rintro i y H1 hi rfl
        obtain ⟨d, hdi, dy⟩ := DpAll.getV ha hi
        have hil := (List.getElem?_eq_some_iff.mp hdi).1
        refine ⟨rfl, _, rfl, y, d, rfl, dp_same (sD _) _ _ dy, _, upd_same, small1000 (by rw [List.length_map, List.length_take]; omega), ?_⟩
        rw [upd_upd, List.take_add_one, hdi, List.map_append]
        rfl
      · rintro H1 rfl
        refine ⟨D, ds.map ivB, rfl, SqL.of (by rw [upd_same, hxl, List.take_length, List.map_map]; rfl), ?_⟩
        refine ⟨_, rfl, ?_⟩
        have sX := sD (.lst ((ds.take xs.length).map fun d => V.bl (ivB d)))
        generalize upd H D (.lst ((ds.take xs.length).map fun d => V.bl (ivB d))) = HX at sX
        have eall : (ds.map ivB).all id = ds.all ivB := by rw [List.all_map]; rfl
        rw [eall]
        have ed : domB (.tuple ds) = (ds.all ivB && gapsB (-52) ds) := rfl
        cases hall : ds.all ivB with
        | false =>
          rw [ed, hall, Bool.false_and] at q
          exact iteT (q _ sX)
        | true =>
          rw [ed, hall, Bool.true_and, gaps_nb ds hall, ← gapL_all] at q
          refine iteF ?_
          refine ⟨_, rfl, _, rfl, _, rfl, nopart_of ?_⟩
          refine sl_from1 (same_sqT sX hs) fun b H2 s2 hb => ?_
          have s02 := sX.trans s2
          have hs2 := same_sqT s02 hs
          refine ⟨a, b, xs, xs.drop 1, rfl, .inr ⟨hs2, hb, fun D2 hD2 => ?_⟩⟩
          have sD2 := same_upd (o := .lst []) hD2
          refine lc_it (walk_zipT (n := min xs.length (xs.drop 1).length) rfl) (fun i H' => Same H2 H' ∧ H' D2 = some (.lst (((gapL ds).take i).map V.bl))) ⟨sD2, upd_same⟩ (fun i H' _ h => ⟨same_sqT h.1 hs2, same_sqT h.1 hb⟩) ?_ ?_
          · rintro i T0 H3 H4 hi ⟨s3, h3⟩ ⟨T, x, y, rfl, hT, rfl, k1, k2⟩
            have k2 : (xs.drop 1)[i]? = some y := k2
            rw [List.getElem?_drop, Nat.add_comm] at k2
            obtain ⟨d1, hd1, dx⟩ := DpAll.getV ha k1
            obtain ⟨d2, hd2, dy⟩ := DpAll.getV ha k2
            have i1 := List.all_eq_true.mp hall d1 (List.mem_of_getElem? hd1)
            have i2 := List.all_eq_true.mp hall d2 (List.mem_of_getElem? hd2)
            have hg := gapL_at hd1 hd2
            obtain ⟨a1, b1, rfl, _⟩ := iv_form i1
            obtain ⟨a2, b2, rfl, _⟩ := iv_form i2
            have sT := same_upd (o := .tup [x, y]) hT
            have s04 := s02.trans (s3.trans sT)
            have dx := dp_same s04 _ _ dx
            have dy := dp_same s04 _ _ dy
            cases id dx with
            | @tup c1 zs1 _ hz1 az1 =>
            cases id dy with
            | @tup c2 zs2 _ hz2 az2 =>
            obtain ⟨w1, hw1, dw1⟩ := DpAll.get (i := 1) az1 rfl
            obtain ⟨w0, hw0, dw0⟩ := DpAll.get (i := 0) az2 rfl
            cases dw1
            cases dw0
            have hil := (List.getElem?_eq_some_iff.mp hg).1
            refine ⟨T, _, rfl, SqT.of upd_same, rfl, _, _, rfl, gname ⟨_, [], rfl, gname ⟨rfl, ?_⟩⟩⟩
            refine ⟨rfl, _, rfl, _, _, _, _, rfl, rfl, hz1, atI_nat (j := 1) hw1, _, _, rfl, rfl, _, rfl, _, _, _, _, rfl, rfl, hz2, atI_nat (j := 0) hw0, _, _, rfl, rfl, ?_⟩
            refine ⟨_, sT _ _ h3, small1000 (by rw [List.length_map, List.length_take, gapL_len]; omega), fun b o e => by rw [upd_ne (ne_of_none e hD2)]; exact sT _ _ (s3 _ _ e), ?_⟩
            rw [upd_same, List.take_add_one, hg, List.map_append]
            rfl
          · rintro H3 ⟨s3, h3⟩
            have e3 : (gapL ds).take (min xs.length (xs.drop 1).length) = gapL ds := by
              rw [List.take_of_length_le]
              rw [gapL_len, List.length_drop, hxl]
              exact Nat.le_refl _
            rw [e3] at h3
            exact ⟨D2, gapL ds, rfl, SqL.of h3, q _ (s02.trans s3)⟩

theorem ok_law {f : Addr} {fd : FuncData} (F : Fun K "law" "law" s_law f fd) (E : Bi K mg) (D__law_stream : Has P w K mg base 1 "_law_stream" ["script"] (sp__law_stream K)) (D__law_list : Has P w K mg base 2 "_law_list" ["stream"] (sp__law_list K)) (D__law_domain : Has P w K mg base 1 "_law_domain" ["given"] (sp__law_domain K)) (D_values : Has P w K mg base 1 "values" ["given"] (sp_values K)) (D__law_values : Has P w K mg base 1 "_law_values" ["given"] (sp__law_values K)) (D_domain : HasX P w K mg base 3 "domain" ["values"] (sp_domain K)) (D_meet : Has P w K mg base 4 "meet" ["first", "second"] (sp_meet K)) (D__law_draw : Has P w K mg base 1 "_law_draw" ["stream", "many"] (sp__law_draw K)) (D_without : Has P w K mg base 4 "without" ["given", "value"] (sp_without K)) (D__law_strange : Has P w K mg base 3 "_law_strange" ["stream"] (sp__law_strange K)) (D_is_domain : Has P w K mg base 4 "is_domain" ["value"] (sp_is_domain K)) (D__law_is_domain : Has P w K mg base 3 "_law_is_domain" ["value"] (sp__law_is_domain K)) : FnOk P w K mg base CX0 5 f fd ["script"] (sp_law K) := by
  obtain ⟨f__law_stream, fd__law_stream, G__law_stream, g__law_stream, kp__law_stream, b__law_stream⟩ := D__law_stream
  obtain ⟨f__law_list, fd__law_list, G__law_list, g__law_list, kp__law_list, b__law_list⟩ := D__law_list
  obtain ⟨f__law_domain, fd__law_domain, G__law_domain, g__law_domain, kp__law_domain, b__law_domain⟩ := D__law_domain
  obtain ⟨f_values, fd_values, G_values, g_values, kp_values, b_values⟩ := D_values
  obtain ⟨f__law_values, fd__law_values, G__law_values, g__law_values, kp__law_values, b__law_values⟩ := D__law_values
  obtain ⟨f_domain, fd_domain, G_domain, g_domain, kp_domain, b_domain⟩ := D_domain
  obtain ⟨f_meet, fd_meet, G_meet, g_meet, kp_meet, b_meet⟩ := D_meet
  obtain ⟨f__law_draw, fd__law_draw, G__law_draw, g__law_draw, kp__law_draw, b__law_draw⟩ := D__law_draw
  obtain ⟨f_without, fd_without, G_without, g_without, kp_without, b_without⟩ := D_without
  obtain ⟨f__law_strange, fd__law_strange, G__law_strange, g__law_strange, kp__law_strange, b__law_strange⟩ := D__law_strange
  obtain ⟨f_is_domain, fd_is_domain, G_is_domain, g_is_domain, kp_is_domain, b_is_domain⟩ := D_is_domain
  obtain ⟨f__law_is_domain, fd__law_is_domain, G__law_is_domain, g__law_is_domain, kp__law_is_domain, b__law_is_domain⟩ := D__law_is_domain
  refine F.ok sc_law (fun vs H Q E h => ?_) (fun cdv A outer s H vs Q E' hr h => ?_)
  · obtain ⟨a, ns, rfl, _⟩ := h
    rfl
  · obtain ⟨a, ns, rfl, hS, hl, q⟩ := h
    have n9 : (2 : Nat) ^ 8 ≤ 2 ^ 9000 := Nat.pow_le_pow_right (by decide) (by decide)
    refine ⟨_, (pss_cons (ps_set (i := 1) sc_law.nd rfl (Or.inl rfl) (pe_call G__law_stream (hr.mono (by decide)) (by rfl) g__law_stream kp__law_stream b__law_stream .nil pass0 (pa_cons (pv 0) pa_nil)))
      (pss_cons (ps_set (i := 2) sc_law.nd rfl (Or.inl rfl) (pe_call G__law_list (hr.mono (by decide)) (by rfl) g__law_list kp__law_list b__law_list .nil pass0 (pa_cons (pv 1) pa_nil)))
      (pss_cons (ps_set (i := 3) sc_law.nd rfl (Or.inr rfl) (pe_call G__law_list (hr.mono (by decide)) (by rfl) g__law_list kp__law_list b__law_list .nil pass0 (pa_cons (pv 1) pa_nil)))
      (pss_cons (ps_set (i := 4) sc_law.nd rfl (Or.inl rfl) (pe_call G__law_domain (hr.mono (by decide)) (by rfl) g__law_domain kp__law_domain b__law_domain .nil pass0 (pa_cons (pv 2) pa_nil)))
      (pss_cons (ps_set (i := 5) sc_law.nd rfl (Or.inl rfl) (pe_call G__law_domain (hr.mono (by decide)) (by rfl) g__law_domain kp__law_domain b__law_domain .nil pass0 (pa_cons (pv 3) pa_nil)))
      (pss_cons (ps_set (i := 6) sc_law.nd rfl (Or.inl rfl) (pe_callTy call_list_of (by rfl) E.b_list (by decide +kernel) (pa_cons (pv 2) pa_nil)))
      (pss_cons (ps_if (pw_or (pt_cmpR (op_neD hr.units) (pe_call G_domain (hr.mono (by decide)) (by rfl) g_domain kp_domain b_domain .nil passL (pa_cons (pv 6) pa_nil)) (pv 4) (nomark _)) (pw_or (pt_cmpR (op_neD hr.units) (pv 6) (pv 2) (nomark _)) (pw_or1 (pt_cmpR (op_neD hr.units) (pe_call G_values (hr.mono (by decide)) (by rfl) g_values kp_values b_values .nil pass0 (pa_cons (pv 4) pa_nil)) (pe_callB cr_sortedI (by rfl) E.b_sorted (by decide +kernel) (pa_cons (pe_call G__law_values (hr.mono (by decide)) (by rfl) g__law_values kp__law_values b__law_values .nil pass0 (pa_cons (pv 4) pa_nil)) pa_nil)) (nomark _))))).pt (pss_one (ps_ret pe_bl)) pss_nil)
      (pss_cons (ps_if (pw_or (pt_not (pt_val (pe_callB call_isi (by rfl) E.b_isinstance (by decide +kernel) (pa_cons (pe_call G_values (hr.mono (by decide)) (by rfl) g_values kp_values b_values .nil pass0 (pa_cons (pv 4) pa_nil)) (pa_cons (pe_ty "list" (by rfl) E.b_list (by decide +kernel)) pa_nil))))) (pw_or1 (pt_not (pt_val (pe_callB call_isi (by rfl) E.b_isinstance (by decide +kernel) (pa_cons (pe_call G_domain (hr.mono (by decide)) (by rfl) g_domain kp_domain b_domain .nil passL (pa_cons (pv 6) pa_nil)) (pa_cons (pe_ty "tuple" (by rfl) E.b_tuple (by decide +kernel)) pa_nil))))))).pt (pss_one (ps_ret pe_bl)) pss_nil)
      (pss_cons (ps_expr (pe_bm PySem.F.plainAttrs_list PySem.F.slot_list_append PySem.F.type_list_append mt_append (pe_call G_values (hr.mono (by decide)) (by rfl) g_values kp_values b_values .nil pass0 (pa_cons (pv 4) pa_nil)) (pa_cons pe_int pa_nil)))
      (pss_cons (ps_if (pt_cmpR (op_neD hr.units) (pe_call G_values (hr.mono (by decide)) (by rfl) g_values kp_values b_values .nil pass0 (pa_cons (pv 4) pa_nil)) (pe_callB cr_sortedI (by rfl) E.b_sorted (by decide +kernel) (pa_cons (pe_call G__law_values (hr.mono (by decide)) (by rfl) g__law_values kp__law_values b__law_values .nil pass0 (pa_cons (pv 4) pa_nil)) pa_nil)) (nomark _)) (pss_one (ps_ret pe_bl)) pss_nil)
      (pss_cons (ps_setLc (i := 7) (own := [("value", 8)]) (g := gName 8) rfl sc_law.nd rfl rfl (by rfl) (pi_list (pv 2)) (blkOk_by (N := N_law) (sc := defScope s_law) (by decide +kernel)) (fun _ _ _ _ _ => pg_name (i := 8) sc_law.nd rfl (Or.inl rfl)) (fun _ _ _ _ _ => pts_one (pt_cmpR (show OpR _ (compareOp .In) (rIn K false) from op_in_seq) (pv 8) (pv 3) (by rfl))) (fun _ _ _ _ _ => (pv 8)))
      (pss_cons (ps_if (pw_or (pt_cmpR (op_neD hr.units) (pe_call G_meet (hr.mono (by decide)) (by rfl) g_meet kp_meet b_meet .nil pass0 (pa_cons (pv 4) (pa_cons (pv 5) pa_nil))) (pe_call G__law_domain (hr.mono (by decide)) (by rfl) g__law_domain kp__law_domain b__law_domain .nil pass0 (pa_cons (pv 7) pa_nil)) (nomark _)) (pw_or1 (pt_cmpR (op_neD hr.units) (pe_call G_meet (hr.mono (by decide)) (by rfl) g_meet kp_meet b_meet .nil pass0 (pa_cons (pv 5) (pa_cons (pv 4) pa_nil))) (pe_call G__law_domain (hr.mono (by decide)) (by rfl) g__law_domain kp__law_domain b__law_domain .nil pass0 (pa_cons (pv 7) pa_nil)) (nomark _)))).pt (pss_one (ps_ret pe_bl)) pss_nil)
      (pss_cons (ps_set (i := 8) sc_law.nd rfl (Or.inr rfl) (pe_op op_sub (pe_call G__law_draw (hr.mono (by decide)) (by rfl) g__law_draw kp__law_draw b__law_draw .nil pass0 (pa_cons (pv 1) (pa_cons pe_int pa_nil))) pe_int))
      (pss_cons (ps_if (pw_and (pt_cmpR op_gt (pe_callB call_len_seq (by rfl) E.b_len PySem.boot_len (pa_cons (pv 2) pa_nil)) pe_int (nomark _)) (pw_and1 (pt_cmpR op_eq (pe_call G__law_draw (hr.mono (by decide)) (by rfl) g__law_draw kp__law_draw b__law_draw .nil pass0 (pa_cons (pv 1) (pa_cons pe_int pa_nil))) pe_int (nomark _)))).pt (pss_one (ps_set (i := 8) sc_law.nd rfl (Or.inr rfl) (pe_ix ix_list (pv 2) (pe_call G__law_draw (hr.mono (by decide)) (by rfl) g__law_draw kp__law_draw b__law_draw .nil pass0 (pa_cons (pv 1) (pa_cons (pe_callB call_len_seq (by rfl) E.b_len PySem.boot_len (pa_cons (pv 2) pa_nil)) pa_nil))) (fun _ _ => rfl)))) pss_nil)
      (pss_cons (ps_if (pt_cmpR (op_neD hr.units) (pe_call G_without (hr.mono (by decide)) (by rfl) g_without kp_without b_without .nil pass0 (pa_cons (pv 4) (pa_cons (pv 8) pa_nil))) (pe_call G__law_domain (hr.mono (by decide)) (by rfl) g__law_domain kp__law_domain b__law_domain .nil pass0 (pa_cons (pe_lc (own := [("other", 9)]) (g := gName 9) rfl sc_law.nd (pi_list (pv 2)) (blkOk_by (N := N_law) (sc := defScope s_law) (by decide +kernel)) (fun _ _ _ _ _ => pg_name (i := 9) sc_law.nd rfl (Or.inl rfl)) (fun _ _ _ _ _ => pts_one (pt_cmpR op_ne (pv 9) (pv 8) (nomark _))) (fun _ _ _ _ _ => (pv 9))) pa_nil)) (nomark _)) (pss_one (ps_ret pe_bl)) pss_nil)
      (pss_cons (ps_for PassesOwn.never rfl (pi_tup (pe_tup (pa_cons (pv 4) (pa_cons (pv 5) (pa_cons (pe_call G__law_strange (hr.mono (by decide)) (by rfl) g__law_strange kp__law_strange b__law_strange .nil pass0 (pa_cons (pv 1) pa_nil)) (pa_cons (pe_call G__law_strange (hr.mono (by decide)) (by rfl) g__law_strange kp__law_strange b__law_strange .nil pass0 (pa_cons (pv 1) pa_nil)) pa_nil)))))) (pg_name (i := 9) sc_law.nd rfl (Or.inl rfl)) (pss_cons (ps_set (i := 10) sc_law.nd rfl (Or.inl rfl) (pe_call G_is_domain (hr.mono (by decide)) (by rfl) g_is_domain kp_is_domain b_is_domain .nil pass0 (pa_cons (pv 9) pa_nil)))
      (pss_one (ps_if (pw_or (pt_not (pt_val (pe_callB call_isi (by rfl) E.b_isinstance (by decide +kernel) (pa_cons (pv 10) (pa_cons (pe_ty "bool" (by rfl) E.b_bool (by decide +kernel)) pa_nil))))) (pw_or1 (pt_cmpR op_ne (pv 10) (pe_call G__law_is_domain (hr.mono (by decide)) (by rfl) g__law_is_domain kp__law_is_domain b__law_is_domain .nil pass0 (pa_cons (pv 9) pa_nil)) (nomark _)))).pt (pss_one (ps_ret pe_bl)) pss_nil))))
      (pss_cons (ps_set (i := 11) sc_law.nd rfl (Or.inl rfl) (pe_call G__law_draw (hr.mono (by decide)) (by rfl) g__law_draw kp__law_draw b__law_draw .nil pass0 (pa_cons (pv 1) (pa_cons (pe_op op_add (pe_callB call_len_seq (by rfl) E.b_len PySem.boot_len (pa_cons (pv 2) pa_nil)) pe_int) pa_nil))))
      (pss_cons (ps_set (i := 12) sc_law.nd rfl (Or.inl rfl) (pe_op op_cat (pe_op op_cat (pe_slice sl_list (pv 2) po_none (po_some (pv 11))) (pe_lst (pa_cons (pe_ix ix_list (pe_lst (pa_cons pe_int (pa_cons (pe_un un_neg pe_int) (pa_cons (pe_op op_pow pe_int pe_int) (pa_cons (pe_un un_neg pe_int) pa_nil))))) (pe_call G__law_draw (hr.mono (by decide)) (by rfl) g__law_draw kp__law_draw b__law_draw .nil pass0 (pa_cons (pv 1) (pa_cons pe_int pa_nil))) (fun _ _ => rfl)) pa_nil))) (pe_slice sl_list (pv 2) (po_some (pv 11)) po_none)))
      (pss_cons (ps_try_only rfl rfl ⟨rfl, by decide, .inl E.x_BadProblem.gC⟩ takes0 (fun W pn xe tk po => (pss_one (ps_expr (pe_callS G_domain (hr.mono (by decide)) (by rfl) g_domain kp_domain b_domain (fun σ => passAt tk σ) (pa_cons (pv 12) pa_nil))))) (fun ea oe ecls ed pn hz hf => (pss_one (ps_ret pe_bl))))
      (pss_one (ps_ret pe_bl))))))))))))))))))))), ?_⟩
    refine seq_asg ?_
    refine ⟨_, rfl, a, ns, rfl, hS, hl, fun s l H1 hs hl1 s1 S1 => ?_⟩
    refine gname (seq_asg ?_)
    refine ⟨_, rfl, s, l, rfl, S1, fun r1 n1 H2 i1 l1 b2 S2 nr1 e1 => ?_⟩
    refine gname (seq_asg ?_)
    refine ⟨_, rfl, s, l, rfl, S2, fun r2 n2 H3 i2 l2 b3 S3 nr2 e2 => ?_⟩
    have a1 : r1 ≠ s := fun z => by obtain ⟨o, ho⟩ := S1.at_s; rw [z, ho] at nr1; cases nr1
    have a2 : r2 ≠ s := fun z => by obtain ⟨o, ho⟩ := S2.at_s; rw [z, ho] at nr2; cases nr2
    have e1 := b3 _ _ a1 e1
    refine gname (seq_asg ?_)
    refine ⟨_, rfl, r1, n1, rfl, SqL.of e1, by omega, fun f1 D1 H4 s4 hD1 d1 => ?_⟩
    refine gname (seq_asg ?_)
    refine ⟨_, rfl, r2, n2, rfl, SqL.of (s4 _ _ e2), by omega, fun f2 D2 H5 s5 hD2 d2 => ?_⟩
    have s35 := s4.trans s5
    refine gname (seq_asg ?_)
    refine ⟨_, rfl, _, _, rfl, .inl (SqL.of (s35 _ _ e1)), fun g ng => ?_⟩
    have sg := same_upd (o := .lst (n1.map V.int)) ng
    have F : Fy K (upd H5 g (.lst (n1.map V.int))) s l r1 r2 g n1 n2 f1 f2 D1 D2 :=
      ⟨sg _ _ (s35 _ _ e1), sg _ _ (s35 _ _ e2), upd_same, dp_same (s5.trans sg) _ _ d1, dp_same sg _ _ d2, S3.keep (s35.trans sg), a1, a2, fun z => by obtain ⟨o, ho⟩ := (S3.keep s35).at_s; rw [z, ho] at ng; cases ng⟩
    clear sg ng s35 s5 s4 d1 d2 e1 e2 nr1 nr2 S1 S2 S3 b2 b3 hs hl1 s1
    generalize upd H5 g (.lst (n1.map V.int)) = H6 at F
    have vl1 := vals_len hD1 i1
    have vl2 := vals_len hD2 i2
    have db1 := dom_bounds hD1 i1
    have db2 := dom_bounds hD2 i2
    refine gname (seq_ifN ?_)
    refine ⟨_, rfl, g, n1, rfl, SqL.of F.hg, by omega, fun _ v D H7 s7 hD dv => ?_, fun hno => absurd i1 hno⟩
    obtain rfl := dom_uniq hD1 hD (fun _ => Iff.rfl)
    have F := F.same s7
    refine ⟨_, rfl, _, _, dv, F.d1, dom_shaped _, dom_shaped _, _, rfl, ?_⟩
    rw [dom_eqv]
    refine iteF ?_
    refine ⟨_, rfl, _, rfl, .list (n1.map PyData.int), .list (n1.map PyData.int), .lst (SqL.of F.hg) (dp_ints _), .lst (SqL.of F.h1) (dp_ints _), ints_shaped _, ints_shaped _, _, rfl, ?_⟩
    rw [ints_eqv]
    refine iteF ?_
    clear dv s7 hD
    refine ⟨_, rfl, f1, D1, rfl, F.d1, vl1, hD1.1, db1, fun rv1 A1 s1 nv1 ev1 => ?_⟩
    have F := F.same s1
    refine ⟨_, rfl, f1, D1, rfl, F.d1, vl1, hD1.1, db1, fun rw1 B1 t1 nw1 ew1 => ?_⟩
    have F := F.same t1
    refine ⟨rw1, valsM D1, rfl, SqL.of ew1, fun ns1 p1 hp1 hs1 np1 => ?_⟩
    have hns1 := perm_vals hD1.1 hp1 hs1
    subst hns1
    have u1 := same_upd (o := .lst ((valsM D1).map V.int)) np1
    have F := F.same u1
    refine ⟨.list ((valsM D1).map PyData.int), .list ((valsM D1).map PyData.int), .lst (SqL.of (u1 _ _ (t1 _ _ ev1))) (dp_ints _), .lst (SqL.of upd_same) (dp_ints _), ints_shaped _, ints_shaped _, _, rfl, ?_⟩
    rw [ints_eqv]
    clear ev1 ew1 s1 t1 u1 hp1 hs1 nv1 nw1
    generalize upd B1 p1 (.lst ((valsM D1).map V.int)) = G1 at F
    clear np1
    refine iteF (seq_ifN ?_)
    refine ⟨_, rfl, f1, D1, rfl, F.d1, vl1, hD1.1, db1, fun rv8 H8 s8 nv8 ev8 => ?_⟩
    have F := F.same s8
    refine ⟨_, _, _, _, _, rfl, .ty _, tyx_of (show Dp K H8 (.ref rv8) (.list ((valsM D1).map PyData.int)) from .lst (SqL.of ev8) (dp_ints _)), kit_ty (kitL _), _, rfl, iteF ?_⟩
    refine ⟨_, rfl, g, n1, rfl, SqL.of F.hg, by omega, fun _ v D H9 s9 hD dv => ?_, fun hno => absurd i1 hno⟩
    have F := F.same s9
    refine ⟨_, _, _, _, _, rfl, .ty _, tyx_of dv, kit_ty (kitT _), _, rfl, iteF ?_⟩
    clear dv hD ev8 nv8 s8 s9
    refine seq_any ?_
    refine ⟨_, rfl, f1, D1, rfl, F.d1, vl1, hD1.1, db1, fun rv10 H10 s10 nv10 ev10 => ?_⟩
    refine ⟨.inl ⟨rfl, _, SqL.of ev10⟩, _, _, _, rfl, rfl, ev10, small1000 (by rw [List.length_map]; omega), ?_⟩
    have F := F.same (show Same H9 (upd H10 rv10 (.lst ((valsM D1).map V.int ++ [V.int 0]))) from fun b o e => by rw [upd_ne (ne_of_none e nv10)]; exact s10 _ _ e)
    clear ev10 s10 nv10
    generalize upd H10 rv10 (.lst ((valsM D1).map V.int ++ [V.int 0])) = H11 at F
    refine nxp (seq_ifN ?_)
    refine ⟨_, rfl, f1, D1, rfl, F.d1, vl1, hD1.1, db1, fun rv2 A2 s2 nv2 ev2 => ?_⟩
    have F := F.same s2
    refine ⟨_, rfl, f1, D1, rfl, F.d1, vl1, hD1.1, db1, fun rw2 B2 t2 nw2 ew2 => ?_⟩
    have F := F.same t2
    refine ⟨rw2, valsM D1, rfl, SqL.of ew2, fun ns2 p2 hp2 hs2 np2 => ?_⟩
    have hns2 := perm_vals hD1.1 hp2 hs2
    subst hns2
    have u2 := same_upd (o := .lst ((valsM D1).map V.int)) np2
    have F := F.same u2
    refine ⟨.list ((valsM D1).map PyData.int), .list ((valsM D1).map PyData.int), .lst (SqL.of (u2 _ _ (t2 _ _ ev2))) (dp_ints _), .lst (SqL.of upd_same) (dp_ints _), ints_shaped _, ints_shaped _, _, rfl, ?_⟩
    rw [ints_eqv]
    clear ev2 ew2 s2 t2 u2 hp2 hs2 nv2 nw2
    generalize upd B2 p2 (.lst ((valsM D1).map V.int)) = G2 at F
    clear np2
    refine iteF (seq_asg ?_)
    -- both
    refine ⟨_, rfl, r1, rfl, ⟨_, SqL.of F.h1⟩, fun R hR => ?_⟩
    have hrR : r1 ≠ R := ne_of_none F.h1 hR
    have hrR2 : r2 ≠ R := ne_of_none F.h2 hR
    refine lc_list (K := K) (a := r1) (xs := n1.map V.int) (fun i H' => H' = upd G2 R (.lst (((n1.take i).filter fun v => decide (v ∈ n2)).map V.int))) rfl (fun i H' _ e => by rw [e]; exact SqL.of (by rw [upd_ne hrR]; exact F.h1)) ?_ ?_
    · rintro i y H12 hi rfl
      rw [List.getElem?_map] at hi
      obtain ⟨v, hv, rfl⟩ : ∃ v, n1[i]? = some v ∧ V.int v = y := by
        cases hv : n1[i]? with
        | none => rw [hv] at hi; cases hi
        | some v => rw [hv] at hi; exact ⟨v, rfl, Option.some.inj hi⟩
      have hil := (List.getElem?_eq_some_iff.mp hv).1
      have htk : n1.take (i + 1) = n1.take i ++ [v] := by rw [List.take_add_one, hv]; rfl
      refine ⟨rfl, ?_⟩
      refine ⟨_, rfl, _, rfl, r2, _, rfl, .inl (SqL.of (by rw [upd_ne hrR2]; exact F.h2)), rfl, flat_ints n2, _, rfl, ?_⟩
      rw [if_neg Bool.false_ne_true, inV_int]
      by_cases e : v ∈ n2
      · rw [decide_eq_true e]
        refine iteT ⟨_, rfl, _, upd_same, small1000 (by rw [List.length_map]; exact Nat.le_trans (List.length_filter_le _ _) (by rw [List.length_take]; omega)), ?_⟩
        rw [upd_upd, htk, List.filter_append, List.map_append]
        simp [e]
      · rw [decide_eq_false e]
        refine iteF ?_
        rw [htk, List.filter_append]
        simp [e]
    · rintro H12 rfl
      rw [List.length_map, List.take_length]
      have sR := same_upd (o := .lst ((n1.filter fun v => decide (v ∈ n2)).map V.int)) hR
      have F := F.same sR
      have eB : (upd G2 R (.lst ((n1.filter fun v => decide (v ∈ n2)).map V.int))) R = some (.lst ((n1.filter fun v => decide (v ∈ n2)).map V.int)) := upd_same
      have lB : (n1.filter fun v => decide (v ∈ n2)).length ≤ 30 := Nat.le_trans (List.length_filter_le _ _) l1
      have mB : ∀ v, v ∈ (n1.filter fun v => decide (v ∈ n2)) ↔ v ∈ n1 ∧ v ∈ n2 := fun v => by rw [List.mem_filter, decide_eq_true_eq]
      clear sR hR
      generalize upd G2 R (.lst ((n1.filter fun v => decide (v ∈ n2)).map V.int)) = H13 at F eB
      generalize (n1.filter fun v => decide (v ∈ n2)) = nB at eB lB mB
      refine gname (seq_ifN ?_)
      refine ⟨_, rfl, _, rfl, f1, f2, D1, D2, n1, n2, rfl, F.d1, F.d2, hD1, hD2, i1, i2, fun v Dm ls H14 s14 hDm hls dm => ?_⟩
      have F := F.same s14
      have eB := s14 _ _ eB
      refine ⟨_, rfl, R, nB, rfl, SqL.of eB, by omega, fun w Db H15 s15 hDb db => ?_⟩
      have F := F.same s15
      have eB := s15 _ _ eB
      obtain rfl := dom_uniq hDm hDb (fun v => (hls v).trans (mB v).symm)
      refine ⟨_, _, dp_same s15 _ _ dm, db, dom_shaped _, dom_shaped _, _, rfl, ?_⟩
      rw [dom_eqv]
      refine iteF ?_
      clear dm db hDm hDb hls s14 s15
      refine ⟨_, rfl, _, rfl, f2, f1, D2, D1, n2, n1, rfl, F.d2, F.d1, hD2, hD1, i2, i1, fun v Dm2 ls H16 s16 hDm hls dm => ?_⟩
      have F := F.same s16
      have eB := s16 _ _ eB
      refine ⟨_, rfl, R, nB, rfl, SqL.of eB, by omega, fun w Db2 H17 s17 hDb db => ?_⟩
      have F := F.same s17
      obtain rfl := dom_uniq hDm hDb (fun v => (hls v).trans (And.comm.trans (mB v).symm))
      refine ⟨_, _, dp_same s17 _ _ dm, db, dom_shaped _, dom_shaped _, _, rfl, ?_⟩
      rw [dom_eqv]
      refine iteF (seq_asg ?_)
      clear dm db hDm hDb hls s16 s17 eB
      -- a value
      refine ⟨_, rfl, s, l, 103, rfl, F.st, by decide, Nat.lt_of_lt_of_le (by decide) n9, fun vv H18 _ _ b18 S18 => ⟨_, _, rfl, rfl, ?_⟩⟩
      have F := F.but b18 S18
      refine gname (seq_via (fun σ' H' => ∃ v : Int, σ' = [some (.ref a), some (.ref s), some (.ref r1), some (.ref r2), some f1, some f2, some (.ref g), some (.ref R), some (.int v), none, none, none, none] ∧ Fy K H' s l r1 r2 g n1 n2 f1 f2 D1 D2) ?_ (fun go => ?_))
      · clear F S18 b18
        rintro σ' H19 ⟨v, rfl, F⟩
        refine seq_ifN ?_
        refine ⟨_, rfl, _, rfl, f1, D1, n1, v, rfl, F.d1, hD1, i1, fun w Dw ls H20 s20 hDw hls dw => ?_⟩
        have F := F.same s20
        refine ⟨_, rfl, r1, rfl, ⟨_, SqL.of F.h1⟩, fun R2 hR2 => ?_⟩
        have hrR2 : r1 ≠ R2 := ne_of_none F.h1 hR2
        refine lc_list (K := K) (a := r1) (xs := n1.map V.int) (fun i H' => H' = upd H20 R2 (.lst (((n1.take i).filter fun x => !decide (x = v)).map V.int))) rfl (fun i H' _ e => by rw [e]; exact SqL.of (by rw [upd_ne hrR2]; exact F.h1)) ?_ ?_
        · rintro i y H21 hi rfl
          rw [List.getElem?_map] at hi
          obtain ⟨x, hx, rfl⟩ : ∃ x, n1[i]? = some x ∧ V.int x = y := by
            cases hv : n1[i]? with
            | none => rw [hv] at hi; cases hi
            | some x => rw [hv] at hi; exact ⟨x, rfl, Option.some.inj hi⟩
          have hil := (List.getElem?_eq_some_iff.mp hx).1
          have htk : n1.take (i + 1) = n1.take i ++ [x] := by rw [List.take_add_one, hx]; rfl
          refine ⟨rfl, ?_⟩
          refine ⟨_, rfl, _, rfl, rfl, _, rfl, ?_⟩
          by_cases e : x = v
          · rw [decide_eq_true (congrArg V.int e)]
            refine iteF ?_
            rw [htk, List.filter_append]
            simp [e]
          · rw [decide_eq_false (fun z => e (V.int.inj z))]
            refine iteT ⟨_, rfl, _, upd_same, small1000 (by rw [List.length_map]; exact Nat.le_trans (List.length_filter_le _ _) (by rw [List.length_take]; omega)), ?_⟩
            rw [upd_upd, htk, List.filter_append, List.map_append]
            simp [e]
        · rintro H21 rfl
          rw [List.length_map, List.take_length]
          have sR := same_upd (o := .lst ((n1.filter fun x => !decide (x = v)).map V.int)) hR2
          have F := F.same sR
          have mW : ∀ x, x ∈ (n1.filter fun x => !decide (x = v)) ↔ x ∈ n1 ∧ x ≠ v := fun x => by rw [List.mem_filter]; simp
          refine ⟨R2, _, rfl, SqL.of upd_same, Nat.le_trans (List.length_filter_le _ _) (by omega), fun w2 Dw2 H22 s22 hDw2 dw2 => ?_⟩
          have F := F.same s22
          obtain rfl := dom_uniq hDw hDw2 (fun x => (hls x).trans (mW x).symm)
          refine ⟨_, _, dp_same (sR.trans s22) _ _ dw, dw2, dom_shaped _, dom_shaped _, _, rfl, ?_⟩
          rw [dom_eqv]
          refine iteF (seq_any ?_)
          clear dw dw2 hDw hDw2 hls mW sR s22 hR2 s20
          -- four values
          refine ⟨_, rfl, _, rfl, _, rfl, s, l, rfl, F.st, fun x3 c3 H23 b23 S23 j3 t3 => ?_⟩
          have F0 := F
          have F := F.but b23 S23
          refine ⟨_, rfl, s, l, rfl, F.st, fun x4 c4 H24 b24 S24 j4 t4 => ?_⟩
          have k3 : Dp K H24 x3 c3 := Im.dp _ _ (frs_keep F0.st b24 j3)
          have k4 : Dp K H24 x4 c4 := Im.dp _ _ j4
          have F := F.but b24 S24
          refine ⟨(by show 4 ≤ sizeLine; decide), fun p np => ?_⟩
          have sp := same_upd (o := .tup [f1, f2, x3, x4]) np
          have F := F.same sp
          have k3 := dp_same sp _ _ k3
          have k4 := dp_same sp _ _ k4
          have hpt : (upd H24 p (.tup [f1, f2, x3, x4])) p = some (.tup [f1, f2, x3, x4]) := upd_same
          clear np sp j3 j4
          generalize upd H24 p (.tup [f1, f2, x3, x4]) = H25 at F k3 k4 hpt
          have dl : ∀ {D : List (Int × Int)} {ns : List Int}, IsDom D ns → (∀ n ∈ ns, -50 ≤ n ∧ n ≤ 50) → ∀ ds, domD D = .tuple ds → ds.length ≤ 200 := fun {D ns} hD hn ds h => by
            have e : D.map ivD = ds := by unfold domD at h; exact PyData.tuple.inj h
            rw [← e, List.length_map]
            have h1 : D.length ≤ (valsM D).length := by
              have hc := hD.1
              clear e h hD hn
              induction D with
              | nil => exact Nat.le_refl 0
              | cons p D ih =>
                have := ih hc.2.2
                show D.length + 1 ≤ (vals p ++ valsM D).length
                rw [List.length_append, vals_length]
                have := hc.1
                omega
            have := vals_len hD hn
            omega
          have row : ∀ (i : Nat) (x : V), [f1, f2, x3, x4][i]? = some x → ∃ d, Dp K H25 x d ∧ ∀ ds, d = .tuple ds → ds.length ≤ 200 := fun i x hx => by
            have hm := List.mem_of_getElem? hx
            simp only [List.mem_cons, List.not_mem_nil, or_false] at hm
            rcases hm with z | z | z | z
            · rw [z]; exact ⟨_, F.d1, dl hD1 i1⟩
            · rw [z]; exact ⟨_, F.d2, dl hD2 i2⟩
            · rw [z]; exact ⟨_, k3, fun ds h => Nat.le_trans (t3 ds h) (by decide)⟩
            · rw [z]; exact ⟨_, k4, fun ds h => Nat.le_trans (t4 ds h) (by decide)⟩
          refine ⟨p, rfl, ⟨_, SqT.of hpt⟩, for_tup (K := K) (a := p) (xs := [f1, f2, x3, x4]) (fun i σ H' => ∃ w9 w10, σ = [some (.ref a), some (.ref s), some (.ref r1), some (.ref r2), some f1, some f2, some (.ref g), some (.ref R), some (.int v), w9, w10, none, none] ∧ Same H25 H')
            ⟨none, none, rfl, Same.refl _⟩ (fun i σ H' _ ⟨_, _, _, e⟩ => SqT.of (e _ _ hpt)) ?_ ?_⟩
          · rintro i x σ H26 hx ⟨w9, w10, rfl, s26⟩
            obtain ⟨d, dx, hdl⟩ := row i x hx
            refine gname (seq_asg ?_)
            refine ⟨_, rfl, x, d, rfl, dp_same s26 _ _ dx, hdl, fun H27 s27 => ?_⟩
            have s257 := s26.trans s27
            refine gname ?_
            refine ⟨_, rfl, _, _, _, _, _, rfl, .ty _, tyx_of (show Dp K H27 (V.bl (domB d)) (.bool (domB d)) from .bl _), kit_ty (kitBo _), _, rfl, iteF ?_⟩
            refine ⟨_, rfl, _, rfl, x, d, rfl, dp_same s257 _ _ dx, ?_⟩
            refine ⟨rfl, _, rfl, ?_⟩
            rw [decide_eq_true rfl]
            exact iteF ⟨_, _, rfl, s257⟩
          · rintro σ H26 ⟨w9, w10, rfl, s26⟩
            have F := F.same s26
            clear row k3 k4 hpt s26
            refine nxp (seq_asg ?_)
            refine ⟨_, rfl, _, rfl, _, _, rfl, .inl (SqL.of F.h1), _, _, rfl, rfl, s, l, _, rfl, F.st, by omega, Nat.lt_of_lt_of_le (show _ < 2 ^ 8 from by rw [List.length_map]; omega) n9, fun at' H27 a0 at1 b27 S27 => ?_⟩
            have F := F.but b27 S27
            obtain ⟨k, hk⟩ : ∃ k : Nat, at' = (k : Int) := ⟨at'.toNat, by omega⟩
            subst hk
            rw [List.length_map] at at1
            have hkl : k ≤ (n1.map V.int).length := by rw [List.length_map]; omega
            refine gname (seq_asg ?_)
            refine ⟨_, rfl, nopart_of ?_⟩
            refine ⟨_, rfl, _, rfl, ?_⟩
            refine ⟨r1, _, rfl, SqL.of F.h1, fun p6 np6 => ?_⟩
            rw [cut_take _ k hkl]
            have u6 := same_upd (o := .lst ((n1.map V.int).take k)) np6
            have e6 : (upd H27 p6 (.lst ((n1.map V.int).take k))) p6 = some (.lst ((n1.map V.int).take k)) := upd_same
            have F := F.same u6
            have hp6 : p6 ≠ s := fun z => by obtain ⟨o, ho⟩ := S27.at_s; rw [z, ho] at np6; cases np6
            clear np6 u6
            generalize upd H27 p6 (.lst ((n1.map V.int).take k)) = H28 at F e6
            refine lst_of (args1 (op_of ?_))
            refine lit_lst (K := K) (ds := bad4.map PyData.int) ?_ (by decide) H28 _ fun v0 H0 t0 i0 => ?_
            · unfold bad4
              simp only [List.map_cons, List.map_nil]
              walk_at "lits"
            cases i0 with
            | @lst p0 xs0 _ g0 e0 a0' =>
            have np0 : p0 ≠ s := fun z => by
              obtain ⟨o, ho⟩ := F.st.at_s
              rw [z, ho] at g0
              cases g0
            have F := F.same t0
            have e6 := t0 _ _ e6
            refine ⟨_, rfl, s, l, 4, rfl, F.st, by decide, Nat.lt_of_lt_of_le (by decide) n9, fun r H29 r0 r4 b29 S29 => ?_⟩
            obtain ⟨m, hm, hat⟩ := int_pick a0' r0 r4
            have F := F.but b29 S29
            have e6 := b29 _ _ hp6 e6
            refine ⟨_, _, _, _, rfl, rfl, SqL.of (b29 _ _ np0 e0), hat, ?_⟩
            refine ⟨(by show 1 ≤ sizeLine; decide), fun p7 np7 => ?_⟩
            have u7 := same_upd (o := .lst [.int m]) np7
            have F := F.same u7
            refine ⟨_, _, _, _, rfl, rfl, u7 _ _ e6, upd_same, small_of (by rw [List.length_take, List.length_map, List.length_singleton]; omega), fun p8 np8 => ?_⟩
            have u8 := same_upd (o := .lst ((n1.map V.int).take k ++ [.int m])) np8
            have F := F.same u8
            have e8 : (upd (upd H29 p7 (.lst [.int m])) p8 (.lst ((n1.map V.int).take k ++ [.int m]))) p8 = some (.lst ((n1.map V.int).take k ++ [.int m])) := upd_same
            clear np7 np8 u7 u8 e6
            generalize upd (upd H29 p7 (.lst [.int m])) p8 (.lst ((n1.map V.int).take k ++ [.int m])) = H30 at F e8
            refine ⟨_, rfl, _, rfl, _, rfl, nopart_of ?_⟩
            refine ⟨r1, _, rfl, SqL.of F.h1, fun p9 np9 => ?_⟩
            rw [cut_drop _ k hkl]
            have u9 := same_upd (o := .lst ((n1.map V.int).drop k)) np9
            refine ⟨_, _, _, _, rfl, rfl, u9 _ _ e8, upd_same, small_of (by rw [List.length_append, List.length_take, List.length_drop, List.length_map, List.length_singleton]; omega), fun p10 np10 => ?_⟩
            have eb : (n1.map V.int).take k ++ [V.int m] ++ (n1.map V.int).drop k = (n1.take k ++ [m] ++ n1.drop k).map V.int := by
              rw [List.map_append, List.map_append, List.map_take, List.map_drop]; rfl
            rw [eb]
            refine gname (seq_any ?_)
            refine ⟨_, rfl, p10, n1.take k ++ [m] ++ n1.drop k, rfl, SqL.of upd_same, by rw [List.length_append, List.length_append, List.length_take, List.length_drop, List.length_singleton]; omega, fun hall => absurd (hall m (List.mem_append_left _ (List.mem_append_right _ (List.mem_singleton.mpr rfl)))) (bad4_out m hm), fun hno H31 s31 => ?_⟩
            exact ⟨true, E.e_BadProblem_BadProblem, fun _ ea ha => q _, fun z => nomatch z⟩
      · refine ⟨_, rfl, _, _, rfl, .inl (SqL.of F.h1), _, _, rfl, rfl, _, rfl, ite2 (fun e => ?_) (fun e => ?_)⟩
        · have hpos := of_decide_eq_true e
          refine ⟨_, rfl, s, l, 2, rfl, F.st, by decide, Nat.lt_of_lt_of_le (by decide) n9, fun c H19 _ _ b19 S19 => ⟨rfl, _, rfl, ite2 (fun e2 => ?_) (fun e2 => ?_)⟩⟩
          · have F := F.but b19 S19
            refine ⟨_, rfl, _, rfl, _, rfl, _, _, rfl, .inl (SqL.of F.h1), s, l, _, rfl, F.st, hpos, Nat.lt_of_lt_of_le (show _ < 2 ^ 8 from by rw [List.length_map]; omega) n9, fun r H20 r0 r1' b20 S20 => ?_⟩
            rw [List.length_map] at r1'
            have F := F.but b20 S20
            have hr : r.toNat < n1.length := by omega
            refine ⟨_, _, _, _, rfl, rfl, SqL.of F.h1, at_of (j := r.toNat) (by omega) (by rw [List.getElem?_map, List.getElem?_eq_getElem hr]; rfl), ?_⟩
            exact gname (go _ _ ⟨_, rfl, F⟩)
          · exact go _ _ ⟨_, rfl, F.but b19 S19⟩
        · exact iteF (go _ _ ⟨_, rfl, F⟩)

end
/-! ### the end -/
theorem all_mk {l : PySem.W.OpenLaw} {w : World} {K : PySem.W.Frag} {h : Heap} {mg : Str → Option Value} {fa f1 f2 f3 f4 f5 f6 f7 f8 f9 f10 f11 f12 f13 f14 f15 f16 f17 f18 f19 : Addr} (X : K.In h) (G : h.Ns mainGlobals mg) (hfa : mg "law" = some (.ref fa))
    {od1 an1 od2 an2 od3 an3 od4 an4 od5 an5 od6 an6 od7 an7 od8 an8 od9 an9 od10 an10 od11 an11 od12 an12 od13 an13 od14 an14 od15 an15 od16 an16 od17 an17 od18 an18 od19 an19 : Option Addr} {sl1 sl2 sl3 sl4 sl5 sl6 sl7 sl8 sl9 sl10 sl11 sl12 sl13 sl14 sl15 sl16 sl17 sl18 sl19 : Array (Option Value)} {oc1 kV1 dc1 pm1 cd1 ct1 oc2 kV2 dc2 pm2 cd2 ct2 oc3 kV3 dc3 pm3 cd3 ct3 oc4 kV4 dc4 pm4 cd4 ct4 oc5 kV5 dc5 pm5 cd5 ct5 oc6 kV6 dc6 pm6 cd6 ct6 oc7 kV7 dc7 pm7 cd7 ct7 oc8 kV8 dc8 pm8 cd8 ct8 oc9 kV9 dc9 pm9 cd9 ct9 oc10 kV10 dc10 pm10 cd10 ct10 oc11 kV11 dc11 pm11 cd11 ct11 oc12 kV12 dc12 pm12 cd12 ct12 oc13 kV13 dc13 pm13 cd13 ct13 oc14 kV14 dc14 pm14 cd14 ct14 oc15 kV15 dc15 pm15 cd15 ct15 oc16 kV16 dc16 pm16 cd16 ct16 oc17 kV17 dc17 pm17 cd17 ct17 oc18 kV18 dc18 pm18 cd18 ct18 oc19 kV19 dc19 pm19 cd19 ct19 : Value} {tk0 : Tok} {tk1 : Tok}

    (a1 : PySem.W.nsIn K mainGlobals "is_integer" = some (some (.ref f1))) (l1 : K.lookup f1 = some ⟨oc1, od1, .func (PySem.W.fnOf "is_integer" "is_integer" (defArgs s_is_integer) (defBody s_is_integer) (defScope s_is_integer) .none kV1 dc1 pm1 an1 cd1 ct1), sl1⟩) (c1 : PySem.W.codeIn K cd1 "is_integer" = true) (k1 : PySem.W.keepIn K (.ref f1) = true)
    (a2 : PySem.W.nsIn K mainGlobals "is_value" = some (some (.ref f2))) (l2 : K.lookup f2 = some ⟨oc2, od2, .func (PySem.W.fnOf "is_value" "is_value" (defArgs s_is_value) (defBody s_is_value) (defScope s_is_value) .none kV2 dc2 pm2 an2 cd2 ct2), sl2⟩) (c2 : PySem.W.codeIn K cd2 "is_value" = true) (k2 : PySem.W.keepIn K (.ref f2) = true)
    (a3 : PySem.W.nsIn K mainGlobals "domain" = some (some (.ref f3))) (l3 : K.lookup f3 = some ⟨oc3, od3, .func (PySem.W.fnOf "domain" "domain" (defArgs s_domain) (defBody s_domain) (defScope s_domain) .none kV3 dc3 pm3 an3 cd3 ct3), sl3⟩) (c3 : PySem.W.codeIn K cd3 "domain" = true) (k3 : PySem.W.keepIn K (.ref f3) = true)
    (a4 : PySem.W.nsIn K mainGlobals "values" = some (some (.ref f4))) (l4 : K.lookup f4 = some ⟨oc4, od4, .func (PySem.W.fnOf "values" "values" (defArgs s_values) (defBody s_values) (defScope s_values) .none kV4 dc4 pm4 an4 cd4 ct4), sl4⟩) (c4 : PySem.W.codeIn K cd4 "values" = true) (k4 : PySem.W.keepIn K (.ref f4) = true)
    (a5 : PySem.W.nsIn K mainGlobals "meet" = some (some (.ref f5))) (l5 : K.lookup f5 = some ⟨oc5, od5, .func (PySem.W.fnOf "meet" "meet" (defArgs s_meet) (defBody s_meet) (defScope s_meet) .none kV5 dc5 pm5 an5 cd5 ct5), sl5⟩) (c5 : PySem.W.codeIn K cd5 "meet" = true) (k5 : PySem.W.keepIn K (.ref f5) = true)
    (a6 : PySem.W.nsIn K mainGlobals "without" = some (some (.ref f6))) (l6 : K.lookup f6 = some ⟨oc6, od6, .func (PySem.W.fnOf "without" "without" (defArgs s_without) (defBody s_without) (defScope s_without) .none kV6 dc6 pm6 an6 cd6 ct6), sl6⟩) (c6 : PySem.W.codeIn K cd6 "without" = true) (k6 : PySem.W.keepIn K (.ref f6) = true)
    (a7 : PySem.W.nsIn K mainGlobals "is_interval" = some (some (.ref f7))) (l7 : K.lookup f7 = some ⟨oc7, od7, .func (PySem.W.fnOf "is_interval" "is_interval" (defArgs s_is_interval) (defBody s_is_interval) (defScope s_is_interval) .none kV7 dc7 pm7 an7 cd7 ct7), sl7⟩) (c7 : PySem.W.codeIn K cd7 "is_interval" = true) (k7 : PySem.W.keepIn K (.ref f7) = true)
    (a8 : PySem.W.nsIn K mainGlobals "is_domain" = some (some (.ref f8))) (l8 : K.lookup f8 = some ⟨oc8, od8, .func (PySem.W.fnOf "is_domain" "is_domain" (defArgs s_is_domain) (defBody s_is_domain) (defScope s_is_domain) .none kV8 dc8 pm8 an8 cd8 ct8), sl8⟩) (c8 : PySem.W.codeIn K cd8 "is_domain" = true) (k8 : PySem.W.keepIn K (.ref f8) = true)
    (a9 : PySem.W.nsIn K mainGlobals "_law_stream" = some (some (.ref f9))) (l9 : K.lookup f9 = some ⟨oc9, od9, .func (PySem.W.fnOf "_law_stream" "_law_stream" (defArgs s__law_stream) (defBody s__law_stream) (defScope s__law_stream) .none kV9 dc9 pm9 an9 cd9 ct9), sl9⟩) (c9 : PySem.W.codeIn K cd9 "_law_stream" = true) (k9 : PySem.W.keepIn K (.ref f9) = true)
    (a10 : PySem.W.nsIn K mainGlobals "_law_draw" = some (some (.ref f10))) (l10 : K.lookup f10 = some ⟨oc10, od10, .func (PySem.W.fnOf "_law_draw" "_law_draw" (defArgs s__law_draw) (defBody s__law_draw) (defScope s__law_draw) .none kV10 dc10 pm10 an10 cd10 ct10), sl10⟩) (c10 : PySem.W.codeIn K cd10 "_law_draw" = true) (k10 : PySem.W.keepIn K (.ref f10) = true)
    (a11 : PySem.W.nsIn K mainGlobals "_law_is_integer" = some (some (.ref f11))) (l11 : K.lookup f11 = some ⟨oc11, od11, .func (PySem.W.fnOf "_law_is_integer" "_law_is_integer" (defArgs s__law_is_integer) (defBody s__law_is_integer) (defScope s__law_is_integer) .none kV11 dc11 pm11 an11 cd11 ct11), sl11⟩) (c11 : PySem.W.codeIn K cd11 "_law_is_integer" = true) (k11 : PySem.W.keepIn K (.ref f11) = true)
    (a12 : PySem.W.nsIn K mainGlobals "_law_domain" = some (some (.ref f12))) (l12 : K.lookup f12 = some ⟨oc12, od12, .func (PySem.W.fnOf "_law_domain" "_law_domain" (defArgs s__law_domain) (defBody s__law_domain) (defScope s__law_domain) .none kV12 dc12 pm12 an12 cd12 ct12), sl12⟩) (c12 : PySem.W.codeIn K cd12 "_law_domain" = true) (k12 : PySem.W.keepIn K (.ref f12) = true)
    (a13 : PySem.W.nsIn K mainGlobals "_law_values" = some (some (.ref f13))) (l13 : K.lookup f13 = some ⟨oc13, od13, .func (PySem.W.fnOf "_law_values" "_law_values" (defArgs s__law_values) (defBody s__law_values) (defScope s__law_values) .none kV13 dc13 pm13 an13 cd13 ct13), sl13⟩) (c13 : PySem.W.codeIn K cd13 "_law_values" = true) (k13 : PySem.W.keepIn K (.ref f13) = true)
    (a14 : PySem.W.nsIn K mainGlobals "_law_list" = some (some (.ref f14))) (l14 : K.lookup f14 = some ⟨oc14, od14, .func (PySem.W.fnOf "_law_list" "_law_list" (defArgs s__law_list) (defBody s__law_list) (defScope s__law_list) .none kV14 dc14 pm14 an14 cd14 ct14), sl14⟩) (c14 : PySem.W.codeIn K cd14 "_law_list" = true) (k14 : PySem.W.keepIn K (.ref f14) = true)
    (a15 : PySem.W.nsIn K mainGlobals "_law_value" = some (some (.ref f15))) (l15 : K.lookup f15 = some ⟨oc15, od15, .func (PySem.W.fnOf "_law_value" "_law_value" (defArgs s__law_value) (defBody s__law_value) (defScope s__law_value) .none kV15 dc15 pm15 an15 cd15 ct15), sl15⟩) (c15 : PySem.W.codeIn K cd15 "_law_value" = true) (k15 : PySem.W.keepIn K (.ref f15) = true)
    (a16 : PySem.W.nsIn K mainGlobals "_law_strange" = some (some (.ref f16))) (l16 : K.lookup f16 = some ⟨oc16, od16, .func (PySem.W.fnOf "_law_strange" "_law_strange" (defArgs s__law_strange) (defBody s__law_strange) (defScope s__law_strange) .none kV16 dc16 pm16 an16 cd16 ct16), sl16⟩) (c16 : PySem.W.codeIn K cd16 "_law_strange" = true) (k16 : PySem.W.keepIn K (.ref f16) = true)
    (a17 : PySem.W.nsIn K mainGlobals "_law_is_end" = some (some (.ref f17))) (l17 : K.lookup f17 = some ⟨oc17, od17, .func (PySem.W.fnOf "_law_is_end" "_law_is_end" (defArgs s__law_is_end) (defBody s__law_is_end) (defScope s__law_is_end) .none kV17 dc17 pm17 an17 cd17 ct17), sl17⟩) (c17 : PySem.W.codeIn K cd17 "_law_is_end" = true) (k17 : PySem.W.keepIn K (.ref f17) = true)
    (a18 : PySem.W.nsIn K mainGlobals "_law_is_domain" = some (some (.ref f18))) (l18 : K.lookup f18 = some ⟨oc18, od18, .func (PySem.W.fnOf "_law_is_domain" "_law_is_domain" (defArgs s__law_is_domain) (defBody s__law_is_domain) (defScope s__law_is_domain) .none kV18 dc18 pm18 an18 cd18 ct18), sl18⟩) (c18 : PySem.W.codeIn K cd18 "_law_is_domain" = true) (k18 : PySem.W.keepIn K (.ref f18) = true)
    (a19 : PySem.W.nsIn K mainGlobals "law" = some (some (.ref f19))) (l19 : K.lookup f19 = some ⟨oc19, od19, .func (PySem.W.fnOf "law" "law" (defArgs s_law) (defBody s_law) (defScope s_law) .none kV19 dc19 pm19 an19 cd19 ct19), sl19⟩) (c19 : PySem.W.codeIn K cd19 "law" = true) (k19 : PySem.W.keepIn K (.ref f19) = true)
    {C0 : Addr} (aC0 : PySem.W.nsIn K mainGlobals "BadProblem" = some (some (.ref C0))) (xC0 : PySem.W.excIn K C0 [.type "ValueError", .type "Exception", .type "BaseException", .type "object"] "ValueError.__new__" = true) (kC0 : PySem.W.keepIn K (.ref C0) = true) (bC0 : PySem.W.subIn K (.ref C0) (.type "BaseException") = some true) (tC0 : PySem.W.typeIn K (.ref C0) = some (.type "type")) (iC0 : PySem.W.isClsIn K C0 = true)
    (sC0 : PySem.W.subIn K (.ref C0) (.ref C0) = some true)
    (z0 : PySem.W.nsIn K mainGlobals "abs" = some none)
    (z1 : PySem.W.nsIn K mainGlobals "all" = some none)
    (z2 : PySem.W.nsIn K mainGlobals "bool" = some none)
    (z3 : PySem.W.nsIn K mainGlobals "int" = some none)
    (z4 : PySem.W.nsIn K mainGlobals "isinstance" = some none)
    (z5 : PySem.W.nsIn K mainGlobals "len" = some none)
    (z6 : PySem.W.nsIn K mainGlobals "list" = some none)
    (z7 : PySem.W.nsIn K mainGlobals "max" = some none)
    (z8 : PySem.W.nsIn K mainGlobals "min" = some none)
    (z9 : PySem.W.nsIn K mainGlobals "range" = some none)
    (z10 : PySem.W.nsIn K mainGlobals "sorted" = some none)
    (z11 : PySem.W.nsIn K mainGlobals "tuple" = some none)
    (z12 : PySem.W.nsIn K mainGlobals "zip" = some none)
    (y0 : PySem.W.nsIn K mainGlobals "LOWEST" = some (some (.int (-50) tk0)))
    (y1 : PySem.W.nsIn K mainGlobals "HIGHEST" = some (some (.int 50 tk1)))
    : ∃ fd : FuncData, (∀ (s : Shared) (v : Value), BindsTo s fd ⟨[v], []⟩ [("script", v)]) ∧ ∀ base : Heap, K.In base → base.Ns mainGlobals mg → FnOk l.prog w K mg base CX0 5 fa fd ["script"] (sp_law K) := by
  have e := hfa.symm.trans (PySem.W.mg_of X G a19)
  cases e
  have F1 := fun_mk (st := s_is_integer) l1 c1 k1
  have b1 := F1.binds (ps := ["value"]) fun _ _ _ _ _ _ us hl => match us, hl with | [_], _ => rfl
  have F2 := fun_mk (st := s_is_value) l2 c2 k2
  have b2 := F2.binds (ps := ["value"]) fun _ _ _ _ _ _ us hl => match us, hl with | [_], _ => rfl
  have F3 := fun_mk (st := s_domain) l3 c3 k3
  have b3 := F3.binds (ps := ["values"]) fun _ _ _ _ _ _ us hl => match us, hl with | [_], _ => rfl
  have F4 := fun_mk (st := s_values) l4 c4 k4
  have b4 := F4.binds (ps := ["given"]) fun _ _ _ _ _ _ us hl => match us, hl with | [_], _ => rfl
  have F5 := fun_mk (st := s_meet) l5 c5 k5
  have b5 := F5.binds (ps := ["first", "second"]) fun _ _ _ _ _ _ us hl => match us, hl with | [_, _], _ => rfl
  have F6 := fun_mk (st := s_without) l6 c6 k6
  have b6 := F6.binds (ps := ["given", "value"]) fun _ _ _ _ _ _ us hl => match us, hl with | [_, _], _ => rfl
  have F7 := fun_mk (st := s_is_interval) l7 c7 k7
  have b7 := F7.binds (ps := ["value"]) fun _ _ _ _ _ _ us hl => match us, hl with | [_], _ => rfl
  have F8 := fun_mk (st := s_is_domain) l8 c8 k8
  have b8 := F8.binds (ps := ["value"]) fun _ _ _ _ _ _ us hl => match us, hl with | [_], _ => rfl
  have F9 := fun_mk (st := s__law_stream) l9 c9 k9
  have b9 := F9.binds (ps := ["script"]) fun _ _ _ _ _ _ us hl => match us, hl with | [_], _ => rfl
  have F10 := fun_mk (st := s__law_draw) l10 c10 k10
  have b10 := F10.binds (ps := ["stream", "many"]) fun _ _ _ _ _ _ us hl => match us, hl with | [_, _], _ => rfl
  have F11 := fun_mk (st := s__law_is_integer) l11 c11 k11
  have b11 := F11.binds (ps := ["value"]) fun _ _ _ _ _ _ us hl => match us, hl with | [_], _ => rfl
  have F12 := fun_mk (st := s__law_domain) l12 c12 k12
  have b12 := F12.binds (ps := ["given"]) fun _ _ _ _ _ _ us hl => match us, hl with | [_], _ => rfl
  have F13 := fun_mk (st := s__law_values) l13 c13 k13
  have b13 := F13.binds (ps := ["given"]) fun _ _ _ _ _ _ us hl => match us, hl with | [_], _ => rfl
  have F14 := fun_mk (st := s__law_list) l14 c14 k14
  have b14 := F14.binds (ps := ["stream"]) fun _ _ _ _ _ _ us hl => match us, hl with | [_], _ => rfl
  have F15 := fun_mk (st := s__law_value) l15 c15 k15
  have b15 := F15.binds (ps := ["stream"]) fun _ _ _ _ _ _ us hl => match us, hl with | [_], _ => rfl
  have F16 := fun_mk (st := s__law_strange) l16 c16 k16
  have b16 := F16.binds (ps := ["stream"]) fun _ _ _ _ _ _ us hl => match us, hl with | [_], _ => rfl
  have F17 := fun_mk (st := s__law_is_end) l17 c17 k17
  have b17 := F17.binds (ps := ["value"]) fun _ _ _ _ _ _ us hl => match us, hl with | [_], _ => rfl
  have F18 := fun_mk (st := s__law_is_domain) l18 c18 k18
  have b18 := F18.binds (ps := ["value"]) fun _ _ _ _ _ _ us hl => match us, hl with | [_], _ => rfl
  have F19 := fun_mk (st := s_law) l19 c19 k19
  have E : Bi K mg := ⟨(by rw [clsA_of aC0]; exact ⟨PySem.W.mg_of X G aC0, xC0, kC0, bC0, tC0, iC0⟩), (by rw [clsA_of aC0]; exact exm_pair bC0 iC0 tC0 sC0), PySem.W.mg_none_of X G z0, PySem.W.mg_none_of X G z1, PySem.W.mg_none_of X G z2, PySem.W.mg_none_of X G z3, PySem.W.mg_none_of X G z4, PySem.W.mg_none_of X G z5, PySem.W.mg_none_of X G z6, PySem.W.mg_none_of X G z7, PySem.W.mg_none_of X G z8, PySem.W.mg_none_of X G z9, PySem.W.mg_none_of X G z10, PySem.W.mg_none_of X G z11, PySem.W.mg_none_of X G z12, ⟨_, PySem.W.mg_of X G y0, ⟨_, rfl⟩⟩, ⟨_, PySem.W.mg_of X G y1, ⟨_, rfl⟩⟩⟩
  refine ⟨PySem.W.fnOf "law" "law" (defArgs s_law) (defBody s_law) (defScope s_law) .none kV19 dc19 pm19 an19 cd19 ct19, fun s v => .of_eq rfl, fun base _ _ => ?_⟩
  have D1 : Has l.prog w K mg base 1 "is_integer" ["value"] (sp_is_integer K) := ⟨_, _, ok_is_integer F1 E , PySem.W.mg_of X G a1, k1, b1⟩
  have D4 : Has l.prog w K mg base 1 "values" ["given"] (sp_values K) := ⟨_, _, ok_values F4 E , PySem.W.mg_of X G a4, k4, b4⟩
  have D9 : Has l.prog w K mg base 1 "_law_stream" ["script"] (sp__law_stream K) := ⟨_, _, ok__law_stream F9 E , PySem.W.mg_of X G a9, k9, b9⟩
  have D10 : Has l.prog w K mg base 1 "_law_draw" ["stream", "many"] (sp__law_draw K) := ⟨_, _, ok__law_draw F10 E , PySem.W.mg_of X G a10, k10, b10⟩
  have D11 : Has l.prog w K mg base 1 "_law_is_integer" ["value"] (sp__law_is_integer K) := ⟨_, _, ok__law_is_integer F11 E , PySem.W.mg_of X G a11, k11, b11⟩
  have D12 : Has l.prog w K mg base 1 "_law_domain" ["given"] (sp__law_domain K) := ⟨_, _, ok__law_domain F12 E , PySem.W.mg_of X G a12, k12, b12⟩
  have D13 : Has l.prog w K mg base 1 "_law_values" ["given"] (sp__law_values K) := ⟨_, _, ok__law_values F13 E , PySem.W.mg_of X G a13, k13, b13⟩
  have D2 : Has l.prog w K mg base 2 "is_value" ["value"] (sp_is_value K) := ⟨_, _, ok_is_value F2 E D1, PySem.W.mg_of X G a2, k2, b2⟩
  have D14 : Has l.prog w K mg base 2 "_law_list" ["stream"] (sp__law_list K) := ⟨_, _, ok__law_list F14 E D10, PySem.W.mg_of X G a14, k14, b14⟩
  have D15 : Has l.prog w K mg base 2 "_law_value" ["stream"] (sp__law_value K) := ⟨_, _, ok__law_value F15 E D10, PySem.W.mg_of X G a15, k15, b15⟩
  have D17 : Has l.prog w K mg base 2 "_law_is_end" ["value"] (sp__law_is_end K) := ⟨_, _, ok__law_is_end F17 E D11, PySem.W.mg_of X G a17, k17, b17⟩
  have D3 : HasX l.prog w K mg base 3 "domain" ["values"] (sp_domain K) := ⟨_, _, ok_domain F3 E D2, PySem.W.mg_of X G a3, k3, b3⟩
  have D7 : Has l.prog w K mg base 3 "is_interval" ["value"] (sp_is_interval K) := ⟨_, _, ok_is_interval F7 E D2, PySem.W.mg_of X G a7, k7, b7⟩
  have D16 : Has l.prog w K mg base 3 "_law_strange" ["stream"] (sp__law_strange K) := ⟨_, _, ok__law_strange F16 E D10 D15, PySem.W.mg_of X G a16, k16, b16⟩
  have D18 : Has l.prog w K mg base 3 "_law_is_domain" ["value"] (sp__law_is_domain K) := ⟨_, _, ok__law_is_domain F18 E D17, PySem.W.mg_of X G a18, k18, b18⟩
  have D5 : Has l.prog w K mg base 4 "meet" ["first", "second"] (sp_meet K) := ⟨_, _, ok_meet F5 E D4 D3, PySem.W.mg_of X G a5, k5, b5⟩
  have D6 : Has l.prog w K mg base 4 "without" ["given", "value"] (sp_without K) := ⟨_, _, ok_without F6 E D3 D4, PySem.W.mg_of X G a6, k6, b6⟩
  have D8 : Has l.prog w K mg base 4 "is_domain" ["value"] (sp_is_domain K) := ⟨_, _, ok_is_domain F8 E D7, PySem.W.mg_of X G a8, k8, b8⟩
  exact ok_law F19 E D9 D14 D12 D4 D13 D3 D5 D10 D6 D16 D8 D18
end My
open PySem PySem.W PyProof.Rows
set_option maxRecDepth 100000 in
set_option maxHeartbeats 0 in
theorem PySem.Challenge.cw_hornbook_k54_domains_holds : PySem.Challenge.rw_hornbook_k54_domains.Holds := by
  w_on; o_law; k_head; (case hw => w_witness2)
  k_fill
  refine L2.walk_of (l := PySem.Challenge.rw_hornbook_k54_domains) (n := 63) (k := 5) (x := "script") (CX := fun _ => L2.CX0) (sp := fun w => My.sp_law _) rfl (by decide) rfl ⟨rfl, by decide, by decide⟩ (fun w h Y => PySem.W.kIn_of Y) ?F (fun _ _ a ns hl _ hS => ⟨a, ns, rfl, hS, hl, fun _ => rfl⟩) (fun _ _ _ _ _ h => h)
  case F =>
    intro w mg fa h KX G hmg
    refine' My.all_mk KX G hmg ?a1 ?l1 ?c1 ?k1 ?a2 ?l2 ?c2 ?k2 ?a3 ?l3 ?c3 ?k3 ?a4 ?l4 ?c4 ?k4 ?a5 ?l5 ?c5 ?k5 ?a6 ?l6 ?c6 ?k6 ?a7 ?l7 ?c7 ?k7 ?a8 ?l8 ?c8 ?k8 ?a9 ?l9 ?c9 ?k9 ?a10 ?l10 ?c10 ?k10 ?a11 ?l11 ?c11 ?k11 ?a12 ?l12 ?c12 ?k12 ?a13 ?l13 ?c13 ?k13 ?a14 ?l14 ?c14 ?k14 ?a15 ?l15 ?c15 ?k15 ?a16 ?l16 ?c16 ?k16 ?a17 ?l17 ?c17 ?k17 ?a18 ?l18 ?c18 ?k18 ?a19 ?l19 ?c19 ?k19 ?aC0 ?xC0 ?kC0 ?bC0 ?tC0 ?iC0 ?sC0 ?z0 ?z1 ?z2 ?z3 ?z4 ?z5 ?z6 ?z7 ?z8 ?z9 ?z10 ?z11 ?z12 ?y0 ?y1
    (case a1 => k_is)
    (case l1 => k_is)
    (case c1 => k_is)
    (case k1 => k_is)
    (case a2 => k_is)
    (case l2 => k_is)
    (case c2 => k_is)
    (case k2 => k_is)
    (case a3 => k_is)
    (case l3 => k_is)
    (case c3 => k_is)
    (case k3 => k_is)
    (case a4 => k_is)
    (case l4 => k_is)
    (case c4 => k_is)
    (case k4 => k_is)
    (case a5 => k_is)
    (case l5 => k_is)
    (case c5 => k_is)
    (case k5 => k_is)
    (case a6 => k_is)
    (case l6 => k_is)
    (case c6 => k_is)
    (case k6 => k_is)
    (case a7 => k_is)
    (case l7 => k_is)
    (case c7 => k_is)
    (case k7 => k_is)
    (case a8 => k_is)
    (case l8 => k_is)
    (case c8 => k_is)
    (case k8 => k_is)
    (case a9 => k_is)
    (case l9 => k_is)
    (case c9 => k_is)
    (case k9 => k_is)
    (case a10 => k_is)
    (case l10 => k_is)
    (case c10 => k_is)
    (case k10 => k_is)
    (case a11 => k_is)
    (case l11 => k_is)
    (case c11 => k_is)
    (case k11 => k_is)
    (case a12 => k_is)
    (case l12 => k_is)
    (case c12 => k_is)
    (case k12 => k_is)
    (case a13 => k_is)
    (case l13 => k_is)
    (case c13 => k_is)
    (case k13 => k_is)
    (case a14 => k_is)
    (case l14 => k_is)
    (case c14 => k_is)
    (case k14 => k_is)
    (case a15 => k_is)
    (case l15 => k_is)
    (case c15 => k_is)
    (case k15 => k_is)
    (case a16 => k_is)
    (case l16 => k_is)
    (case c16 => k_is)
    (case k16 => k_is)
    (case a17 => k_is)
    (case l17 => k_is)
    (case c17 => k_is)
    (case k17 => k_is)
    (case a18 => k_is)
    (case l18 => k_is)
    (case c18 => k_is)
    (case k18 => k_is)
    (case a19 => k_is)
    (case l19 => k_is)
    (case c19 => k_is)
    (case k19 => k_is)
    (case aC0 => k_is)
    (case xC0 => k_exc)
    (case kC0 => k_is)
    (case bC0 => k_is)
    (case tC0 => k_is)
    (case iC0 => k_is)
    (case sC0 => first | rfl | k_is)
    (case z0 => k_is)
    (case z1 => k_is)
    (case z2 => k_is)
    (case z3 => k_is)
    (case z4 => k_is)
    (case z5 => k_is)
    (case z6 => k_is)
    (case z7 => k_is)
    (case z8 => k_is)
    (case z9 => k_is)
    (case z10 => k_is)
    (case z11 => k_is)
    (case z12 => k_is)
    (case y0 => k_is)
    (case y1 => k_is)
