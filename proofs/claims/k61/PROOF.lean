import PyProof.Rows.All
import Wide.All
import OpenK.AllK
import Wide.FinOn
import HandS.ForMost
import HandS.IsInst
import HandS.Wide
import HandS.Codes
import HandS.Style
import HandS.TupLe
import HandS.TupAny
import HandS.EndBits
import HandS.Walk
import HandS.Zip
import KE.LtData
import HandS.SetKeys
import HandS.WordsDict
import HandS.DictComp
import HandS.More
import HandS.Conv
import HandS.Deep
import HandS.Replace
import PySem.Challenge.RW_hornbook_k61_reads_and_writes
set_option Elab.async false
set_option linter.all false
set_option maxRecDepth 100000
set_option maxHeartbeats 4000000
set_option exponentiation.threshold 10000
namespace My
open PySem PySem.Spec PyProof.Rows L2
/-- a def of the text that keeps a promise, as its callers want it -/
def Has (P : Program) (w : World) (K : PySem.W.Frag) (mg : Str → Option Value) (base : Heap) (k : Nat) (x : Str) (ps : List Str) (sp : Sp) : Prop :=
  ∃ (f : Addr) (fd : FuncData), FnOk P w K mg base CX0 k f fd ps sp ∧ mg x = some (.ref f) ∧ PySem.W.keepIn K (.ref f) = true ∧ Binds K fd ps []
theorem same_upd {H : Hp} {p : Addr} {o : HO} (h : H p = none) : Same H (upd H p o) := fun b x e => by
  rw [upd_ne (ne_of_none e h)]
  exact e
/-- all but the object at s is as it was -/
def But (s : Addr) (H H' : Hp) : Prop := ∀ b o, b ≠ s → H b = some o → H' b = some o
theorem But.refl (s : Addr) (H : Hp) : But s H H := fun _ _ _ e => e
theorem But.trans {s : Addr} {H H1 H2 : Hp} (a : But s H H1) (b : But s H1 H2) : But s H H2 := fun c o hc e => b c o hc (a c o hc e)
theorem But.of {s : Addr} {H H' : Hp} (a : Same H H') : But s H H' := fun b o _ e => a b o e
theorem But.put {s : Addr} {H : Hp} {o : HO} : But s H (upd H s o) := fun b u hb e => by rw [upd_ne hb]; exact e
/-! ### what a value is -/
mutual
inductive Im (K : PySem.W.Frag) (G : Addr → Prop) (H : Hp) : V → PyData → Prop
  | non : Im K G H .non .none
  | bl (b : Bool) : Im K G H (.bl b) (.bool b)
  | int (i : Int) : Im K G H (.int i) (.int i)
  | str (x : Str) : Im K G H (.str x) (.str x)
  | lst {a : Addr} {xs : List V} {ds : List PyData} : G a → H a = some (.lst xs) → ImAll K G H xs ds → Im K G H (.ref a) (.list ds)
  | tup {a : Addr} {xs : List V} {ds : List PyData} : G a → H a = some (.tup xs) → ImAll K G H xs ds → Im K G H (.ref a) (.tuple ds)
inductive ImAll (K : PySem.W.Frag) (G : Addr → Prop) (H : Hp) : List V → List PyData → Prop
  | nil : ImAll K G H [] []
  | cons {v : V} {vs : List V} {d : PyData} {ds : List PyData} : Im K G H v d → ImAll K G H vs ds → ImAll K G H (v :: vs) (d :: ds)
end
section
variable {K : PySem.W.Frag} {G G' : Addr → Prop} {H H' : Hp}
mutual
theorem Im.mono (hH : ∀ b o, G b → H b = some o → H' b = some o) (hG : ∀ b, G b → G' b) : ∀ (d : PyData) (v : V), Im K G H v d → Im K G' H' v d
  | .none, _, h => by cases h; exact .non
  | .bool b, _, h => by cases h; exact .bl b
  | .int i, _, h => by cases h; exact .int i
  | .str x, _, h => by cases h; exact .str x
  | .list ds, _, h => by
    cases h with
    | lst g e ha => exact .lst (hG _ g) (hH _ _ g e) (Im.monoAll hH hG ds _ ha)
  | .tuple ds, _, h => by
    cases h with
    | tup g e ha => exact .tup (hG _ g) (hH _ _ g e) (Im.monoAll hH hG ds _ ha)
  | .dict _, _, h => by cases h
theorem Im.monoAll (hH : ∀ b o, G b → H b = some o → H' b = some o) (hG : ∀ b, G b → G' b) : ∀ (ds : List PyData) (vs : List V), ImAll K G H vs ds → ImAll K G' H' vs ds
  | [], _, h => by cases h; exact .nil
  | d :: ds, _, h => by
    cases h with
    | cons h1 h2 => exact .cons (Im.mono hH hG d _ h1) (Im.monoAll hH hG ds _ h2)
end
mutual
theorem Im.dp : ∀ (d : PyData) (v : V), Im K G H v d → Dp K H v d
  | .none, _, h => by cases h; exact .non
  | .bool b, _, h => by cases h; exact .bl b
  | .int i, _, h => by cases h; exact .int i
  | .str x, _, h => by cases h; exact .str x
  | .list ds, _, h => by
    cases h with
    | lst g e ha => exact .lst (SqL.of e) (Im.dpAll ds _ ha)
  | .tuple ds, _, h => by
    cases h with
    | tup g e ha => exact .tup (SqT.of e) (Im.dpAll ds _ ha)
  | .dict _, _, h => by cases h
theorem Im.dpAll : ∀ (ds : List PyData) (vs : List V), ImAll K G H vs ds → DpAll K H vs ds
  | [], _, h => by cases h; exact .nil
  | d :: ds, _, h => by
    cases h with
    | cons h1 h2 => exact .cons (Im.dp d _ h1) (Im.dpAll ds _ h2)
end
theorem ImAll.len : ∀ {vs : List V} {ds : List PyData}, ImAll K G H vs ds → vs.length = ds.length
  | _, _, .nil => rfl
  | _, _, .cons _ t => congrArg (· + 1) (ImAll.len t)
theorem ImAll.get : ∀ {vs : List V} {ds : List PyData} {i : Nat} {d : PyData}, ImAll K G H vs ds → ds[i]? = some d → ∃ v, vs[i]? = some v ∧ Im K G H v d
  | _, _, _, _, .nil, e => by simp at e
  | _, _, 0, _, .cons r _, e => by simp at e; subst e; exact ⟨_, rfl, r⟩
  | _, _, i + 1, _, .cons _ t, e => by
    obtain ⟨u, h1, h2⟩ := ImAll.get (i := i) t (by simpa using e)
    exact ⟨u, by simpa using h1, h2⟩
theorem ImAll.getV : ∀ {vs : List V} {ds : List PyData} {i : Nat} {v : V}, ImAll K G H vs ds → vs[i]? = some v → ∃ d, ds[i]? = some d ∧ Im K G H v d
  | _, _, _, _, .nil, e => by simp at e
  | _, _, 0, _, .cons r _, e => by simp at e; subst e; exact ⟨_, rfl, r⟩
  | _, _, i + 1, _, .cons _ t, e => by
    obtain ⟨u, h1, h2⟩ := ImAll.getV (i := i) t (by simpa using e)
    exact ⟨u, by simpa using h1, h2⟩
theorem ImAll.snoc : ∀ {vs : List V} {ds : List PyData} {v : V} {d : PyData}, ImAll K G H vs ds → Im K G H v d → ImAll K G H (vs ++ [v]) (ds ++ [d])
  | _, _, _, _, .nil, r => .cons r .nil
  | _, _, _, _, .cons q t, r => .cons q (ImAll.snoc t r)
theorem ImAll.app : ∀ {vs : List V} {ds : List PyData} {us : List V} {es : List PyData}, ImAll K G H vs ds → ImAll K G H us es → ImAll K G H (vs ++ us) (ds ++ es)
  | _, _, _, _, .nil, r => r
  | _, _, _, _, .cons q t, r => .cons q (ImAll.app t r)
end
section
variable {K : PySem.W.Frag} {H : Hp}
theorem DpAll.len : ∀ {vs : List V} {ds : List PyData}, DpAll K H vs ds → vs.length = ds.length
  | _, _, .nil => rfl
  | _, _, .cons _ t => congrArg (· + 1) (DpAll.len t)
theorem DpAll.get : ∀ {vs : List V} {ds : List PyData} {i : Nat} {d : PyData}, DpAll K H vs ds → ds[i]? = some d → ∃ v, vs[i]? = some v ∧ Dp K H v d
  | _, _, _, _, .nil, e => by simp at e
  | _, _, 0, _, .cons r _, e => by simp at e; subst e; exact ⟨_, rfl, r⟩
  | _, _, i + 1, _, .cons _ t, e => by
    obtain ⟨u, h1, h2⟩ := DpAll.get (i := i) t (by simpa using e)
    exact ⟨u, by simpa using h1, h2⟩
/-- the name of a value's class -/
def tyN : PyData → String
  | .none => "NoneType" | .bool _ => "bool" | .int _ => "int" | .str _ => "str" | .list _ => "list" | .tuple _ => "tuple" | .dict _ => "dict"
theorem tyx_of : ∀ {x : V} {d : PyData}, Dp K H x d → TyX K H x (.type (tyN d))
  | _, _, .non => .base .non
  | _, _, .bl b => .base (.bl b)
  | _, _, .int i => .base (.int i)
  | _, _, .str x => .base (.str x)
  | _, _, .lst h _ => by
    rcases h with (h | ⟨o, h⟩) | ⟨o, its, n, hk, hc, _⟩
    · exact .base (.lst h)
    · exact .base (.frz h)
    · exact .kList hk hc
  | _, _, .tup h _ => by
    rcases h with (h | ⟨o, h⟩) | ⟨o, its, n, hk, hc, _⟩
    · exact .base (.tup h)
    · exact .fTuple h
    · exact .kTuple hk hc
def isI : PyData → Bool
  | .int _ => true | .bool _ => true | _ => false
def isB : PyData → Bool
  | .bool _ => true | _ => false
def isS : PyData → Bool
  | .str _ => true | _ => false
def isT : PyData → Bool
  | .tuple _ => true | _ => false
def isL : PyData → Bool
  | .list _ => true | _ => false
theorem kitI (d : PyData) : kitB (tyN d) "int" = some (isI d) := by cases d <;> (show kitB _ "int" = _; simp only [tyN, isI]; decide +kernel)
theorem kitBo (d : PyData) : kitB (tyN d) "bool" = some (isB d) := by cases d <;> (show kitB _ "bool" = _; simp only [tyN, isB]; decide +kernel)
theorem kitS (d : PyData) : kitB (tyN d) "str" = some (isS d) := by cases d <;> (show kitB _ "str" = _; simp only [tyN, isS]; decide +kernel)
theorem kitT (d : PyData) : kitB (tyN d) "tuple" = some (isT d) := by cases d <;> (show kitB _ "tuple" = _; simp only [tyN, isT]; decide +kernel)
theorem kitL (d : PyData) : kitB (tyN d) "list" = some (isL d) := by cases d <;> (show kitB _ "list" = _; simp only [tyN, isL]; decide +kernel)
theorem isi_int {x : V} {d : PyData} {Q : VK} (h : Dp K H x d) (q : Q (.bl (isI d)) H) : rIsi K [x, .ty "int"] H Q := ⟨x, .ty "int", _, _, _, rfl, .ty _, tyx_of h, kit_ty (kitI d), q⟩
theorem isi_bool {x : V} {d : PyData} {Q : VK} (h : Dp K H x d) (q : Q (.bl (isB d)) H) : rIsi K [x, .ty "bool"] H Q := ⟨x, .ty "bool", _, _, _, rfl, .ty _, tyx_of h, kit_ty (kitBo d), q⟩
theorem isi_str {x : V} {d : PyData} {Q : VK} (h : Dp K H x d) (q : Q (.bl (isS d)) H) : rIsi K [x, .ty "str"] H Q := ⟨x, .ty "str", _, _, _, rfl, .ty _, tyx_of h, kit_ty (kitS d), q⟩
theorem isi_tup {x : V} {d : PyData} {Q : VK} (h : Dp K H x d) (q : Q (.bl (isT d)) H) : rIsi K [x, .ty "tuple"] H Q := ⟨x, .ty "tuple", _, _, _, rfl, .ty _, tyx_of h, kit_ty (kitT d), q⟩
theorem isi_list {x : V} {d : PyData} {Q : VK} (h : Dp K H x d) (q : Q (.bl (isL d)) H) : rIsi K [x, .ty "list"] H Q := ⟨x, .ty "list", _, _, _, rfl, .ty _, tyx_of h, kit_ty (kitL d), q⟩
end
/-! ### the stream of draws -/
structure Stm (H : Hp) (s l : Addr) : Prop where
  ex : ∃ (a b m : Int) (ns : List Int), H s = some (.lst [.ref l, .int a, .int b, .int m]) ∧ H l = some (.lst (ns.map V.int)) ∧ ns.length ≤ 63 ∧ 0 ≤ a ∧ 0 ≤ b ∧ 0 ≤ m ∧ m < 2147483647
theorem Stm.keep {H H' : Hp} {s l : Addr} (h : Stm H s l) (e : Same H H') : Stm H' s l := by
  obtain ⟨a, b, m, ns, h1, h2, r⟩ := h.ex
  exact ⟨a, b, m, ns, e _ _ h1, e _ _ h2, r⟩
/-- another object is changed -/
theorem Stm.put {H : Hp} {s l r : Addr} {o : HO} (h : Stm H s l) (h1 : s ≠ r) (h2 : l ≠ r) : Stm (upd H r o) s l := by
  obtain ⟨a, b, m, ns, e1, e2, q⟩ := h.ex
  exact ⟨a, b, m, ns, by rw [upd_ne h1]; exact e1, by rw [upd_ne h2]; exact e2, q⟩
theorem Stm.at_s {H : Hp} {s l : Addr} (h : Stm H s l) : ∃ o, H s = some o := by
  obtain ⟨a, b, m, ns, e1, e2, q⟩ := h.ex
  exact ⟨_, e1⟩
theorem Stm.at_l {H : Hp} {s l : Addr} (h : Stm H s l) : ∃ o, H l = some o := by
  obtain ⟨a, b, m, ns, e1, e2, q⟩ := h.ex
  exact ⟨_, e2⟩
/-- a constant of the module -/
def GV (mg : Str → Option Value) (x : Str) (v : V) : Prop := ∃ u, mg x = some u ∧ RelV v u
theorem pe_gC {X : Cx} {x : Str} {v : V} {pos : Pos} (hg : Gl X x) (h : GV X.mg x v) (hd : (x == ("__debug__" : Str)) = false := by decide) : PE X (.Name x pos) (tC v) := by
  obtain ⟨u, e, r⟩ := h
  exact pe_glob hg e r hd

/-! ### 'a' * 40 -/
section
variable {X : Cx}
theorem op_mulS : OpR X (binaryOp .Mult) (fun x y H Q => ∃ z i, x = .str z ∧ y = .int i ∧ MulOk z i ∧ Q (.str (Txt.mul z i)) H) := by
  intro pins s σ H x y v u Q I rx ry h
  obtain ⟨z, i, rfl, rfl, hk, q⟩ := h
  obtain ⟨t, rfl⟩ := rx
  obtain ⟨t', rfl⟩ := ry
  exact SB.mul hk fun t2 k => ⟨.str _, H, I.tok k, ⟨_, rfl⟩, q⟩
end
/-! ### data written out: each part of it is new -/
section
variable {K : PySem.W.Frag}
/-- an expression that makes data and changes nothing else -/
def Lit (K : PySem.W.Frag) (σ : L2.St) (t : TE) (d : PyData) : Prop := ∀ (H : Hp) (Q : VK), (∀ v H', Same H H' → Im K (fun b => H b = Option.none) H' v d → Q v H') → t σ H Q
def LitA (K : PySem.W.Frag) (σ : L2.St) (t : TA) (ds : List PyData) : Prop := ∀ (H : Hp) (Q : List V → Hp → Prop), (∀ vs H', Same H H' → ImAll K (fun b => H b = Option.none) H' vs ds → Q vs H') → t σ H Q
variable {σ : L2.St}
theorem lit_int {i : Int} : Lit K σ (tC (.int i)) (.int i) := fun H Q h => h _ H (Same.refl H) (.int i)
theorem lit_str {x : Str} : Lit K σ (tC (.str x)) (.str x) := fun H Q h => h _ H (Same.refl H) (.str x)
theorem lit_bl {b : Bool} : Lit K σ (tC (.bl b)) (.bool b) := fun H Q h => h _ H (Same.refl H) (.bl b)
theorem lit_non : Lit K σ (tC .non) .none := fun H Q h => h _ H (Same.refl H) .non
theorem litA_nil : LitA K σ tNil [] := fun H Q h => h _ H (Same.refl H) .nil
theorem litA_cons {t : TE} {ta : TA} {d : PyData} {ds : List PyData} (h1 : Lit K σ t d) (h2 : LitA K σ ta ds) : LitA K σ (tCons t ta) (d :: ds) := fun H Q h =>
  h1 H _ fun v H1 s1 i1 => h2 H1 _ fun vs H2 s2 i2 => h _ H2 (s1.trans s2) (.cons (Im.mono (fun b o _ e => s2 b o e) (fun _ e => e) _ _ i1) (Im.monoAll (fun _ _ _ e => e) (fun b e => s1.free e) _ _ i2))
theorem lit_tup {ta : TA} {ds : List PyData} (h1 : LitA K σ ta ds) (hz : ds.length ≤ sizeLine) : Lit K σ (tTup ta) (.tuple ds) := fun H Q h =>
  h1 H _ fun vs H1 s1 i1 => ⟨by rw [i1.len]; exact hz, fun p np => h _ _ (s1.trans (same_upd np)) (.tup (s1.free np) upd_same (Im.monoAll (fun b o _ e => same_upd np b o e) (fun _ e => e) _ _ i1))⟩
theorem lit_lst {ta : TA} {ds : List PyData} (h1 : LitA K σ ta ds) (hz : ds.length ≤ sizeLine) : Lit K σ (tLst ta) (.list ds) := fun H Q h =>
  h1 H _ fun vs H1 s1 i1 => ⟨by rw [i1.len]; exact hz, fun p np => h _ _ (s1.trans (same_upd np)) (.lst (s1.free np) upd_same (Im.monoAll (fun b o _ e => same_upd np b o e) (fun _ e => e) _ _ i1))⟩
/-- what is an int -/
theorem lit_neg {t : TE} {i : Int} (h1 : Lit K σ t (.int i)) : Lit K σ (tUn (rU fun i => .int (-i)) t) (.int (-i)) := fun H Q h =>
  h1 H _ fun v H1 s1 i1 => by
    cases i1
    exact ⟨_, rfl, h _ H1 s1 (.int _)⟩
theorem lit_sub {t u : TE} {i j : Int} (h1 : Lit K σ t (.int i)) (h2 : Lit K σ u (.int j)) : Lit K σ (tOp (rI0 fun i j => .int (i - j)) t u) (.int (i - j)) := fun H Q h =>
  h1 H _ fun v H1 s1 i1 => h2 H1 _ fun v2 H2 s2 i2 => by
    cases i1
    cases i2
    exact ⟨_, _, rfl, rfl, h _ H2 (s1.trans s2) (.int _)⟩
theorem lit_pow {t u : TE} {i j : Int} (h1 : Lit K σ t (.int i)) (h2 : Lit K σ u (.int j)) (hc : CPow i j) : Lit K σ (tOp (rI CPow fun i j => .int (i ^ j.toNat)) t u) (.int (i ^ j.toNat)) := fun H Q h =>
  h1 H _ fun v H1 s1 i1 => h2 H1 _ fun v2 H2 s2 i2 => by
    cases i1
    cases i2
    exact ⟨_, _, rfl, rfl, hc, h _ H2 (s1.trans s2) (.int _)⟩
theorem lit_mulS {t u : TE} {z : Str} {j : Int} (h1 : Lit K σ t (.str z)) (h2 : Lit K σ u (.int j)) (hc : MulOk z j) : Lit K σ (tOp (fun x y H Q => ∃ z i, x = .str z ∧ y = .int i ∧ MulOk z i ∧ Q (.str (Txt.mul z i)) H) t u) (.str (Txt.mul z j)) := fun H Q h =>
  h1 H _ fun v H1 s1 i1 => h2 H1 _ fun v2 H2 s2 i2 => by
    cases i1
    cases i2
    exact ⟨_, _, rfl, rfl, hc, h _ H2 (s1.trans s2) (.str _)⟩
end
section
variable {X : Cx} {pos : Pos}
/-- a built-in class as a value -/
theorem pe_ty {x : Str} (n : String) (hg : Gl X x) (hm : X.mg x = Option.none) (hv : bootBuiltins x = some (.type n)) (hn : x ≠ "__name__" := by decide) (hd : (x == ("__debug__" : Str)) = false := by decide) : PE X (.Name x pos) (tC (.ty n)) :=
  pe_bltn hg hm hv rfl hn hd
end
section
variable {K : PySem.W.Frag} {H H' : Hp}
theorem same_sqT {a : Addr} {xs : List V} (e : Same H H') (h : SqT K H a xs) : SqT K H' a xs := by
  rcases h with (h | ⟨o, h⟩) | h
  · exact .inl (.inl (e _ _ h))
  · exact .inl (.inr ⟨o, e _ _ h⟩)
  · exact .inr h
mutual
theorem dp_same (e : Same H H') : ∀ (d : PyData) (v : V), Dp K H v d → Dp K H' v d
  | .none, _, h => by cases h; exact .non
  | .bool b, _, h => by cases h; exact .bl b
  | .int i, _, h => by cases h; exact .int i
  | .str x, _, h => by cases h; exact .str x
  | .list ds, _, h => by
    cases h with
    | lst g ha => exact .lst (e.seq g) (dp_sameAll e ds _ ha)
  | .tuple ds, _, h => by
    cases h with
    | tup g ha => exact .tup (same_sqT e g) (dp_sameAll e ds _ ha)
  | .dict _, _, h => by cases h
theorem dp_sameAll (e : Same H H') : ∀ (ds : List PyData) (vs : List V), DpAll K H vs ds → DpAll K H' vs ds
  | [], _, h => by cases h; exact .nil
  | d :: ds, _, h => by
    cases h with
    | cons h1 h2 => exact .cons (dp_same e d _ h1) (dp_sameAll e ds _ h2)
end
end
theorem small_of {n : Nat} (h : n ≤ 1000) : n ≤ sizeLine := Nat.le_of_lt (small1000 h)
theorem seq_asg {te : TE} {g : TG} {u : TS} {D : Ends} {σ : L2.St} {H : Hp} (h : te σ H fun x H1 => g x σ H1 (u D)) : tSeq (tAsg te g) u D σ H := h
theorem gname {i : Nat} {v : V} {σ : L2.St} {H : Hp} {Q : L2.St → Hp → Prop} (h : Q (σ.set i (some v)) H) : gName i v σ H Q := h
theorem nxp {N : L2.St → Hp → Prop} {R : VK} {B C : L2.St → Hp → Prop} {σ : L2.St} {H : Hp} (h : N σ H) : ({ nx := N, rt := R, bk := B, ct := C } : Ends).nx σ H := h
theorem seq_if {c : TT} {t t2 : TS} {u : TS} {D : Ends} {σ : L2.St} {H : Hp} (h : c σ H fun b H1 => if b = true then t { D with nx := u D } σ H1 else t2 { D with nx := u D } σ H1) : tSeq (tIfS c t t2) u D σ H := h
theorem seq_ifN {c : TT} {t : TS} {u : TS} {D : Ends} {σ : L2.St} {H : Hp} (h : c σ H fun b H1 => if b = true then t { D with nx := u D } σ H1 else u D σ H1) : tSeq (tIfS c t tNext) u D σ H := h
theorem seq_any {t : TS} {u : TS} {D : Ends} {σ : L2.St} {H : Hp} (h : t { D with nx := u D } σ H) : tSeq t u D σ H := h
theorem asg1 {te : TE} {g : TG} {D : Ends} {σ : L2.St} {H : Hp} (h : te σ H fun x H1 => g x σ H1 D.nx) : tAsg te g D σ H := h
section
variable {K : PySem.W.Frag} {G G' : Addr → Prop} {H H' : Hp}
mutual
theorem Im.mono2 (hH : ∀ b o, G b → H b = some o → H' b = some o) (hG : ∀ b o, H b = some o → G b → G' b) : ∀ (d : PyData) (v : V), Im K G H v d → Im K G' H' v d
  | .none, _, h => by cases h; exact .non
  | .bool b, _, h => by cases h; exact .bl b
  | .int i, _, h => by cases h; exact .int i
  | .str x, _, h => by cases h; exact .str x
  | .list ds, _, h => by
    cases h with
    | lst g e ha => exact .lst (hG _ _ e g) (hH _ _ g e) (Im.mono2All hH hG ds _ ha)
  | .tuple ds, _, h => by
    cases h with
    | tup g e ha => exact .tup (hG _ _ e g) (hH _ _ g e) (Im.mono2All hH hG ds _ ha)
  | .dict _, _, h => by cases h
theorem Im.mono2All (hH : ∀ b o, G b → H b = some o → H' b = some o) (hG : ∀ b o, H b = some o → G b → G' b) : ∀ (ds : List PyData) (vs : List V), ImAll K G H vs ds → ImAll K G' H' vs ds
  | [], _, h => by cases h; exact .nil
  | d :: ds, _, h => by
    cases h with
    | cons h1 h2 => exact .cons (Im.mono2 hH hG d _ h1) (Im.mono2All hH hG ds _ h2)
end
end
theorem join_set {c : Prop} [Decidable c] {v : V} {i : Nat} {u : TS} {D : Ends} {σ : L2.St} {H : Hp} (P : L2.St → Prop) (h : ∀ σ2, P σ2 → u D σ2 H) (h1 : c → P (σ.set i (some v))) (h2 : ¬ c → P σ) :
    if c then tAsg (tC v) (gName i) { D with nx := u D } σ H else u D σ H := by
  by_cases hc : c
  · rw [if_pos hc]
    exact h _ (h1 hc)
  · rw [if_neg hc]
    exact h _ (h2 hc)
/-- a constant tuple of the module, by its data -/
def GC (K : PySem.W.Frag) (mg : Str → Option Value) (x : Str) (d : PyData) : Prop := ∃ (u : Value) (v : V), mg x = some u ∧ RelV v u ∧ Dp K (fun _ => Option.none) v d
theorem none_same (H : Hp) : Same (fun _ => Option.none) H := fun _ _ e => nomatch e
theorem kt_of {K : PySem.W.Frag} {a : Addr} {its : Array Value} {n : Nat} {dd : Option Addr} {sl : Array (Option Value)} {xs : List V} {ds : List PyData} (h : K.lookup a = some ⟨.type "tuple", dd, .seq its n, sl⟩) (hz : its.size ≤ 1000) (hv : Vals xs its.toList) (ha : DpAll K (fun _ => Option.none) xs ds) :
    Dp K (fun _ => Option.none) (.ref a) (.tuple ds) := .tup (.inr ⟨_, its, n, h, rfl, rfl, Nat.le_trans hz (by decide), hv⟩) ha
/-! ### list.extend(tuple) -/
section
open Builtin
theorem extT (l b : Addr) (xs ys : Array Value) (n k : Nat) (dd : Option Addr) (sl : Array (Option Value)) (hlong : ¬(!xs.isEmpty && Builtin.List.listTooLong (xs.size + ys.size)) = true) (h1 : xs.size ≤ sizeLine) (h2 : xs.size + ys.size ≤ sizeLine + 1) :
    Meets (Builtin.«list.extend» ⟨[.ref l, .ref b], []⟩) (fun _ R s => s.heap.get? l = some { cls := .type "list", dict := none, data := .seq xs n, slots := #[] } ∧ s.heap.get? b = some { cls := .type "tuple", dict := dd, data := .seq ys k, slots := sl } ∧ R (.ok (.ret Value.none)) { s with heap := s.heap.update l (Obj.mapSeq fun x => x ++ ys), toks := s.toks }) := by
  refine .of_wp fun prog w A R s h => ?_
  obtain ⟨hp, g, d, tk, os⟩ := s
  obtain ⟨ea, eb, q⟩ := h
  have i1 := AutoSeq1.idx_int
  have i2 := AutoSeq1.sub_tuple_tuple
  have i3 := AutoSeq1.sub_list_list
  have i4 := AutoSeq1.sub_tuple_list
  have i5 := AutoSeq1.sub_list_tuple
  have hz : (xs ++ ys).size ≤ sizeLine + 1 := by rw [Array.size_append]; exact h2
  wp_walk using (wpAny_updateSeq ea rfl (hz := h1) (_hz' := hz)), AutoSeq1.wpAny_loadPart' ea, AutoSeq1.wpAny_loadPart' eb
  exact ⟨_, rfl, q⟩
end
section
variable {X : Cx}
def rExtT (K : PySem.W.Frag) : V → List V → Hp → VK → Prop := fun x vs H Q => ∃ l b xs zs, x = .ref l ∧ vs = [.ref b] ∧ H l = some (.lst xs) ∧ SqT K H b zs ∧ xs.length + zs.length ≤ sizeLine ∧ Q .non (upd H l (.lst (xs ++ zs)))
theorem mt_extT : MtR X "list.extend" (rExtT X.K) := by
  intro pins s σ H x vs v us Q I rx rv h
  obtain ⟨l, b, xs, zs, rfl, rfl, hH, hB, hz, q⟩ := h
  cases rx
  obtain ⟨u, rfl, ru⟩ := rv.one
  cases ru
  obtain ⟨z, its, n, r, hl, e⟩ := I.lstM hH
  obtain ⟨its2, r2, ⟨⟨oc, od, dt, sl⟩, e2, ec, k2, ed⟩, _⟩ := I.tuple hB
  simp only at ec ed
  subst ec ed
  have z1 := r.length
  have z2 := r2.length
  have hsz : its.toArray.size + its2.toArray.size ≤ sizeLine := by rw [List.size_toArray, List.size_toArray]; omega
  have nl : ¬ (!its.toArray.isEmpty && Builtin.List.listTooLong (its.toArray.size + its2.toArray.size)) = true := by
    rw [notLongL hsz, Bool.and_false]
    exact Bool.false_ne_true
  refine call_meets F.slot_list_extend ⟨_, e, rfl⟩ F.entry_list_extend (F.args_list_extend_2 _ _) (extT l b its.toArray its2.toArray n k2 od sl nl (by rw [List.size_toArray]; omega) (by omega)) ⟨e, e2, ?_⟩
  refine ⟨.non, _, I.lset (its' := its ++ its2) hH e (by simp) (r.append r2) ?_, rfl, q⟩
  rw [List.length_append]
  omega
/-! ### x in (a, b, ..), data of any depth -/
def rInT (K : PySem.W.Frag) : R2 := fun x y H Q => ∃ d ds, Dp K H x d ∧ Dp K H y (.tuple ds) ∧ SeqAt.shaped d = true ∧ SeqAt.shaped (.tuple ds) = true ∧ Q (.bl (ds.any fun z => PyData.eqv z d)) H
def rNotInT (K : PySem.W.Frag) : R2 := fun x y H Q => ∃ d ds, Dp K H x d ∧ Dp K H y (.tuple ds) ∧ SeqAt.shaped d = true ∧ SeqAt.shaped (.tuple ds) = true ∧ Q (.bl (!ds.any fun z => PyData.eqv z d)) H
theorem op_inT (hu : X.A.units + 65 < cLine) : OpR X (compareOp .In) (rInT X.K) := by
  intro pins s σ H x y v u Q I rx ry h
  obtain ⟨d, ds, hd, he, sd, se, q⟩ := h
  obtain ⟨as, r1⟩ := Dp.reads I d x v hd rx
  obtain ⟨bs, r2⟩ := Dp.reads I (.tuple ds) y u he ry
  exact SeqAt.in_tuple_reads r2 r1 (SeqAt.canLay_of_shaped se) (SeqAt.canLay_of_shaped sd) (room_in_shaped sd hu) ⟨.bl _, H, I, rfl, q⟩
theorem op_notInT (hu : X.A.units + 65 < cLine) : OpR X (compareOp .NotIn) (rNotInT X.K) := by
  intro pins s σ H x y v u Q I rx ry h
  obtain ⟨d, ds, hd, he, sd, se, q⟩ := h
  obtain ⟨as, r1⟩ := Dp.reads I d x v hd rx
  obtain ⟨bs, r2⟩ := Dp.reads I (.tuple ds) y u he ry
  exact SeqAt.notIn_tuple_reads r2 r1 (SeqAt.canLay_of_shaped se) (SeqAt.canLay_of_shaped sd) (room_in_shaped sd hu) ⟨.bl _, H, I, rfl, q⟩
theorem units65 {k : Nat} {A : Around} (r : Room k A) : A.units + 65 < cLine := by
  have := r.un
  omega
end
section
variable {K : PySem.W.Frag} {H : Hp}
theorem DpAll.dropt : ∀ {xs : List V} {ds : List PyData} (n : Nat), DpAll K H xs ds → DpAll K H (xs.drop n) (ds.drop n)
  | _, _, 0, r => r
  | _, _, _ + 1, .nil => .nil
  | _, _, n + 1, .cons _ t => DpAll.dropt n t
theorem DpAll.taket : ∀ {xs : List V} {ds : List PyData} (n : Nat), DpAll K H xs ds → DpAll K H (xs.take n) (ds.take n)
  | _, _, 0, _ => .nil
  | _, _, _ + 1, .nil => .nil
  | _, _, n + 1, .cons r t => .cons r (DpAll.taket n t)
theorem DpAll.app : ∀ {xs ys : List V} {ds es : List PyData}, DpAll K H xs ds → DpAll K H ys es → DpAll K H (xs ++ ys) (ds ++ es)
  | _, _, _, _, .nil, r => r
  | _, _, _, _, .cons q t, r => .cons q (DpAll.app t r)
theorem DpAll.getV : ∀ {vs : List V} {ds : List PyData} {i : Nat} {v : V}, DpAll K H vs ds → vs[i]? = some v → ∃ d, ds[i]? = some d ∧ Dp K H v d
  | _, _, _, _, .nil, e => by simp at e
  | _, _, 0, _, .cons r _, e => by simp at e; subst e; exact ⟨_, rfl, r⟩
  | _, _, i + 1, _, .cons _ t, e => by
    obtain ⟨u, h1, h2⟩ := DpAll.getV (i := i) t (by simpa using e)
    exact ⟨u, by simpa using h1, h2⟩
end
/-- a part of a tuple, also the whole -/
theorem cut_nat (xs : List V) (i j : Nat) (h1 : i ≤ xs.length) (h2 : j ≤ xs.length) : cutV xs (some (i : Int)) (some (j : Int)) = (xs.drop i).take (j - i) := by
  unfold cutV
  rw [HT.sIx_nat, HT.sIx_nat, Nat.min_eq_left h1, Nat.min_eq_left h2]
theorem slA_nat {K : PySem.W.Frag} {H : Hp} {a : Addr} {xs : List V} {i j : Nat} {Q : VK} (hs : SqT K H a xs) (h1 : i ≤ xs.length) (h2 : j ≤ xs.length) (h : ∀ b H', Same H H' → SqT K H' b ((xs.drop i).take (j - i)) → (∀ c, H c = Option.none → c ≠ b → H' c = Option.none) → Q (.ref b) H') :
    rSlA K (.ref a) (some (i : Int)) (some (j : Int)) H Q := by
  refine ⟨a, xs, rfl, hs, fun z => ?_, fun z p np => ?_⟩
  · rw [HT.sIx_nat, HT.sIx_nat, Nat.min_eq_left h1, Nat.min_eq_left h2] at z
    refine h a H (Same.refl H) ?_ fun _ e _ => e
    rw [z.1, z.2, List.drop_zero, Nat.sub_zero, List.take_length]
    exact hs
  · rw [cut_nat xs i j h1 h2]
    exact h p _ (same_upd np) (SqT.of upd_same) fun c e hc => by rw [upd_ne hc]; exact e
theorem cat_dp {K : PySem.W.Frag} {H : Hp} {x y : V} {ds es : List PyData} {Q : VK} (hx : Dp K H x (.tuple ds)) (hy : Dp K H y (.tuple es)) (hne : ds ≠ []) (hz : ds.length + es.length ≤ 1000) (h : ∀ v H', Same H H' → Dp K H' v (.tuple (ds ++ es)) → Q v H') : rCatT K x y H Q := by
  cases hx with
  | @tup a xs _ sx ax =>
  cases hy with
  | @tup b ys _ sy ay =>
  have lx := DpAll.len ax
  have ly := DpAll.len ay
  refine ⟨a, b, xs, ys, rfl, rfl, sx, sy, fun z => ?_, small_of (by omega), fun z => ?_, fun z p np => ?_⟩
  · rw [z] at lx
    exact hne (List.eq_nil_of_length_eq_zero lx.symm)
  · subst z
    cases ay
    rw [List.append_nil] at h
    exact h _ H (Same.refl H) (.tup sx ax)
  · exact h _ _ (same_upd np) (.tup (SqT.of upd_same) (dp_sameAll (same_upd np) _ _ (DpAll.app ax ay)))
theorem cut_from1 (v : V) (xs : List V) : cutV (v :: xs) (some 1) Option.none = xs := by
  unfold cutV
  rw [show (some (1 : Int)) = some ((1 : Nat) : Int) from rfl, HT.sIx_nat, HT.sIx_none, List.length_cons, Nat.min_eq_left (by omega), List.drop_succ_cons, List.drop_zero, Nat.add_sub_cancel]
  exact List.take_length
section
variable {σ : L2.St} {H : Hp}
theorem args1 {t : TE} {ta : TA} {Q : List V → Hp → Prop} (h : t σ H fun x H1 => ta σ H1 fun xs H2 => Q (x :: xs) H2) : tCons t ta σ H Q := h
theorem tup_of {ta : TA} {Q : VK} (h : ta σ H fun xs H1 => xs.length ≤ sizeLine ∧ ∀ p, H1 p = Option.none → Q (.ref p) (upd H1 p (.tup xs))) : tTup ta σ H Q := h
theorem const_of {v : V} {Q : VK} (h : Q v H) : tC v σ H Q := h
theorem op_of {r : R2} {ta tb : TE} {Q : VK} (h : ta σ H fun x H1 => tb σ H1 fun y H2 => r x y H2 Q) : tOp r ta tb σ H Q := h
theorem nil_of {Q : List V → Hp → Prop} (h : Q [] H) : tNil σ H Q := h
end
section
variable {σ : L2.St} {H : Hp}
theorem call_of {sp : Sp} {dvs : List V} {E : XK} {t : TA} {Q : VK} (h : t σ H fun vs H1 => sp (vs ++ dvs) H1 Q E) : tCall sp dvs E t σ H Q := h
theorem args_and {r : R2} {sp : Sp} {dvs : List V} {E : XK} {t : TA} {tb tc : TE} {D : Ends} (h : t σ H fun vs H1 => sp (vs ++ dvs) H1 (fun x H1 => tb σ H1 fun y H2 => r x y H2 fun x H1 => ∃ c, x = .bl c ∧ if c = true then tc σ H1 D.rt else D.rt (.bl false) H1) E) : tRet (tAndV (tOp r (tCall sp dvs E t) tb) tc) D σ H := h
end
theorem relStr (x : Str) (t : Tok) : RelV (.str x) (.str x t) := ⟨_, rfl⟩
theorem relInt (i : Int) (t : Tok) : RelV (.int i) (.int i t) := ⟨_, rfl⟩
theorem relRef (a : Addr) : RelV (.ref a) (.ref a) := rfl
/-! ### a < b of data whose places are alike -/
section
variable {X : Cx}
def rLtD (K : PySem.W.Frag) : R2 := fun x y H Q => ∃ d e, Dp K H x d ∧ Dp K H y e ∧ PySem.W.alike d e = true ∧ d ≠ .none ∧ d.depth ≤ 8 ∧ Q (.bl (PySem.W.dataLt d e)) H
theorem op_ltD (hu : X.A.units + 64 < cLine) : OpR X (compareOp .Lt) (rLtD X.K) := by
  intro pins s σ H x y v u Q I rx ry h
  obtain ⟨d, e, hd, he, ha, hn, hz, q⟩ := h
  obtain ⟨as, r1⟩ := Dp.reads I d x v hd rx
  obtain ⟨bs, r2⟩ := Dp.reads I e y u he ry
  have R := PySem.W.rcLt_alike d e X.A s v u as bs r1 r2 ha hn (Nat.lt_of_le_of_lt (Nat.add_le_add_left (Nat.le_trans (Nat.min_le_left _ _) (Nat.le_trans hz (by decide : 8 ≤ 64))) _) hu)
  have z : wpAny (model X.prog X.w) X.A (compareOp .Lt v u) (EP X pins σ Q) X.xe s := R X.prog X.w X.xe (EP X pins σ Q) ⟨.bl _, H, I, rfl, q⟩
  exact z
end
/-! ### zip of two tuples -/
theorem walk_zipT {K : PySem.W.Frag} {a b : Addr} {xs ys : List V} {n : Nat} (hn : n = min xs.length ys.length) : Walk (RZ.ItzT K a b) n (fun H => SqT K H a xs ∧ SqT K H b ys) (YPair (fun i => xs[i]?) (fun i => ys[i]?)) := by
  subst hn
  refine ⟨fun i H hi q => ?_, fun H q => ⟨xs, ys, q.1, q.2, by omega⟩, fun i H v H' hi q y => ?_⟩
  · have h1 : i < xs.length := by omega
    have h2 : i < ys.length := by omega
    exact ⟨xs, ys, _, _, q.1, q.2, List.getElem?_eq_getElem h1, List.getElem?_eq_getElem h2⟩
  · obtain ⟨T, x, y, e1, e2, e3, e4, e5⟩ := y
    exact ⟨T, x, y, e1, e2, e3, e4 xs q.1, e5 ys q.2⟩
/-! ### () + t -/
section
open Builtin
theorem addE (l b : Addr) (xs ys : Array Value) (n k : Nat) (dd dd2 : Option Addr) (sl sl2 : Array (Option Value)) (he : xs.isEmpty = true) :
    Meets (Builtin.«tuple.__add__» ⟨[.ref l, .ref b], []⟩) (fun _ R s => s.heap.get? l = some { cls := .type "tuple", dict := dd, data := .seq xs n, slots := sl } ∧ s.heap.get? b = some { cls := .type "tuple", dict := dd2, data := .seq ys k, slots := sl2 } ∧ R (.ok (.ret (Value.ref b))) s) := by
  refine .of_wp fun prog w A R s h => ?_
  obtain ⟨hp, g, d, tk, os⟩ := s
  obtain ⟨ea, eb, q⟩ := h
  have i1 := AutoSeq1.idx_int
  have i2 := AutoSeq1.sub_tuple_tuple
  have i3 := AutoSeq1.sub_list_list
  have i4 := AutoSeq1.sub_tuple_list
  have i5 := AutoSeq1.sub_list_tuple
  wp_walk using AutoSeq1.wpAny_loadPart' ea, AutoSeq1.wpAny_loadPart' eb
  exact ⟨_, rfl, q⟩
end
section
variable {X : Cx}
def rCatA (K : PySem.W.Frag) : R2 := fun x y H Q => ∃ a b xs ys, x = .ref a ∧ y = .ref b ∧ SqT K H a xs ∧ SqT K H b ys ∧ xs.length + ys.length ≤ sizeLine ∧ (xs = [] → Q (.ref b) H) ∧ (ys = [] → Q (.ref a) H) ∧ ∀ p, H p = Option.none → Q (.ref p) (upd H p (.tup (xs ++ ys)))
theorem op_catA : OpR X (binaryOp .Add) (rCatA X.K) := by
  intro pins s σ H x y v u Q I rx ry h
  obtain ⟨a, b, xs, ys, rfl, rfl, ha, hb, hz, q1, q2, q3⟩ := h
  by_cases hx : xs = []
  · subst hx
    cases rx
    cases ry
    obtain ⟨its, r1, p1, _⟩ := I.tuple ha
    obtain ⟨its2, r2, p2, _⟩ := I.tuple hb
    cases r1
    obtain ⟨⟨oc, od, dt, sl⟩, e1, c1, n, d1⟩ := p1
    obtain ⟨⟨oc2, od2, dt2, sl2⟩, e2, c2, n2, d2⟩ := p2
    simp only at c1 d1 c2 d2
    subst c1 d1 c2 d2
    exact concat_meets ⟨_, e1, rfl⟩ ⟨_, e2, rfl⟩ noFill_tuple_add seq_tuple_add PySem.F.slot_tuple_add PySem.F.entry_tuple_add (PySem.F.args_tuple_add_2 _ _)
      (addE a b #[] its2.toArray n n2 od od2 sl sl2 rfl) ⟨e1, e2, ⟨.ref b, H, I, rfl, q1 rfl⟩⟩
  · exact op_catT pins s σ H (.ref a) (.ref b) v u Q I rx ry ⟨a, b, xs, ys, rfl, rfl, ha, hb, hx, hz, q2, fun _ p np => q3 p np⟩
end
section
variable {K : PySem.W.Frag} {G : Addr → Prop} {H : Hp}
theorem ImAll.dropt : ∀ {xs : List V} {ds : List PyData} (n : Nat), ImAll K G H xs ds → ImAll K G H (xs.drop n) (ds.drop n)
  | _, _, 0, r => r
  | _, _, _ + 1, .nil => .nil
  | _, _, n + 1, .cons _ t => ImAll.dropt n t
theorem ImAll.taket : ∀ {xs : List V} {ds : List PyData} (n : Nat), ImAll K G H xs ds → ImAll K G H (xs.take n) (ds.take n)
  | _, _, 0, _ => .nil
  | _, _, _ + 1, .nil => .nil
  | _, _, n + 1, .cons r t => .cons r (ImAll.taket n t)
theorem im_new {xs : List V} {ds : List PyData} {p : Addr} (np : H p = Option.none) (ia : ImAll K G H xs ds) : Im K (fun b => G b ∨ H b = Option.none) (upd H p (.tup xs)) (.ref p) (.tuple ds) :=
  .tup (.inr np) upd_same (Im.monoAll (fun b o _ e => same_upd np b o e) (fun _ g => .inl g) _ _ ia)
theorem im_cut {x : V} {ds es : List PyData} {lo hi : Option Int} {Q : VK} (iv : Im K G H x (.tuple ds)) (hc : ∀ xs : List V, ImAll K G H xs ds → ImAll K G H (cutV xs lo hi) es) (h : ∀ v H', Same H H' → (∀ b, G b ∨ H b = Option.none → G b ∨ H b = Option.none) → Im K (fun b => G b ∨ H b = Option.none) H' v (.tuple es) → Q v H') : rSlA K x lo hi H Q := by
  cases iv with
  | @tup a xs _ g e ia =>
  refine ⟨a, xs, rfl, SqT.of e, fun z => ?_, fun z p np => ?_⟩
  · have hw : cutV xs lo hi = xs := by
      unfold cutV
      rw [z.1, z.2, List.drop_zero, Nat.sub_zero, List.take_length]
    have := hc xs ia
    rw [hw] at this
    exact h _ H (Same.refl H) (fun _ q => q) (.tup (.inl g) e (Im.monoAll (fun _ _ _ e => e) (fun _ g => .inl g) _ _ this))
  · exact h _ _ (same_upd np) (fun _ q => q) (im_new np (hc xs ia))
theorem im_take {x : V} {ds : List PyData} {k : Nat} {Q : VK} (iv : Im K G H x (.tuple ds)) (hk : k ≤ ds.length) (h : ∀ v H', Same H H' → Im K (fun b => G b ∨ H b = Option.none) H' v (.tuple (ds.take k)) → Q v H') : rSlA K x Option.none (some (k : Int)) H Q :=
  im_cut iv (fun xs ia => by
    unfold cutV
    rw [HT.sIx_none, HT.sIx_nat, Nat.min_eq_left (by rw [ia.len]; exact hk), List.drop_zero, Nat.sub_zero]
    exact ImAll.taket _ ia) fun v H' s _ i => h v H' s i
theorem im_drop {x : V} {ds : List PyData} {k : Nat} {Q : VK} (iv : Im K G H x (.tuple ds)) (hk : k ≤ ds.length) (h : ∀ v H', Same H H' → Im K (fun b => G b ∨ H b = Option.none) H' v (.tuple (ds.drop k)) → Q v H') : rSlA K x (some (k : Int)) Option.none H Q :=
  im_cut iv (fun xs ia => by
    unfold cutV
    rw [HT.sIx_none, HT.sIx_nat, Nat.min_eq_left (by rw [ia.len]; exact hk), List.take_of_length_le (by rw [List.length_drop]; exact Nat.le_refl _)]
    exact ImAll.dropt _ ia) fun v H' s _ i => h v H' s i
theorem im_cat {x y : V} {ds es : List PyData} {Q : VK} (iv : Im K G H x (.tuple ds)) (iw : Im K G H y (.tuple es)) (hz : ds.length + es.length ≤ 1000) (h : ∀ v H', Same H H' → Im K (fun b => G b ∨ H b = Option.none) H' v (.tuple (ds ++ es)) → Q v H') : rCatA K x y H Q := by
  have w1 := Im.mono (G' := fun b => G b ∨ H b = Option.none) (fun _ _ _ e => e) (fun _ g => .inl g) _ _ iv
  have w2 := Im.mono (G' := fun b => G b ∨ H b = Option.none) (fun _ _ _ e => e) (fun _ g => .inl g) _ _ iw
  cases iv with
  | @tup a xs _ g e ia =>
  cases iw with
  | @tup b ys _ g2 e2 ib =>
  have l1 := ia.len
  have l2 := ib.len
  refine ⟨a, b, xs, ys, rfl, rfl, SqT.of e, SqT.of e2, small_of (by omega), fun z => ?_, fun z => ?_, fun p np => ?_⟩
  · subst z
    cases ia
    exact h _ H (Same.refl H) w2
  · subst z
    cases ib
    rw [List.append_nil] at h
    exact h _ H (Same.refl H) w1
  · exact h _ _ (same_upd np) (im_new np (ImAll.app ia ib))
end
end My

namespace My
open PySem PySem.Spec PyProof.Rows L2
/-! ### the text -/
def topS (i : Nat) : Stmt := PySem.Challenge.pw_hornbook_k61_reads_and_writes.main.body.getD i (.Pass ⟨0, 0, 0, 0⟩)
abbrev s_locations : Stmt := topS 5
abbrev N_locations : List Str := ["instruction", "places", "found", "place", "part"]
theorem sc_locations : FnScope N_locations ["instruction", "places"] (defScope s_locations) := ⟨rfl, rfl, rfl, by decide +kernel, rfl, by decide +kernel, by decide +kernel⟩
abbrev s_reads : Stmt := topS 6
abbrev N_reads : List Str := ["instruction", "number"]
theorem sc_reads : FnScope N_reads ["instruction"] (defScope s_reads) := ⟨rfl, rfl, rfl, by decide +kernel, rfl, by decide +kernel, by decide +kernel⟩
abbrev s_writes : Stmt := topS 7
abbrev N_writes : List Str := ["instruction"]
theorem sc_writes : FnScope N_writes ["instruction"] (defScope s_writes) := ⟨rfl, rfl, rfl, by decide +kernel, rfl, by decide +kernel, by decide +kernel⟩
abbrev s__law_stream : Stmt := topS 9
abbrev N__law_stream : List Str := ["script", "mixed", "cell"]
theorem sc__law_stream : FnScope N__law_stream ["script"] (defScope s__law_stream) := ⟨rfl, rfl, rfl, by decide +kernel, rfl, by decide +kernel, by decide +kernel⟩
abbrev s__law_draw : Stmt := topS 10
abbrev N__law_draw : List Str := ["stream", "many", "value"]
theorem sc__law_draw : FnScope N__law_draw ["stream", "many"] (defScope s__law_draw) := ⟨rfl, rfl, rfl, by decide +kernel, rfl, by decide +kernel, by decide +kernel⟩
abbrev s__law_location : Stmt := topS 11
abbrev N__law_location : List Str := ["stream"]
theorem sc__law_location : FnScope N__law_location ["stream"] (defScope s__law_location) := ⟨rfl, rfl, rfl, by decide +kernel, rfl, by decide +kernel, by decide +kernel⟩
abbrev s__law_constant : Stmt := topS 12
abbrev N__law_constant : List Str := ["stream"]
theorem sc__law_constant : FnScope N__law_constant ["stream"] (defScope s__law_constant) := ⟨rfl, rfl, rfl, by decide +kernel, rfl, by decide +kernel, by decide +kernel⟩
abbrev s__law_part : Stmt := topS 13
abbrev N__law_part : List Str := ["stream", "kind"]
theorem sc__law_part : FnScope N__law_part ["stream", "kind"] (defScope s__law_part) := ⟨rfl, rfl, rfl, by decide +kernel, rfl, by decide +kernel, by decide +kernel⟩
abbrev s__law_kinds : Stmt := topS 14
abbrev N__law_kinds : List Str := []
theorem sc__law_kinds : FnScope N__law_kinds [] (defScope s__law_kinds) := ⟨rfl, rfl, rfl, by decide +kernel, rfl, by decide +kernel, by decide +kernel⟩
abbrev s__law_due : Stmt := topS 15
abbrev N__law_due : List Str := ["kind", "parts", "wanted", "found", "sign", "part", "rows", "number", "row"]
theorem sc__law_due : FnScope N__law_due ["kind", "parts", "wanted"] (defScope s__law_due) := ⟨rfl, rfl, rfl, by decide +kernel, rfl, by decide +kernel, by decide +kernel⟩
abbrev s_law : Stmt := topS 16
abbrev N_law : List Str := ["script", "stream", "kinds", "kind", "parts", "sign", "instruction", "first", "second", "due"]
theorem sc_law : FnScope N_law ["script"] (defScope s_law) := ⟨rfl, rfl, rfl, by decide +kernel, rfl, by decide +kernel, by decide +kernel⟩
/-- a dict of tuples of ints that the module keeps -/
def GD (w : World) (K : PySem.W.Frag) (mg : Str → Option Value) (x : Str) (ks : List (Str × List Int)) (no : List Str) : Prop := ∃ (d : Addr) (es : Array DictEntry) (n : Nat), mg x = some (.ref d) ∧ KDict K w d es n ∧ (∀ p ∈ ks, ∃ (u : Value) (v : V), PySem.W.nsIn K d p.1 = some (some u) ∧ RelV v u ∧ Dp K (fun _ => Option.none) v (.tuple (p.2.map PyData.int))) ∧ ∀ z ∈ no, PySem.W.nsIn K d z = some Option.none
/-- names that the top leaves to the built-ins, and its constants -/
structure Bi (w : World) (K : PySem.W.Frag) (mg : Str → Option Value) : Prop where
  b_abs : mg "abs" = Option.none
  b_bool : mg "bool" = Option.none
  b_int : mg "int" = Option.none
  b_isinstance : mg "isinstance" = Option.none
  b_len : mg "len" = Option.none
  b_list : mg "list" = Option.none
  b_range : mg "range" = Option.none
  b_tuple : mg "tuple" = Option.none
  c_MOST_REGISTERS : GV mg "MOST_REGISTERS" (.int 400)
  c_READS : GD w K mg "READS" [("get_variable", [2]), ("get_value", [1, 2]), ("get_constant", [2]), ("get_structure", [3]), ("unify_value", [1]), ("put_value", [1]), ("set_value", [1]), ("commit", [1])] ["unify_variable", "unify_constant", "put_variable", "put_constant", "put_structure", "set_variable", "set_constant", "allocate", "deallocate", "proceed", "mark", "cut", "try_else", "jump", "fail"]
  c_WRITES : GD w K mg "WRITES" [("get_variable", [1]), ("unify_variable", [1]), ("put_variable", [1, 2]), ("put_value", [2]), ("put_constant", [2]), ("put_structure", [3]), ("set_variable", [1]), ("mark", [1])] ["get_value", "get_constant", "get_structure", "unify_value", "unify_constant", "set_value", "set_constant", "allocate", "deallocate", "call", "execute", "proceed", "commit", "cut", "try_else", "jump", "fail"]
  c_CALLS : GC K mg "CALLS" (.tuple [.str "call", .str "execute"])

/-! ### names, nodes, terms -/
def okSign (c : Nat) : Bool := decide (32 ≤ c) && decide (c ≤ 126) && !decide (c = 37)
def okName (x : Str) : Bool := decide (1 ≤ x.length) && decide (x.length ≤ 40) && x.cps.toList.all okSign
def names20 : List Str := ["a", "b", "f", "g", "hello", "[]", "+", "-", ",", "it's", "X", "a b", "{}", ".", "=", "'", "aB_1", "!", "0", "lvjkuwnd"]
def signs : Str := (Str.ofString " !\"#$&'()*+,-./0123456789:;<=>?@ABCDEFGHIJKLMNOPQRSTUVWXYZ[\\]^_`") ++ (Str.ofString "abcdefghijklmnopqrstuvwxyz{|}~")
theorem names20_ok : names20.all okName = true := by decide +kernel
theorem signs_ok : signs.cps.toList.all okSign = true := by decide +kernel
theorem signs_len : signs.length = 94 := by decide +kernel
theorem join_ones (e : Str) (he : e.cps = #[]) : ∀ cs : List Nat, (Str.join e (cs.map fun c => ⟨#[c]⟩)).cps.toList = cs
  | [] => rfl
  | [c] => rfl
  | c :: d :: r => by
    have ih := join_ones e he (d :: r)
    show ((⟨#[c]⟩ : Str) ++ e ++ Str.join e ((d :: r).map fun c => (⟨#[c]⟩ : Str))).cps.toList = c :: d :: r
    show (#[c] ++ e.cps ++ (Str.join e ((d :: r).map fun c => (⟨#[c]⟩ : Str))).cps).toList = c :: d :: r
    rw [he, Array.toList_append, ih]
    rfl
inductive Nd (wd : Int) : PyData → Prop
  | v (n : Int) : 0 ≤ n → n < wd → Nd wd (.tuple [.str "v", .int n])
  | i (n : Int) : -(10 ^ 40) < n → n < 10 ^ 40 → Nd wd (.int n)
  | f (x : Str) (n : Int) : okName x = true → 0 ≤ n → n ≤ 8 → Nd wd (.tuple [.str "f", .str x, .int n])
def arN : PyData → Nat
  | .tuple [_, _, c] => (match c with | .int n => n.toNat | _ => 0) | _ => 0
/-- from m missing terms on, the nodes are just these terms -/
def Cls : Nat → List PyData → Prop
  | m, [] => m = 0
  | m, d :: r => 0 < m ∧ Cls (m - 1 + arN d) r
structure Term (wd : Int) (ds : List PyData) : Prop where
  cl : Cls 1 ds
  nd : ∀ d ∈ ds, Nd wd d
/-! ### the promises -/
def sp__law_stream (K : PySem.W.Frag) : Sp := fun vs H Q _ => ∃ (a : Addr) (ns : List Int), vs = [.ref a] ∧ SqL K H a (ns.map V.int) ∧ ns.length ≤ 63 ∧ ∀ s l H', H s = Option.none → H l = Option.none → Same H H' → Stm H' s l → Q (.ref s) H'
def sp__law_draw (K : PySem.W.Frag) : Sp := fun vs H Q _ => ∃ (s l : Addr) (n : Int), vs = [.ref s, .int n] ∧ Stm H s l ∧ 0 < n ∧ n.natAbs < 2 ^ 9000 ∧ ∀ r H', 0 ≤ r → r < n → But s H H' → Stm H' s l → Q (.int r) H'
/-! ### nodes -/
def isSymN : PyData → Bool
  | .tuple [_, _, _] => true | _ => false
def NdA (d : PyData) : Prop := ∃ wd, Nd wd d
/-- how many nodes m terms take -/
def tk : Nat → List PyData → Nat
  | _, [] => 0
  | m, d :: r => if m = 0 then 0 else 1 + tk (m - 1 + arN d) r
theorem tk_zero (l : List PyData) : tk 0 l = 0 := by
  cases l with
  | nil => rfl
  | cons d r => exact if_pos rfl
theorem tk_cons {m : Nat} (h : 0 < m) (d : PyData) (r : List PyData) : tk m (d :: r) = 1 + tk (m - 1 + arN d) r := if_neg (by omega)
theorem arN_nsym {d : PyData} (h : isSymN d = false) : arN d = 0 := by
  cases d with
  | tuple ds =>
    rcases ds with _ | ⟨a, _ | ⟨b, _ | ⟨c, _ | ⟨e, r⟩⟩⟩⟩
    · rfl
    · rfl
    · rfl
    · cases h
    · rfl
  | _ => rfl
theorem tk_le : ∀ (l : List PyData) (m : Nat), tk m l ≤ l.length
  | [], _ => Nat.le_refl 0
  | d :: r, m => by
    by_cases h : m = 0
    · subst h; rw [tk_zero]; exact Nat.zero_le _
    · rw [tk_cons (by omega)]
      have := tk_le r (m - 1 + arN d)
      rw [List.length_cons]
      omega
theorem tk_add : ∀ (l : List PyData) (j m : Nat), tk (j + m) l = tk j l + tk m (l.drop (tk j l))
  | [], j, m => by simp [tk]
  | d :: r, j, m => by
    by_cases h : j = 0
    · subst h
      rw [tk_zero, Nat.zero_add, Nat.zero_add, List.drop_zero]
    · rw [tk_cons (by omega), tk_cons (m := j) (by omega), show j + m - 1 + arN d = (j - 1 + arN d) + m by omega, tk_add r (j - 1 + arN d) m]
      rw [show 1 + tk (j - 1 + arN d) r = tk (j - 1 + arN d) r + 1 by omega, List.drop_succ_cons]
      omega
/-- the rest of what is closed is closed -/
theorem cls_drop : ∀ (l : List PyData) (k j : Nat), Cls k l → j ≤ k → Cls (k - j) (l.drop (tk j l))
  | [], k, j, h, hj => by
    have hk : k = 0 := h
    rw [List.drop_nil]
    show k - j = 0
    omega
  | d :: r, k, j, h, hj => by
    by_cases z : j = 0
    · subst z
      rw [tk_zero]
      exact h
    · rw [tk_cons (by omega), show 1 + tk (j - 1 + arN d) r = tk (j - 1 + arN d) r + 1 by omega, List.drop_succ_cons]
      have := cls_drop r (k - 1 + arN d) (j - 1 + arN d) h.2 (by omega)
      rwa [show k - 1 + arN d - (j - 1 + arN d) = k - j by omega] at this
theorem cls_take : ∀ (l : List PyData) (k j : Nat), Cls k l → j ≤ k → Cls j (l.take (tk j l))
  | [], k, j, h, hj => by
    have hk : k = 0 := h
    rw [List.take_nil]
    show j = 0
    omega
  | d :: r, k, j, h, hj => by
    by_cases z : j = 0
    · subst z
      rw [tk_zero]
      rfl
    · rw [tk_cons (by omega), show 1 + tk (j - 1 + arN d) r = tk (j - 1 + arN d) r + 1 by omega, List.take_succ_cons]
      exact ⟨by omega, cls_take r (k - 1 + arN d) (j - 1 + arN d) h.2 (by omega)⟩
theorem tk_take : ∀ (l : List PyData) (i j : Nat), i ≤ j → tk i (l.take (tk j l)) = tk i l
  | [], i, j, _ => by rw [List.take_nil]
  | d :: r, i, j, h => by
    by_cases z : i = 0
    · subst z
      rw [tk_zero, tk_zero]
    · rw [tk_cons (m := j) (by omega), show 1 + tk (j - 1 + arN d) r = tk (j - 1 + arN d) r + 1 by omega, List.take_succ_cons, tk_cons (by omega), tk_cons (by omega), tk_take r _ _ (by omega)]
theorem take_full : ∀ (l : List PyData) (k : Nat), Cls k l → l.take (tk k l) = l
  | [], _, _ => List.take_nil
  | d :: r, k, h => by
    rw [tk_cons h.1, show 1 + tk (k - 1 + arN d) r = tk (k - 1 + arN d) r + 1 by omega, List.take_succ_cons, take_full r _ h.2]
theorem cls_map : ∀ (ds es : List PyData) (m : Nat), es.map arN = ds.map arN → Cls m ds → Cls m es
  | [], [], m, _, h => h
  | [], e :: es, m, h, _ => by cases h
  | d :: ds, [], m, h, _ => by cases h
  | d :: ds, e :: es, m, h, hc => by
    rw [List.map_cons, List.map_cons] at h
    obtain ⟨h1, h2⟩ := List.cons.inj h
    exact ⟨hc.1, by rw [h1]; exact cls_map ds es _ h2 hc.2⟩
/-! ### nodes can be compared -/
theorem okName_cps {x : Str} (h : okName x = true) : PyData.strOk x = true := by
  unfold okName at h
  rw [Bool.and_eq_true] at h
  unfold PyData.strOk
  rw [← Array.all_toList]
  refine List.all_eq_true.mpr fun c hc => ?_
  have := List.all_eq_true.mp h.2 c hc
  unfold okSign at this
  simp only [Bool.and_eq_true, decide_eq_true_eq] at this
  exact decide_eq_true (by omega)
theorem nd_lay {d : PyData} (h : NdA d) : d.canLay0 = true ∧ d.depth ≤ 1 ∧ d.eqv d = true := by
  obtain ⟨wd, h⟩ := h
  cases h with
  | v n _ _ => exact ⟨by simp only [PyData.canLay0, PyData.canLayAll0]; decide +kernel, by simp [PyData.depth, PyData.depthAll], by simp only [PyData.eqv, PyData.eqvAll, beq_self_eq_true, Bool.and_self]⟩
  | i n _ _ => exact ⟨by simp only [PyData.canLay0], by simp [PyData.depth], by simp only [PyData.eqv, beq_self_eq_true]⟩
  | f x n hx _ _ => exact ⟨by simp only [PyData.canLay0, PyData.canLayAll0]; rw [okName_cps hx]; decide +kernel, by simp [PyData.depth, PyData.depthAll], by simp only [PyData.eqv, PyData.eqvAll, beq_self_eq_true, Bool.and_self]⟩
theorem nds_lay : ∀ {ds : List PyData}, (∀ d ∈ ds, NdA d) → PyData.canLayAll0 ds = true ∧ PyData.depthAll ds ≤ 1 ∧ PyData.eqvAll ds ds = true
  | [], _ => ⟨by simp only [PyData.canLayAll0], by simp [PyData.depthAll], by simp only [PyData.eqvAll]⟩
  | d :: r, h => by
    obtain ⟨a1, a2, a3⟩ := nd_lay (h d List.mem_cons_self)
    obtain ⟨b1, b2, b3⟩ := nds_lay (ds := r) fun e he => h e (List.mem_cons_of_mem _ he)
    refine ⟨by simp only [PyData.canLayAll0, a1, b1, Bool.and_self], ?_, by simp only [PyData.eqvAll, a3, b3, Bool.and_self]⟩
    simp only [PyData.depthAll]
    omega
theorem nd_shaped {d : PyData} (h : NdA d) : SeqAt.shaped d = true := by
  obtain ⟨a1, a2, _⟩ := nd_lay h
  show (d.canLay0 && decide (d.depth ≤ 64)) = true
  rw [a1, decide_eq_true (by omega)]
  rfl
theorem tup_shaped {ds : List PyData} (h : ∀ d ∈ ds, NdA d) : SeqAt.shaped (.tuple ds) = true := by
  obtain ⟨a1, a2, _⟩ := nds_lay h
  have hd : (PyData.tuple ds).depth ≤ 64 := by
    simp only [PyData.depth]
    omega
  have hc : (PyData.tuple ds).canLay0 = true := by
    simp only [PyData.canLay0]
    exact a1
  show ((PyData.tuple ds).canLay0 && decide ((PyData.tuple ds).depth ≤ 64)) = true
  rw [hc, decide_eq_true hd]
  rfl
theorem tup_eqv {ds : List PyData} (h : ∀ d ∈ ds, NdA d) : PyData.eqv (.tuple ds) (.tuple ds) = true := by
  simp only [PyData.eqv]
  exact (nds_lay h).2.2
/-- name = {k: v for ..} on one line, the name a local -/
theorem ps_setDc {X : Cx} {i : Nat} {y : Str} {py : Pos} {kx vx tg iter : Expr} {ifs : List Expr} {scope : Scope} {own : List (Str × Nat)} {pos spos : Pos} {wi : TI} {g : TG} {tt : TT} {tk tv : TE} (c1 : X.calm = true) (c2 : X.N.Nodup) (c3 : X.N[i]? = some y) (c4 : X.env.scope.names.lookup y = some .local)
    (c5 : swapsWith (.DictComp kx vx [⟨tg, iter, ifs, 0⟩] scope pos) (some (.Name y py)) spos.line X.env = pure true) (c6 : PI X tg iter wi) (c7 : BlkOk X.N X.env.scope scope own)
    (c8 : ∀ (z : Shared) (H : Hp) (C : Addr) (cl : List (Str × Addr)) (fp : List Addr), PG (X.blk z H scope (compEnvC scope cl C X.env) fp) tg g) (c9 : ∀ (z : Shared) (H : Hp) (C : Addr) (cl : List (Str × Addr)) (fp : List Addr), PTs (X.blk z H scope (compEnvC scope cl C X.env) fp) ifs tt)
    (d1 : ∀ (z : Shared) (H : Hp) (C : Addr) (cl : List (Str × Addr)) (fp : List Addr), PE (X.blk z H scope (compEnvC scope cl C X.env) fp) kx tk)
    (d2 : ∀ (z : Shared) (H : Hp) (C : Addr) (cl : List (Str × Addr)) (fp : List Addr), PE (X.blk z H scope (compEnvC scope cl C X.env) fp) vx tv) (d3 : ∀ x, foldedSetIterable iter X.env x = pure x := by intro _; rfl) :
    PS X (.Assign [.Name y py] (.DictComp kx vx [⟨tg, iter, ifs, 0⟩] scope pos) spos) (tAsg (tDc wi g tt tk tv (own.map (·.2))) (gName i)) := by
  refine ⟨fun pins st0 σ H D inv hyp => ?_⟩
  have hyp' : tDc wi g tt tk tv (own.map (·.2)) σ H (fun v Hq => gName i v σ Hq D.nx) := hyp
  rw [exec_Assign_Name_used _ _ _ _ c5]
  refine wpAny_bind <| wpAny_standAt <| wpAny_bind ?_
  show wpAny _ X.A (do let _ ← comprehension (.DictComp kx vx [⟨tg, iter, ifs, 0⟩] scope pos) scope X.env (firstIterPos [⟨tg, iter, ifs, 0⟩] pos) newDict false (eval iter X.env) (some (assign (.Name y py) X.env))) _ _ st0
  have core := dc_core (Qf := fun _ fin => SP X pins D .next fin) (pos := pos) (pos' := firstIterPos [⟨tg, iter, ifs, 0⟩] pos) (use := some (assign (.Name y py) X.env)) c1 c2 inv c6 c7 c8 c9 d1 d2 d3 hyp' fun L C fin mm Hf inv' qf nsC fp => by
    show wpAny _ _ (assign (.Name y py) X.env (.ref L)) _ _ _
    obtain ⟨e0, e1, e2, e3, e4, e5⟩ := fp
    refine wpAny_assign_Name (store_ok2 (v := V.ref L) inv' c2 c3 (.inl c4) rfl (fun fin2 inv2 ⟨w, same, hw⟩ => ?_) (.inr c4))
    have cw : C ≠ w := by
      intro z
      cases hw with
      | inl hw => exact e1 (z.trans hw)
      | inr hw => exact e4 y w hw z.symm
    exact ⟨mm, nsC.sameBut same cw, fun h3 sb3 => ⟨_, Hf, inv2.turned (t' := fin2.toks) (fun b o hb e => (sb3.2 b hb).trans e) e0 e1 e3 e4 e5, qf⟩⟩
  exact wpAny_bind (thn core fun _ fin hq => wpAny_pure (wpAny_pure hq))
theorem seq_via {t u : TS} {D : Ends} {σ : L2.St} {H : Hp} (P : L2.St → Hp → Prop) (hu : ∀ σ H, P σ H → u D σ H) (ht : (∀ σ H, P σ H → u D σ H) → t { D with nx := u D } σ H) : tSeq t u D σ H := ht hu
def isVarN : PyData → Bool
  | .tuple [_, _] => true | _ => false
def numN : PyData → Int
  | .tuple [_, .int n] => n | _ => 0
theorem var_arN {d : PyData} (h : isVarN d = true) : arN d = 0 := by
  cases d with
  | tuple ds =>
    rcases ds with _ | ⟨a, _ | ⟨b, _ | ⟨c, r⟩⟩⟩
    · rfl
    · rfl
    · rfl
    · cases h
  | _ => rfl
theorem nd_eq {d e : PyData} (h : NdA d) (h2 : NdA e) (q : PyData.eqv d e = true) : d = e := by
  obtain ⟨wd, h⟩ := h
  obtain ⟨we, h2⟩ := h2
  cases h with
  | v n _ _ =>
    cases h2 with
    | v m _ _ =>
      simp only [PyData.eqv, PyData.eqvAll, Bool.and_eq_true, beq_iff_eq] at q
      rw [q.2.1]
    | i m _ _ => simp [PyData.eqv] at q
    | f x m _ _ _ => simp [PyData.eqv, PyData.eqvAll] at q
  | i n _ _ =>
    cases h2 with
    | v m _ _ => simp [PyData.eqv] at q
    | i m _ _ =>
      simp only [PyData.eqv, beq_iff_eq] at q
      rw [q]
    | f x m _ _ _ => simp [PyData.eqv] at q
  | f x n _ _ _ =>
    cases h2 with
    | v m _ _ => simp [PyData.eqv, PyData.eqvAll] at q
    | i m _ _ => simp [PyData.eqv] at q
    | f y m _ _ _ =>
      simp only [PyData.eqv, PyData.eqvAll, Bool.and_eq_true, beq_iff_eq] at q
      rw [q.2.1, q.2.2.1]
theorem nds_eq : ∀ {ds es : List PyData}, (∀ d ∈ ds, NdA d) → (∀ e ∈ es, NdA e) → PyData.eqvAll ds es = true → ds = es
  | [], [], _, _, _ => rfl
  | [], _ :: _, _, _, h => by simp [PyData.eqvAll] at h
  | _ :: _, [], _, _, h => by simp [PyData.eqvAll] at h
  | d :: ds, e :: es, h1, h2, h => by
    simp only [PyData.eqvAll, Bool.and_eq_true] at h
    rw [nd_eq (h1 d List.mem_cons_self) (h2 e List.mem_cons_self) h.1, nds_eq (fun x hx => h1 x (List.mem_cons_of_mem _ hx)) (fun x hx => h2 x (List.mem_cons_of_mem _ hx)) h.2]
theorem tup_eq {ds es : List PyData} (h1 : ∀ d ∈ ds, NdA d) (h2 : ∀ e ∈ es, NdA e) (h : PyData.eqv (.tuple ds) (.tuple es) = true) : ds = es := by
  simp only [PyData.eqv] at h
  exact nds_eq h1 h2 h
theorem cls_app : ∀ (l r : List PyData) (j k : Nat), Cls j l → Cls k r → Cls (j + k) (l ++ r)
  | [], r, j, k, h, h2 => by
    have e : j = 0 := h
    rw [e, Nat.zero_add]
    exact h2
  | d :: l, r, j, k, h, h2 => by
    refine ⟨by have := h.1; omega, ?_⟩
    have := cls_app l r (j - 1 + arN d) k h.2 h2
    have e := h.1
    rwa [show j - 1 + arN d + k = j + k - 1 + arN d by omega] at this
/-- at each place of what is closed so many terms are missing -/
theorem cls_split : ∀ (ds : List PyData) (m i : Nat), Cls m ds → i ≤ ds.length → ∃ k, Cls k (ds.drop i) ∧ ∀ t, Cls k t → Cls m (ds.take i ++ t)
  | ds, m, 0, h, _ => ⟨m, h, fun t ht => ht⟩
  | [], m, i + 1, h, hi => absurd hi (by simp)
  | d :: ds, m, i + 1, h, hi => by
    obtain ⟨k, h1, h2⟩ := cls_split ds (m - 1 + arN d) i h.2 (by simpa using hi)
    exact ⟨k, h1, fun t ht => ⟨h.1, h2 t ht⟩⟩
abbrev Tab := List (Int × List PyData)
def valT (t : Tab) (n : Int) : Option (List PyData) := (t.find? fun p => decide (p.1 = n)).map (·.2)
/-- a dict with this table -/
def TabK (K : PySem.W.Frag) (H : Hp) : List (Key × V) → Tab → Prop
  | [], [] => True
  | p :: kvs, q :: t => p.1 = Sum.inl q.1 ∧ Dp K H p.2 (.tuple q.2) ∧ TabK K H kvs t
  | _, _ => False
def TabN (t : Tab) : Prop := ∀ p ∈ t, (∀ d ∈ p.2, NdA d)
theorem TabK.len {K : PySem.W.Frag} {H : Hp} : ∀ {kvs : List (Key × V)} {t : Tab}, TabK K H kvs t → kvs.length = t.length
  | [], [], _ => rfl
  | [], _ :: _, h => h.elim
  | _ :: _, [], h => h.elim
  | p :: kvs, q :: t, h => congrArg (· + 1) (TabK.len h.2.2)
theorem TabK.mono {K : PySem.W.Frag} {H H' : Hp} (f : ∀ v ds, (∀ d ∈ ds, NdA d) → Dp K H v (.tuple ds) → Dp K H' v (.tuple ds)) : ∀ {kvs : List (Key × V)} {t : Tab}, TabN t → TabK K H kvs t → TabK K H' kvs t
  | [], [], _, _ => True.intro
  | [], _ :: _, _, h => h.elim
  | _ :: _, [], _, h => h.elim
  | p :: kvs, q :: t, n, h => ⟨h.1, f _ _ (n q List.mem_cons_self) h.2.1, TabK.mono f (fun x hx => n x (List.mem_cons_of_mem _ hx)) h.2.2⟩
theorem TabK.val {K : PySem.W.Frag} {H : Hp} (n : Int) : ∀ {kvs : List (Key × V)} {t : Tab}, TabK K H kvs t → (valV kvs (Sum.inl n) = none ∧ valT t n = none) ∨ ∃ v ds, valV kvs (Sum.inl n) = some v ∧ valT t n = some ds ∧ Dp K H v (.tuple ds)
  | [], [], _ => .inl ⟨rfl, rfl⟩
  | [], _ :: _, h => h.elim
  | _ :: _, [], h => h.elim
  | p :: kvs, q :: t, h => by
    by_cases e : q.1 = n
    · refine .inr ⟨p.2, q.2, valV_pos (by rw [h.1, e]), ?_, h.2.1⟩
      unfold valT
      rw [List.find?_cons, decide_eq_true e]
      rfl
    · have e1 : ¬ p.1 = Sum.inl n := fun z => e (Sum.inl.inj (h.1.symm.trans z))
      have e2 : valT (q :: t) n = valT t n := by
        unfold valT
        rw [List.find?_cons, decide_eq_false e]
      rw [valV_neg e1, e2]
      exact TabK.val n h.2.2
theorem TabK.snoc {K : PySem.W.Frag} {H : Hp} {n : Int} {v : V} {ds : List PyData} (hd : Dp K H v (.tuple ds)) : ∀ {kvs : List (Key × V)} {t : Tab}, TabK K H kvs t → TabK K H (kvs ++ [(Sum.inl n, v)]) (t ++ [(n, ds)])
  | [], [], _ => ⟨rfl, hd, True.intro⟩
  | [], _ :: _, h => h.elim
  | _ :: _, [], h => h.elim
  | p :: kvs, q :: t, h => ⟨h.1, h.2.1, TabK.snoc hd h.2.2⟩
theorem valT_snoc (t : Tab) (n m : Int) (ds : List PyData) (h : valT t n = none) : valT (t ++ [(n, ds)]) m = if m = n then some ds else valT t m := by
  unfold valT at *
  rw [List.find?_append]
  cases e : t.find? fun p => decide (p.1 = m) with
  | some p =>
    have hm : ¬ m = n := fun z => by rw [z] at e; rw [e] at h; cases h
    rw [if_neg hm]
    rfl
  | none =>
    by_cases hm : m = n
    · rw [if_pos hm, Option.none_or]
      rw [List.find?_cons, decide_eq_true hm.symm]
      rfl
    · rw [if_neg hm, Option.none_or]
      rw [List.find?_cons, decide_eq_false (fun z => hm z.symm)]
      rfl
theorem valT_none {t : Tab} {n : Int} (h : valT t n = none) : ∀ q ∈ t, q.1 ≠ n := by
  intro q hq e
  unfold valT at h
  rw [Option.map_eq_none_iff, List.find?_eq_none] at h
  exact h q hq (decide_eq_true e)
mutual
def noL : PyData → Bool
  | .none => true
  | .bool _ => true
  | .int _ => true
  | .str _ => true
  | .tuple ds => noLA ds
  | .list _ => false
  | .dict _ => false
def noLA : List PyData → Bool
  | [] => true
  | d :: ds => noL d && noLA ds
end
def notTup (H : Hp) (p : Addr) : Prop := (∃ ys, H p = some (.lst ys)) ∨ (∃ kvs, H p = some (.dK kvs)) ∨ ∃ o kvs, H p = some (.frz o (.dK kvs))
theorem sqT_put {K : PySem.W.Frag} {H : Hp} {p b : Addr} {o : HO} {xs : List V} (hp : notTup H p) (h : SqT K H b xs) : SqT K (upd H p o) b xs := by
  rcases h with (h | ⟨q, h⟩) | h
  · exact .inl (.inl (by rw [upd_ne (fun z => by rw [z] at h; rcases hp with ⟨_, hp⟩ | ⟨_, hp⟩ | ⟨_, _, hp⟩ <;> (rw [hp] at h; cases h))]; exact h))
  · exact .inl (.inr ⟨q, by rw [upd_ne (fun z => by rw [z] at h; rcases hp with ⟨_, hp⟩ | ⟨_, hp⟩ | ⟨_, _, hp⟩ <;> (rw [hp] at h; cases h))]; exact h⟩)
  · exact .inr h
section
variable {K : PySem.W.Frag} {H : Hp} {p : Addr} {o : HO}
mutual
theorem dp_put (hp : notTup H p) : ∀ (d : PyData) (v : V), noL d = true → Dp K H v d → Dp K (upd H p o) v d
  | .none, _, _, h => by cases h; exact .non
  | .bool b, _, _, h => by cases h; exact .bl b
  | .int i, _, _, h => by cases h; exact .int i
  | .str x, _, _, h => by cases h; exact .str x
  | .list ds, _, n, h => by simp [noL] at n
  | .tuple ds, _, n, h => by
    cases h with
    | tup g ha => exact .tup (sqT_put hp g) (dp_putAll hp ds _ (by simpa [noL] using n) ha)
  | .dict _, _, n, h => by cases h
theorem dp_putAll (hp : notTup H p) : ∀ (ds : List PyData) (vs : List V), noLA ds = true → DpAll K H vs ds → DpAll K (upd H p o) vs ds
  | [], _, _, h => by cases h; exact .nil
  | d :: ds, _, n, h => by
    rw [noLA, Bool.and_eq_true] at n
    cases h with
    | cons h1 h2 => exact .cons (dp_put hp d _ n.1 h1) (dp_putAll hp ds _ n.2 h2)
end
end
theorem nd_noL {d : PyData} (h : NdA d) : noL d = true := by
  obtain ⟨wd, h⟩ := h
  cases h <;> simp [noL, noLA]
theorem nds_noL : ∀ {ds : List PyData}, (∀ d ∈ ds, NdA d) → noLA ds = true
  | [], _ => by simp [noLA]
  | d :: r, h => by rw [noLA, nd_noL (h d List.mem_cons_self), nds_noL fun e he => h e (List.mem_cons_of_mem _ he)]; rfl
theorem tup_noL {ds : List PyData} (h : ∀ d ∈ ds, NdA d) : noL (.tuple ds) = true := by rw [noL]; exact nds_noL h
theorem tab_put {K : PySem.W.Frag} {H : Hp} {p : Addr} {o : HO} {kvs : List (Key × V)} {t : Tab} (hp : notTup H p) (n : TabN t) (h : TabK K H kvs t) : TabK K (upd H p o) kvs t := TabK.mono (fun v ds hn hd => dp_put hp _ _ (tup_noL hn) hd) n h
theorem tab_same {K : PySem.W.Frag} {H H' : Hp} {kvs : List (Key × V)} {t : Tab} (s : Same H H') (n : TabN t) (h : TabK K H kvs t) : TabK K H' kvs t := TabK.mono (fun v ds _ hd => dp_same s _ _ hd) n h
section
variable {K : PySem.W.Frag} {H H' : Hp}
mutual
theorem dp_map (f : ∀ b xs, SqT K H b xs → SqT K H' b xs) : ∀ (d : PyData) (v : V), noL d = true → Dp K H v d → Dp K H' v d
  | .none, _, _, h => by cases h; exact .non
  | .bool b, _, _, h => by cases h; exact .bl b
  | .int i, _, _, h => by cases h; exact .int i
  | .str x, _, _, h => by cases h; exact .str x
  | .list ds, _, n, h => by simp [noL] at n
  | .tuple ds, _, n, h => by
    cases h with
    | tup g ha => exact .tup (f _ _ g) (dp_mapAll f ds _ (by simpa [noL] using n) ha)
  | .dict _, _, n, h => by cases h
theorem dp_mapAll (f : ∀ b xs, SqT K H b xs → SqT K H' b xs) : ∀ (ds : List PyData) (vs : List V), noLA ds = true → DpAll K H vs ds → DpAll K H' vs ds
  | [], _, _, h => by cases h; exact .nil
  | d :: ds, _, n, h => by
    rw [noLA, Bool.and_eq_true] at n
    cases h with
    | cons h1 h2 => exact .cons (dp_map f d _ n.1 h1) (dp_mapAll f ds _ n.2 h2)
end
theorem sqT_but {p b : Addr} {xs : List V} (hp : notTup H p) (hb : But p H H') (h : SqT K H b xs) : SqT K H' b xs := by
  rcases h with (h | ⟨q, h⟩) | h
  · exact .inl (.inl (hb _ _ (fun z => by rw [z] at h; rcases hp with ⟨_, hp⟩ | ⟨_, hp⟩ | ⟨_, _, hp⟩ <;> (rw [hp] at h; cases h)) h))
  · exact .inl (.inr ⟨q, hb _ _ (fun z => by rw [z] at h; rcases hp with ⟨_, hp⟩ | ⟨_, hp⟩ | ⟨_, _, hp⟩ <;> (rw [hp] at h; cases h)) h⟩)
  · exact .inr h
/-- draws change the stream alone -/
theorem dp_but {s l : Addr} {v : V} {ds : List PyData} (S : Stm H s l) (b : But s H H') (n : ∀ d ∈ ds, NdA d) (h : Dp K H v (.tuple ds)) : Dp K H' v (.tuple ds) := by
  obtain ⟨x, y, m, ns, e, _⟩ := S.ex
  exact dp_map (fun c xs g => sqT_but (.inl ⟨_, e⟩) b g) _ _ (tup_noL n) h
end
theorem TabK.rep {K : PySem.W.Frag} {H : Hp} {n : Int} {v : V} {ds : List PyData} (hd : Dp K H v (.tuple ds)) : ∀ {kvs : List (Key × V)} {t : Tab}, TabK K H kvs t → TabK K H (kvs.map fun kv => if kv.1 = Sum.inl n then (kv.1, v) else kv) (t.map fun q => if q.1 = n then (q.1, ds) else q)
  | [], [], _ => True.intro
  | [], _ :: _, h => h.elim
  | _ :: _, [], h => h.elim
  | p :: kvs, q :: t, h => by
    have i : p.1 = Sum.inl n ↔ q.1 = n := by rw [h.1]; exact ⟨fun z => Sum.inl.inj z, fun z => congrArg _ z⟩
    refine ⟨?_, ?_, TabK.rep hd h.2.2⟩
    · by_cases e : q.1 = n
      · simp only [if_pos e, if_pos (i.mpr e)]; exact h.1
      · simp only [if_neg e, if_neg (fun z => e (i.mp z))]; exact h.1
    · by_cases e : q.1 = n
      · simp only [if_pos e, if_pos (i.mpr e)]; exact hd
      · simp only [if_neg e, if_neg (fun z => e (i.mp z))]; exact h.2.1
theorem TabK.put {K : PySem.W.Frag} {H : Hp} {n : Int} {v : V} {ds : List PyData} (hd : Dp K H v (.tuple ds)) {kvs : List (Key × V)} {t : Tab} (h : TabK K H kvs t) : ∃ t', TabK K H (putK kvs (Sum.inl n) v) t' ∧ (∀ q ∈ t', q ∈ t ∨ q.2 = ds) ∧ t'.length ≤ t.length + 1 := by
  unfold putK
  split
  · refine ⟨_, TabK.rep hd h, fun q hq => ?_, by rw [List.length_map]; exact Nat.le_succ _⟩
    obtain ⟨q', h1, h2⟩ := List.mem_map.mp hq
    split at h2
    · right; rw [← h2]
    · left; rw [← h2]; exact h1
  · refine ⟨_, TabK.snoc hd h, fun q hq => ?_, by rw [List.length_append]; exact Nat.le_refl _⟩
    rcases List.mem_append.mp hq with z | z
    · exact .inl z
    · right; rw [List.mem_singleton.mp z]
theorem TabK.at_ {K : PySem.W.Frag} {H : Hp} : ∀ {kvs : List (Key × V)} {t : Tab} {i : Nat} {k : Key} {v : V}, TabK K H kvs t → kvs[i]? = some (k, v) → ∃ q, q ∈ t ∧ k = Sum.inl q.1
  | [], [], i, k, v, _, h => by simp at h
  | [], _ :: _, _, _, _, h, _ => h.elim
  | _ :: _, [], _, _, _, h, _ => h.elim
  | p :: kvs, q :: t, 0, k, v, h, e => by
    rw [List.getElem?_cons_zero] at e
    cases e
    exact ⟨q, List.mem_cons_self, h.1⟩
  | p :: kvs, q :: t, i + 1, k, v, h, e => by
    rw [List.getElem?_cons_succ] at e
    obtain ⟨q', h1, h2⟩ := TabK.at_ h.2.2 e
    exact ⟨q', List.mem_cons_of_mem _ h1, h2⟩
theorem valT_of {t : Tab} {q : Int × List PyData} (h : q ∈ t) : ∃ ds, valT t q.1 = some ds := by
  cases e : valT t q.1 with
  | some ds => exact ⟨ds, rfl⟩
  | none => exact absurd rfl (valT_none e q h)
theorem putK_old {kvs : List (Key × V)} {k : Key} {v w : V} (h : valV kvs k = some w) : putK kvs k v = kvs.map fun kv => if kv.1 = k then (kv.1, v) else kv := by
  unfold putK
  rw [if_pos (by rw [valV_any, h]; rfl)]
theorem valT_mem {t : Tab} {n : Int} {ds : List PyData} (h : valT t n = some ds) : ∃ q ∈ t, q.2 = ds := by
  unfold valT at h
  cases e : t.find? fun p => decide (p.1 = n) with
  | none => rw [e] at h; cases h
  | some p =>
    rw [e] at h
    exact ⟨p, List.mem_of_find?_eq_some e, Option.some.inj h⟩
/-- a dict comprehension over what is walked -/
theorem dc_it {J : It} {n : Nat} {G : Hp → Prop} {Y : Nat → Hp → V → Hp → Prop} (wk : Walk J n G Y) {g : TG} {tt : TT} {tk tv : TE} {vs : List Nat} {σ : L2.St} {H1 : Hp} {D : Addr} {Qd : Hp → Prop} (Pv : Nat → Hp → Prop) (p0 : Pv 0 (upd H1 D (.dK []))) (pG : ∀ i H, i ≤ n → Pv i H → G H)
    (turn : ∀ i x H H', i < n → Pv i H → Y i H x H' → g x (wipe σ vs) H' fun σ2 H2 => wipe σ2 vs = wipe σ vs ∧ tt σ2 H2 fun b H3 =>
      if b = true then tk σ2 H3 fun y H4 => tv σ2 H4 fun z H5 => ∃ kvs k, y = kV k ∧ H5 D = some (.dK kvs) ∧ kvs.length < sizeLine ∧ Pv (i + 1) (upd H5 D (.dK (putK kvs k z))) else Pv (i + 1) H3) (pd : ∀ H, Pv n H → Qd H) :
    ∃ W : Nat → Nat → Hp → Prop, (∃ m, W 0 m (upd H1 D (.dK []))) ∧ ∀ i m H, W i m H →
      (J.stop i H ∧ Qd H) ∨ (J.go i H ∧ ∃ Nx : Hp → Prop, (∀ H', Nx H' → ∃ m', m' < m ∧ W (i + 1) m' H') ∧ ∀ x H', J.yld i H x H' → g x (wipe σ vs) H' fun σ2 H2 => wipe σ2 vs = wipe σ vs ∧ tt σ2 H2 fun b H3 =>
        if b = true then tk σ2 H3 fun y H4 => tv σ2 H4 fun z H5 => ∃ kvs k, y = kV k ∧ H5 D = some (.dK kvs) ∧ kvs.length < sizeLine ∧ Nx (upd H5 D (.dK (putK kvs k z))) else Nx H3) := by
  refine ⟨fun i m H => m = n - i ∧ i ≤ n ∧ Pv i H, ⟨n, by simp, Nat.zero_le _, p0⟩, ?_⟩
  rintro i m H ⟨rfl, hi, hp⟩
  have hg := pG i H hi hp
  rcases Nat.lt_or_ge i n with hlt | hge
  · exact .inr ⟨wk.goes i H hlt hg, Pv (i + 1), fun σ' p' => ⟨n - (i + 1), by omega, rfl, hlt, p'⟩, fun x H' y => turn i x H H' hlt hp (wk.yields i H x H' hlt hg y)⟩
  · obtain rfl : i = n := by omega
    exact .inl ⟨wk.stops H hg, pd H hp⟩
theorem TabK.get {K : PySem.W.Frag} {H : Hp} : ∀ {kvs : List (Key × V)} {t : Tab} {i : Nat} {kv : Key × V}, TabK K H kvs t → kvs[i]? = some kv → ∃ q, t[i]? = some q ∧ kv.1 = Sum.inl q.1 ∧ Dp K H kv.2 (.tuple q.2)
  | [], [], i, kv, _, h => by simp at h
  | [], _ :: _, _, _, h, _ => h.elim
  | _ :: _, [], _, _, h, _ => h.elim
  | p :: kvs, q :: t, 0, kv, h, e => by
    rw [List.getElem?_cons_zero] at e
    cases e
    exact ⟨q, rfl, h.1, h.2.1⟩
  | p :: kvs, q :: t, i + 1, kv, h, e => by
    rw [List.getElem?_cons_succ] at e
    obtain ⟨q', h1, h2⟩ := TabK.get h.2.2 e
    exact ⟨q', by rw [List.getElem?_cons_succ]; exact h1, h2⟩
theorem valT_notin {t : Tab} {n : Int} (h : n ∉ t.map (·.1)) : valT t n = none := by
  unfold valT
  rw [Option.map_eq_none_iff, List.find?_eq_none]
  exact fun q hq e => h (List.mem_map.mpr ⟨q, hq, of_decide_eq_true e⟩)
theorem TabK.none {K : PySem.W.Frag} {H : Hp} {kvs : List (Key × V)} {t : Tab} {n : Int} (T : TabK K H kvs t) (h : n ∉ t.map (·.1)) : valV kvs (Sum.inl n) = Option.none := by
  rcases TabK.val n T with ⟨w, _⟩ | ⟨v, ds, _, w, _⟩
  · exact w
  · rw [valT_notin h] at w; cases w
theorem TabK.some {K : PySem.W.Frag} {H : Hp} {kvs : List (Key × V)} {t : Tab} {n : Int} (T : TabK K H kvs t) (h : n ∈ t.map (·.1)) : (valV kvs (Sum.inl n)).isSome = true := by
  obtain ⟨q, hq, rfl⟩ := List.mem_map.mp h
  rcases TabK.val q.1 T with ⟨_, w⟩ | ⟨v, ds, w, _, _⟩
  · exact absurd rfl (valT_none w q hq)
  · rw [w]; rfl
/-- a key that is new goes to the end -/
theorem TabK.add {K : PySem.W.Frag} {H : Hp} {kvs : List (Key × V)} {t : Tab} {n : Int} {v : V} {ds : List PyData} (T : TabK K H kvs t) (h : n ∉ t.map (·.1)) (hd : Dp K H v (.tuple ds)) : TabK K H (putK kvs (Sum.inl n) v) (t ++ [(n, ds)]) := by
  rw [putK_new _ (T.none h)]
  exact TabK.snoc hd T
/-- the i-th key is none of those before -/
theorem nodup_new {t : Tab} {i : Nat} {q : Int × List PyData} (h : (t.map (·.1)).Nodup) (hq : t[i]? = some q) : q.1 ∉ (t.take i).map (·.1) := by
  intro hm
  obtain ⟨x, hx, e⟩ := List.mem_map.mp hm
  obtain ⟨j, hj⟩ := List.getElem?_of_mem hx
  have hji : j < i := by
    have := (List.getElem?_eq_some_iff.mp hj).1
    rw [List.length_take] at this
    omega
  rw [List.getElem?_take_of_lt hji] at hj
  have a1 : (t.map (·.1))[j]? = some q.1 := by rw [List.getElem?_map, hj, ← e]; rfl
  have a2 : (t.map (·.1))[i]? = some q.1 := by rw [List.getElem?_map, hq]; rfl
  have b1 := (List.getElem?_eq_some_iff.mp a1).1
  have := (List.getElem?_inj b1 h).mp (a1.trans a2.symm)
  omega
/-! ### substitutions -/
def varN (n : Int) : List PyData := [.tuple [.str "v", .int n]]
def appN (t : Tab) (d : PyData) : List PyData := if isVarN d = true then (match valT t (numN d) with | some w => w | none => [d]) else [d]
def appM (t : Tab) (ds : List PyData) : List PyData := ds.flatMap (appN t)
/-- a value that is the key itself falls out -/
def keepN (n : Int) (w : List PyData) : Option (List PyData) := if PyData.eqv (.tuple w) (.tuple (varN n)) = true then none else some w
def compV (t u : Tab) (n : Int) : Option (List PyData) :=
  match valT t n with
  | some w => keepN n (appM u w)
  | none => (match valT u n with | some w => keepN n w | none => none)
theorem var_form {d : PyData} (h : NdA d) (v : isVarN d = true) : ∃ n, d = .tuple [.str "v", .int n] := by
  obtain ⟨wd, nd⟩ := h
  cases nd with
  | v n _ _ => exact ⟨n, rfl⟩
  | i n _ _ => cases v
  | f x n _ _ _ => cases v
theorem var_nd {n : Int} (h : 0 ≤ n) : ∀ d ∈ varN n, NdA d := fun d hd => ⟨n + 1, by rw [List.mem_singleton.mp hd]; exact .v n h (by omega)⟩
theorem valT_nd {t : Tab} {n : Int} {w : List PyData} (ht : TabN t) (h : valT t n = some w) : ∀ d ∈ w, NdA d := by
  obtain ⟨q, hq, e⟩ := valT_mem h
  rw [← e]
  exact ht q hq
theorem appN_nd {t : Tab} (ht : TabN t) {d : PyData} (hd : NdA d) : ∀ e ∈ appN t d, NdA e := by
  unfold appN
  by_cases v : isVarN d = true
  · rw [if_pos v]
    cases e : valT t (numN d) with
    | some w => exact valT_nd ht e
    | none => exact fun e he => by rw [List.mem_singleton.mp he]; exact hd
  · rw [if_neg v]
    exact fun e he => by rw [List.mem_singleton.mp he]; exact hd
theorem appM_nd {t : Tab} (ht : TabN t) {ds : List PyData} (hd : ∀ d ∈ ds, NdA d) : ∀ e ∈ appM t ds, NdA e := fun e he => by
  obtain ⟨d, h1, h2⟩ := List.mem_flatMap.mp he
  exact appN_nd ht (hd d h1) e h2
theorem var_num {d : PyData} (h : NdA d) (v : isVarN d = true) : ∃ n, 0 ≤ n ∧ d = .tuple [.str "v", .int n] := by
  obtain ⟨wd, nd⟩ := h
  cases nd with
  | v n h1 _ => exact ⟨n, h1, rfl⟩
  | i n _ _ => cases v
  | f x n _ _ _ => cases v
theorem comp_app {t u c : Tab} (nt : TabN t) (nu : TabN u) (hc : ∀ n, valT c n = compV t u n) {ds : List PyData} (nd : ∀ d ∈ ds, NdA d) : appM c ds = appM u (appM t ds) := by
  unfold appM
  rw [List.flatMap_assoc]
  have h : ∀ d ∈ ds, appN c d = (appN t d).flatMap (appN u) := by
    intro d hd
    by_cases v : isVarN d = true
    · obtain ⟨n, n0, rfl⟩ := var_num (nd d hd) v
      have e1 : ∀ s : Tab, appN s (.tuple [.str "v", .int n]) = (match valT s n with | some w => w | none => varN n) := fun s => by
        unfold appN
        rw [if_pos v]
        rfl
      rw [e1, e1, hc n]
      unfold compV
      cases ht : valT t n with
      | some w =>
        simp only
        unfold keepN
        by_cases hk : PyData.eqv (.tuple (appM u w)) (.tuple (varN n)) = true
        · rw [if_pos hk]
          exact (tup_eq (appM_nd nu (valT_nd nt ht)) (var_nd n0) hk).symm
        · rw [if_neg hk]
          rfl
      | none =>
        simp only
        have e2 : (varN n).flatMap (appN u) = (match valT u n with | some w => w | none => varN n) := by
          unfold varN
          rw [List.flatMap_cons, List.flatMap_nil, List.append_nil]
          exact e1 u
        rw [e2]
        cases hu : valT u n with
        | some w =>
          simp only
          unfold keepN
          by_cases hk : PyData.eqv (.tuple w) (.tuple (varN n)) = true
          · rw [if_pos hk]
            exact (tup_eq (valT_nd nu hu) (var_nd n0) hk).symm
          · rw [if_neg hk]
        | none => rfl
    · have e3 : ∀ s : Tab, appN s d = [d] := fun s => if_neg v
      rw [e3, e3, List.flatMap_cons, List.flatMap_nil, List.append_nil, e3]
  clear hc
  induction ds with
  | nil => rfl
  | cons d r ih =>
    rw [List.flatMap_cons, List.flatMap_cons, h d List.mem_cons_self, ih (fun x hx => nd x (List.mem_cons_of_mem _ hx)) fun x hx => h x (List.mem_cons_of_mem _ hx)]
theorem appM_take {t : Tab} {ds : List PyData} {i : Nat} {d : PyData} (h : ds[i]? = some d) : appM t (ds.take (i + 1)) = appM t (ds.take i) ++ appN t d := by
  unfold appM
  rw [List.take_add_one, h, List.flatMap_append]
  show _ ++ (appN t d ++ []) = _
  rw [List.append_nil]
theorem appN_non {t : Tab} {d : PyData} (v : ¬ isVarN d = true) : appN t d = [d] := if_neg v
theorem appN_out {t : Tab} {n : Int} (h : valT t n = none) : appN t (.tuple [.str "v", .int n]) = [.tuple [.str "v", .int n]] := by
  unfold appN
  rw [if_pos (show isVarN (.tuple [.str "v", .int n]) = true from rfl), show numN (.tuple [.str "v", .int n]) = n from rfl, h]
theorem appN_in {t : Tab} {n : Int} {w : List PyData} (h : valT t n = some w) : appN t (.tuple [.str "v", .int n]) = w := by
  unfold appN
  rw [if_pos (show isVarN (.tuple [.str "v", .int n]) = true from rfl), show numN (.tuple [.str "v", .int n]) = n from rfl, h]
/-- the composed table: the first one's values with the second applied, then what the second adds, without a key that is its own value -/
def comp1 (t u : Tab) : Tab := t.map fun x => (x.1, appM u x.2)
def newK (t : Tab) (x : Int × List PyData) : Bool := !(decide (x.1 ∈ t.map (·.1)))
def notOwn (x : Int × List PyData) : Bool := !PyData.eqv (.tuple x.2) (.tuple (varN x.1))
def compT (t u : Tab) : Tab := (comp1 t u ++ u.filter (newK t)).filter notOwn
theorem comp1_keys (t u : Tab) : (comp1 t u).map (·.1) = t.map (·.1) := by unfold comp1; rw [List.map_map]; rfl
theorem comp1_nd {t u : Tab} (ht : TabN t) (hu : TabN u) : TabN (comp1 t u) := fun x hx => by
  obtain ⟨q, h1, rfl⟩ := List.mem_map.mp hx
  exact appM_nd hu (ht q h1)
/-! ### walks, ints, picks -/
theorem walk_gen {J : It} {n : Nat} {G : Hp → Prop} {Y : Nat → Hp → V → Hp → Prop} (wk : Walk J n G Y) {B : V → Hp → (Hp → Prop) → Prop} {H0 : Hp} {Qd : Hp → Prop} (Pv : Nat → Hp → Prop) (p0 : Pv 0 H0) (pG : ∀ i H, i ≤ n → Pv i H → G H)
    (turn : ∀ i x H H', i < n → Pv i H → Y i H x H' → B x H' (Pv (i + 1))) (pd : ∀ H, Pv n H → Qd H) :
    ∃ W : Nat → Nat → Hp → Prop, (∃ m, W 0 m H0) ∧ ∀ i m H, W i m H → (J.stop i H ∧ Qd H) ∨ (J.go i H ∧ ∃ Nx : Hp → Prop, (∀ H', Nx H' → ∃ m', m' < m ∧ W (i + 1) m' H') ∧ ∀ x H', J.yld i H x H' → B x H' Nx) := by
  refine ⟨fun i m H => m = n - i ∧ i ≤ n ∧ Pv i H, ⟨n, by simp, Nat.zero_le _, p0⟩, ?_⟩
  rintro i m H ⟨rfl, hi, hp⟩
  have hg := pG i H hi hp
  rcases Nat.lt_or_ge i n with hlt | hge
  · exact .inr ⟨wk.goes i H hlt hg, Pv (i + 1), fun σ' p' => ⟨n - (i + 1), by omega, rfl, hlt, p'⟩, fun x H' y => turn i x H H' hlt hp (wk.yields i H x H' hlt hg y)⟩
  · obtain rfl : i = n := by omega
    exact .inl ⟨wk.stops H hg, pd H hp⟩
theorem ints_lay : ∀ (ns : List Int), PyData.canLayAll0 (ns.map PyData.int) = true ∧ PyData.depthAll (ns.map PyData.int) = 0 ∧ PyData.eqvAll (ns.map PyData.int) (ns.map PyData.int) = true
  | [] => ⟨by simp [PyData.canLayAll0], by simp [PyData.depthAll], by simp [PyData.eqvAll]⟩
  | n :: ns => by
    obtain ⟨a, b, c⟩ := ints_lay ns
    rw [List.map_cons]
    refine ⟨by simp only [PyData.canLayAll0, PyData.canLay0, a, Bool.and_self], ?_, by simp only [PyData.eqvAll, PyData.eqv, c, beq_self_eq_true, Bool.and_self]⟩
    simp only [PyData.depthAll, PyData.depth, b]
    rfl
theorem ints_shaped (ns : List Int) : SeqAt.shaped (.list (ns.map PyData.int)) = true := by
  obtain ⟨a, b, _⟩ := ints_lay ns
  have hd : (PyData.list (ns.map PyData.int)).depth ≤ 64 := by simp only [PyData.depth, b]; decide
  have hc : (PyData.list (ns.map PyData.int)).canLay0 = true := by simp only [PyData.canLay0]; exact a
  show ((PyData.list (ns.map PyData.int)).canLay0 && decide ((PyData.list (ns.map PyData.int)).depth ≤ 64)) = true
  rw [hc, decide_eq_true hd]
  rfl
theorem ints_eqv (ns : List Int) : PyData.eqv (.list (ns.map PyData.int)) (.list (ns.map PyData.int)) = true := by
  simp only [PyData.eqv]
  exact (ints_lay ns).2.2
theorem dp_ints {K : PySem.W.Frag} {H : Hp} : ∀ ns : List Int, DpAll K H (ns.map V.int) (ns.map PyData.int)
  | [] => .nil
  | n :: r => .cons (.int n) (dp_ints r)
theorem lit_pick {K : PySem.W.Frag} {G : Addr → Prop} {H : Hp} {xs : List V} {names : List Str} {r : Int} (a : ImAll K G H xs (names.map PyData.str)) (r0 : 0 ≤ r) (r1 : r < (names.length : Int)) : ∃ x, x ∈ names ∧ atI xs r = some (.str x) := by
  have hr : r.toNat < names.length := by omega
  have hd : (names.map PyData.str)[r.toNat]? = some (.str names[r.toNat]) := by
    rw [List.getElem?_map, List.getElem?_eq_getElem hr]
    rfl
  obtain ⟨v, hv, iv⟩ := ImAll.get a hd
  cases iv
  exact ⟨_, List.getElem_mem hr, at_of (j := r.toNat) (by omega) hv⟩
theorem ixN_nat {n j : Nat} (h : j < n) : ixN n (j : Int) = some j := by
  unfold ixN
  rw [if_pos (by omega), if_pos (by omega), Int.toNat_natCast]
theorem dp_snoc {K : PySem.W.Frag} {H : Hp} : ∀ {B : List V} {v : V} {es : List PyData}, DpAll K H (B ++ [v]) es → ∃ E e, es = E ++ [e] ∧ DpAll K H B E ∧ Dp K H v e
  | [], v, _, h => by
    cases h with
    | cons h1 h2 =>
      cases h2
      exact ⟨[], _, rfl, .nil, h1⟩
  | b :: B, v, _, h => by
    cases h with
    | cons h1 h2 =>
      obtain ⟨E, e, rfl, a, c⟩ := dp_snoc h2
      exact ⟨_ :: E, e, rfl, .cons h1 a, c⟩
theorem int_pick {K : PySem.W.Frag} {G : Addr → Prop} {H : Hp} {xs : List V} {is : List Int} {r : Int} (a : ImAll K G H xs (is.map PyData.int)) (r0 : 0 ≤ r) (r1 : r < (is.length : Int)) : ∃ x, x ∈ is ∧ atI xs r = some (.int x) := by
  have hr : r.toNat < is.length := by omega
  have hd : (is.map PyData.int)[r.toNat]? = some (.int is[r.toNat]) := by
    rw [List.getElem?_map, List.getElem?_eq_getElem hr]
    rfl
  obtain ⟨v, hv, iv⟩ := ImAll.get a hd
  cases iv
  exact ⟨_, List.getElem_mem hr, at_of (j := r.toNat) (by omega) hv⟩
/-! ### locations -/
abbrev Lc := Str × Int
def locD (p : Lc) : PyData := .tuple [.str p.1, .int p.2]
def push (acc : List Lc) (x : Lc) : List Lc := if x ∈ acc then acc else acc ++ [x]
def ddp (L : List Lc) : List Lc := L.foldl push []
def loc1 : PyData → Lc
  | .tuple [.str w, .int n] => (w, n)
  | .int n => ("x", n)
  | _ => ("", 0)
def locsOf (c : Nat) (d : PyData) : List Lc :=
  if c = 107 then (match d with | .int n => (List.range n.toNat).map fun (i : Nat) => (("x" : Str), (i : Int)) | _ => []) else [loc1 d]
structure PartOk (c : Nat) (d : PyData) : Prop where
  loc : c = 76 → ∃ q : Lc, PyData.strOk q.1 = true ∧ d = locD q
  num : c = 97 → ∃ n : Nat, d = .int (n : Int)
  cnt : c = 107 → ∃ n : Nat, n ≤ 8 ∧ d = .int (n : Int)
structure Kd where
  w : Str
  k : Str
  r : Str
  t : Str
def kdD (q : Kd) : PyData := .tuple [.str q.w, .str q.k, .str q.r, .str q.t]
def kindsL : List Kd := [⟨"get_variable", "La", "a", "L"⟩, ⟨"get_value", "La", "La", ""⟩, ⟨"get_constant", "Ca", "a", ""⟩, ⟨"get_structure", "nKa", "a", ""⟩, ⟨"unify_variable", "L", "", "L"⟩, ⟨"unify_value", "L", "L", ""⟩, ⟨"unify_constant", "C", "", ""⟩, ⟨"put_variable", "La", "", "La"⟩, ⟨"put_value", "La", "L", "a"⟩, ⟨"put_constant", "Ca", "", "a"⟩, ⟨"put_structure", "nKL", "", "L"⟩, ⟨"set_variable", "L", "", "L"⟩, ⟨"set_value", "L", "L", ""⟩, ⟨"set_constant", "C", "", ""⟩, ⟨"allocate", "i", "", ""⟩, ⟨"deallocate", "", "", ""⟩, ⟨"call", "nki", "k", ""⟩, ⟨"execute", "nk", "k", ""⟩, ⟨"proceed", "", "", ""⟩, ⟨"mark", "L", "", "L"⟩, ⟨"commit", "L", "L", ""⟩, ⟨"cut", "", "", ""⟩, ⟨"try_else", "i", "", ""⟩, ⟨"jump", "i", "", ""⟩, ⟨"fail", "", "", ""⟩]
def readsT : List (Str × List Int) := [("get_variable", [2]), ("get_value", [1, 2]), ("get_constant", [2]), ("get_structure", [3]), ("unify_value", [1]), ("put_value", [1]), ("set_value", [1]), ("commit", [1])]
def writesT : List (Str × List Int) := [("get_variable", [1]), ("unify_variable", [1]), ("put_variable", [1, 2]), ("put_value", [2]), ("put_constant", [2]), ("put_structure", [3]), ("set_variable", [1]), ("mark", [1])]
def readsN : List Str := ["unify_variable", "unify_constant", "put_variable", "put_constant", "put_structure", "set_variable", "set_constant", "allocate", "deallocate", "proceed", "mark", "cut", "try_else", "jump", "fail"]
def writesN : List Str := ["get_value", "get_constant", "get_structure", "unify_value", "unify_constant", "set_value", "set_constant", "allocate", "deallocate", "call", "execute", "proceed", "commit", "cut", "try_else", "jump", "fail"]
def idxC (k : Str) (c : Nat) : Nat := k.cps.toList.idxOf c
def isCall (w : Str) : Bool := inV (.str w) [.str "call", .str "execute"]
/-- where the signs of a kind stand in the instruction -/
def placesOf (k r : Str) : List Int := r.cps.toList.map fun c => ((idxC k c + 1 : Nat) : Int)
def goodSign (k : Str) (c : Nat) : Bool := (decide (c = 76) || decide (c = 97)) && decide (idxC k c < k.cps.toList.length)
def kindR (q : Kd) : Bool := if isCall q.w = true then decide (q.r.cps.toList = [107]) && decide (idxC q.k 107 = 1) && decide (1 < q.k.cps.toList.length) else (decide ((q.w, placesOf q.k q.r) ∈ readsT) || (decide (q.w ∈ readsN) && decide (placesOf q.k q.r = []))) && q.r.cps.toList.all (goodSign q.k)
def kindW (q : Kd) : Bool := (decide ((q.w, placesOf q.k q.t) ∈ writesT) || (decide (q.w ∈ writesN) && decide (placesOf q.k q.t = []))) && q.t.cps.toList.all (goodSign q.k)
theorem kinds_r : ∀ q ∈ kindsL, kindR q = true := by decide +kernel
theorem kinds_w : ∀ q ∈ kindsL, kindW q = true := by decide +kernel
/-- the index of a sign, as the text says it -/
def idxOk (k : Str) (c : Nat) : Bool := match Builtin.Str.occurrences k ⟨#[c]⟩ 0 k.length 1 with
  | i :: _ => decide (i = idxC k c)
  | [] => false
theorem kinds_i : ∀ q ∈ kindsL, (q.r.cps.toList ++ q.t.cps.toList).all (fun c => idxOk q.k c && decide (idxC q.k c < q.k.cps.toList.length) && (decide (c = 76) || decide (c = 97) || decide (c = 107))) = true := by decide +kernel
def dueL (k : Str) (ds : List PyData) (L : List Nat) : List Lc := ddp (L.flatMap fun c => locsOf c (ds.getD (idxC k c) .none))
theorem push_snoc (L : List Lc) (x : Lc) : ddp (L ++ [x]) = push (ddp L) x := by
  unfold ddp
  rw [List.foldl_append]
  rfl
theorem fold_len : ∀ (L acc : List Lc), (L.foldl push acc).length ≤ acc.length + L.length
  | [], acc => Nat.le_refl _
  | x :: L, acc => by
    have h := fold_len L (push acc x)
    have : (push acc x).length ≤ acc.length + 1 := by
      unfold push
      split
      · omega
      · rw [List.length_append, List.length_singleton]; omega
    rw [List.foldl_cons, List.length_cons]
    omega
theorem push_len (L : List Lc) : (ddp L).length ≤ L.length := by
  have := fold_len L []
  rw [List.length_nil, Nat.zero_add] at this
  exact this
theorem ddp_range : ∀ n : Nat, ddp ((List.range n).map fun (i : Nat) => (("x" : Str), (i : Int))) = (List.range n).map fun (i : Nat) => (("x" : Str), (i : Int))
  | 0 => rfl
  | n + 1 => by
    rw [List.range_succ, List.map_append, List.map_singleton, push_snoc, ddp_range n]
    unfold push
    rw [if_neg]
    intro h
    obtain ⟨i, hi, e⟩ := List.mem_map.mp h
    have := List.mem_range.mp hi
    have : (i : Int) = (n : Int) := congrArg Prod.snd e
    omega
def placeOk (es : List PyData) (n : Int) : Prop := ∃ (j : Nat) (d : PyData), n = (j : Int) ∧ es[j]? = some d ∧ ((∃ q : Lc, PyData.strOk q.1 = true ∧ d = locD q) ∨ ∃ m : Nat, d = .int (m : Int))
structure InsOk (q : Kd) (ds : List PyData) : Prop where
  len : ds.length = q.k.cps.toList.length
  part : ∀ (j c : Nat) (d : PyData), q.k.cps.toList[j]? = some c → ds[j]? = some d → PartOk c d
theorem idx_at {k : Str} {c : Nat} (h : idxC k c < k.cps.toList.length) : k.cps.toList[idxC k c]? = some c := by
  rw [List.getElem?_eq_getElem h]
  exact congrArg some (List.getElem_idxOf h)
theorem ins_part {q : Kd} {ds : List PyData} (h : InsOk q ds) {c : Nat} (hc : idxC q.k c < q.k.cps.toList.length) : ∃ d, ds[idxC q.k c]? = some d ∧ PartOk c d ∧ ds.getD (idxC q.k c) .none = d := by
  obtain ⟨d, hd⟩ : ∃ d, ds[idxC q.k c]? = some d := ⟨_, List.getElem?_eq_getElem (by rw [h.len]; exact hc)⟩
  exact ⟨d, hd, h.part _ c d (idx_at hc) hd, by rw [List.getD_eq_getElem?_getD, hd]; rfl⟩
theorem due_places (q : Kd) (ds : List PyData) (r : Str) (w : Str) (h : r.cps.toList.all (goodSign q.k) = true) : ddp ((placesOf q.k r).map fun n => loc1 ((PyData.str w :: ds).getD n.toNat .none)) = dueL q.k ds r.cps.toList := by
  unfold dueL placesOf
  rw [List.map_map]
  congr 1
  rw [List.all_eq_true] at h
  generalize r.cps.toList = L at h
  induction L with
  | nil => rfl
  | cons c L ih =>
    have hc := h c List.mem_cons_self
    rw [List.map_cons, List.flatMap_cons, ih fun x hx => h x (List.mem_cons_of_mem _ hx)]
    have h107 : ¬ c = 107 := fun z => by
      subst z
      unfold goodSign at hc
      simp at hc
    unfold locsOf
    rw [if_neg h107]
    rfl
theorem place_ok {q : Kd} {ds : List PyData} (ok : InsOk q ds) (w r : Str) (h : r.cps.toList.all (goodSign q.k) = true) : ∀ n ∈ placesOf q.k r, placeOk (.str w :: ds) n := by
  intro n hn
  obtain ⟨c, hc, rfl⟩ := List.mem_map.mp hn
  have g := List.all_eq_true.mp h c hc
  unfold goodSign at g
  rw [Bool.and_eq_true, Bool.or_eq_true, decide_eq_true_eq, decide_eq_true_eq, decide_eq_true_eq] at g
  obtain ⟨d, hd, p, _⟩ := ins_part ok g.2
  refine ⟨idxC q.k c + 1, d, rfl, by rw [List.getElem?_cons_succ]; exact hd, ?_⟩
  rcases g.1 with z | z
  · exact .inl (p.loc z)
  · exact .inr (p.num z)
/-! ### a dict with locations as keys -/
def keyOf (p : Lc) : List Key := [.inr p.1, .inl p.2]
theorem keyOf_inj {p q : Lc} (h : keyOf p = keyOf q) : p = q := by
  obtain ⟨a, b⟩ := p
  obtain ⟨c, d⟩ := q
  unfold keyOf at h
  injection h with h1 h2
  injection h2 with h2 _
  injection h1 with h1
  injection h2 with h2
  simp only at h1 h2
  rw [h1, h2]
theorem putT_keys (kvs : List (List Key × V)) (k : List Key) (v : V) : (k ∈ kvs.map (·.1) → (putK kvs k v).map (·.1) = kvs.map (·.1)) ∧ (k ∉ kvs.map (·.1) → (putK kvs k v).map (·.1) = kvs.map (·.1) ++ [k]) := by
  unfold putK
  have e : ((kvs.any fun kv => decide (kv.1 = k)) = true) ↔ k ∈ kvs.map (·.1) := by
    rw [List.any_eq_true]
    constructor
    · rintro ⟨p, hp, h⟩
      exact List.mem_map.mpr ⟨p, hp, of_decide_eq_true h⟩
    · intro h
      obtain ⟨p, hp, h⟩ := List.mem_map.mp h
      exact ⟨p, hp, decide_eq_true h⟩
  refine ⟨fun c => ?_, fun c => ?_⟩
  · rw [if_pos (e.mpr c), List.map_map]
    apply List.map_congr_left
    intro q _
    show (if q.1 = k then (q.1, v) else q).1 = q.1
    split <;> rfl
  · rw [if_neg (fun z => c (e.mp z)), List.map_append]
    rfl
theorem putT_push {kvs : List (List Key × V)} {acc : List Lc} (x : Lc) (v : V) (h : kvs.map (·.1) = acc.map keyOf) : (putK kvs (keyOf x) v).map (·.1) = (push acc x).map keyOf := by
  have hin : keyOf x ∈ kvs.map (·.1) ↔ x ∈ acc := by
    rw [h, List.mem_map]
    constructor
    · rintro ⟨y, hy, e⟩
      rw [← keyOf_inj e]
      exact hy
    · intro hx
      exact ⟨x, hx, rfl⟩
  unfold push
  by_cases c : x ∈ acc
  · rw [if_pos c, (putT_keys kvs (keyOf x) v).1 (hin.mpr c), h]
  · rw [if_neg c, (putT_keys kvs (keyOf x) v).2 fun z => c (hin.mp z), h, List.map_append]
    rfl
theorem keys_dp {K : PySem.W.Frag} {H : Hp} : ∀ {kvs : List (List Key × V)} {bs : List Addr} {acc : List Lc}, IsKeys H kvs bs → kvs.map (·.1) = acc.map keyOf → DpAll K H (bs.map V.ref) (acc.map locD)
  | [], bs, acc, h, e => by
    cases h
    cases acc with
    | nil => exact .nil
    | cons => simp at e
  | p :: kvs, bs, acc, h, e => by
    cases h with
    | cons h1 h2 =>
      cases acc with
      | nil => simp at e
      | cons x acc =>
        rw [List.map_cons, List.map_cons] at e
        injection e with e1 e2
        rw [e1] at h1
        rw [List.map_cons, List.map_cons]
        exact .cons (.tup (SqT.of h1) (.cons (.str _) (.cons (.int _) .nil))) (keys_dp h2 e2)
theorem locs_lay : ∀ {L : List Lc}, (∀ q ∈ L, PyData.strOk q.1 = true) → PyData.canLayAll0 (L.map locD) = true ∧ PyData.depthAll (L.map locD) ≤ 1 ∧ PyData.eqvAll (L.map locD) (L.map locD) = true
  | [], _ => ⟨by simp [PyData.canLayAll0], by simp [PyData.depthAll], by simp [PyData.eqvAll]⟩
  | q :: L, h => by
    obtain ⟨a, b, c⟩ := locs_lay (L := L) fun x hx => h x (List.mem_cons_of_mem _ hx)
    have h0 := h q List.mem_cons_self
    rw [List.map_cons]
    have l1 : (locD q).canLay0 = true := by
      unfold locD
      simp only [PyData.canLay0, PyData.canLayAll0]
      rw [h0]
      rfl
    refine ⟨by simp only [PyData.canLayAll0, l1, a, Bool.and_self], ?_, by simp only [PyData.eqvAll, c, locD, PyData.eqv, beq_self_eq_true, Bool.and_self]⟩
    simp only [PyData.depthAll, locD, PyData.depth]
    omega
theorem locs_shaped {L : List Lc} (h : ∀ q ∈ L, PyData.strOk q.1 = true) : SeqAt.shaped (.list (L.map locD)) = true := by
  obtain ⟨a, b, _⟩ := locs_lay h
  have hd : (PyData.list (L.map locD)).depth ≤ 64 := by simp only [PyData.depth]; omega
  have hc : (PyData.list (L.map locD)).canLay0 = true := by simp only [PyData.canLay0]; exact a
  show ((PyData.list (L.map locD)).canLay0 && decide ((PyData.list (L.map locD)).depth ≤ 64)) = true
  rw [hc, decide_eq_true hd]
  rfl
theorem locs_eqv {L : List Lc} (h : ∀ q ∈ L, PyData.strOk q.1 = true) : PyData.eqv (.list (L.map locD)) (.list (L.map locD)) = true := by
  simp only [PyData.eqv]
  exact (locs_lay h).2.2
theorem loc_shaped {q : Lc} (h : PyData.strOk q.1 = true) : SeqAt.shaped (locD q) = true := by
  have l1 : (locD q).canLay0 = true := by
    unfold locD
    simp only [PyData.canLay0, PyData.canLayAll0]
    rw [h]
    rfl
  have hd : (locD q).depth ≤ 64 := by simp [locD, PyData.depth, PyData.depthAll]
  show ((locD q).canLay0 && decide ((locD q).depth ≤ 64)) = true
  rw [l1, decide_eq_true hd]
  rfl
theorem loc_eqv (p q : Lc) : PyData.eqv (locD p) (locD q) = decide (p = q) := by
  obtain ⟨a, b⟩ := p
  obtain ⟨c, d⟩ := q
  simp only [locD, PyData.eqv, PyData.eqvAll, Bool.and_true]
  by_cases h1 : a = c
  · by_cases h2 : b = d
    · subst h1 h2
      simp
    · have : ¬ (a, b) = (c, d) := fun z => h2 (congrArg Prod.snd z)
      rw [decide_eq_false this]
      simp [h2]
  · have : ¬ (a, b) = (c, d) := fun z => h1 (congrArg Prod.fst z)
    rw [decide_eq_false this]
    simp [h1]
theorem loc_any (L : List Lc) (q : Lc) : ((L.map locD).any fun z => PyData.eqv z (locD q)) = decide (q ∈ L) := by
  rw [List.any_map]
  apply Bool.eq_iff_iff.mpr
  rw [List.any_eq_true, decide_eq_true_eq]
  constructor
  · rintro ⟨x, hx, h⟩
    have h : PyData.eqv (locD x) (locD q) = true := h
    rw [loc_eqv, decide_eq_true_eq] at h
    rw [← h]
    exact hx
  · intro hq
    exact ⟨q, hq, by show PyData.eqv (locD q) (locD q) = true; rw [loc_eqv, decide_eq_true rfl]⟩
theorem push_ok {acc : List Lc} {x : Lc} (h : ∀ q ∈ acc, PyData.strOk q.1 = true) (hx : PyData.strOk x.1 = true) : ∀ q ∈ push acc x, PyData.strOk q.1 = true := by
  intro q hq
  unfold push at hq
  split at hq
  · exact h q hq
  · rcases List.mem_append.mp hq with z | z
    · exact h q z
    · rw [List.mem_singleton.mp z]; exact hx
/-! ### d.get of a kept dict -/
theorem get_kd {X : Cx} {pins : List (Addr × Obj)} {σ : L2.St} {H : Hp} {s : Shared} {d : Addr} {es : Array DictEntry} {n : Nat} {z : Str} {t : Tok} {r : Option Value} {rv : Value} {E Q : Value → Shared → Prop}
    (D : KDict X.K X.w d es n) (I : Inv X pins σ H s) (hr : W.nsIn X.K d z = some r) (h : ∀ s', Inv X pins σ H s' → Q (r.getD rv) s') : wpAny (model X.prog X.w) X.A (call (.builtin "dict.get") [.ref d, .str z t, rv]) Q E s := by
  have hg : s.heap.get? d = some { cls := .type "dict", data := .dict es n } := I.kIn _ _ D.at_
  refine call_meetsIn F.slot_dict_get ⟨_, hg, rfl⟩ F.entry_dict_get (F.args_dict_get_3 _ _ _) (meets_dict_get_default (strKind X.prog X.w) (k := z) d (strKind_is _ _ _ _) D.low rv) ⟨_, W.mapOf_K I.kIn D.at_ D.lit, ?_⟩
  rw [W.find_K D.at_ hr]
  exact h _ (I.tok _)
/-- d.get(k, x) of a dict that the module keeps -/
def tGetKD (K : PySem.W.Frag) (w : World) (td ty tx : TE) : TE := fun σ H Q => td σ H fun x H1 => ∃ d es n, x = .ref d ∧ KDict K w d es n ∧ ty σ H1 fun y H2 => tx σ H2 fun v H3 => ∃ z r, y = .str z ∧ PySem.W.nsIn K d z = some r ∧ (∀ u, r = some u → ∃ v0, RelV v0 u ∧ Q v0 H3) ∧ (r = Option.none → Q v H3)
theorem pe_getKD {X : Cx} {o e f : Expr} {apos cpos : Pos} {td ty tx : TE} (po : PE X o td) (pe : PE X e ty) (pf : PE X f tx) (m : M2 X o (Str.ofString "get") apos e f cpos) : PE X ((o.Attribute (Str.ofString "get") apos).Call [e, f] [] cpos) (tGetKD X.K X.w td ty tx) := by
  refine ⟨fun pins s σ H Q I h => ?_⟩
  refine wpAny_Call_method m.base m.few m.line F.plainAttrs_dict F.slot_dict_get F.type_dict_get ?_
  refine thn (po.run pins s σ H _ I h) ?_
  rintro ov s1 ⟨x, H1, I1, rx, d, es, n, rfl, D, h1⟩
  cases rx
  have hg : s1.heap.get? d = some { cls := .type "dict", data := .dict es n } := I1.kIn _ _ D.at_
  refine ⟨⟨_, hg, rfl⟩, fun b hb => ?_, ?_⟩
  · cases hb
    exact ⟨_, hg, rfl⟩
  rw [m.trees]
  refine Calls.callWith_builtin rfl (Calls.evalArgs_plain (Calls.spliced_cons ?_))
  refine thn (pe.run pins s1 σ H1 _ I1 h1) ?_
  rintro yv s2 ⟨y, H2, I2, ry, h2⟩
  refine Calls.spliced_cons ?_
  refine thn (pf.run pins s2 σ H2 _ I2 h2) ?_
  rintro xv s3 ⟨v, H3, I3, rv, z, r, rfl, hr, q1, q2⟩
  refine Calls.spliced_nil ?_
  obtain ⟨t, rfl⟩ := ry
  refine get_kd D I3 hr fun s4 I4 => ?_
  cases r with
  | none => exact ⟨v, H3, I4, rv, q2 rfl⟩
  | some u =>
    obtain ⟨v0, r0, q0⟩ := q1 u rfl
    exact ⟨v0, H3, I4, r0, q0⟩
theorem fold_ok : ∀ (L acc : List Lc), (∀ q ∈ acc, PyData.strOk q.1 = true) → (∀ q ∈ L, PyData.strOk q.1 = true) → ∀ q ∈ L.foldl push acc, PyData.strOk q.1 = true
  | [], acc, h, _ => h
  | x :: L, acc, h, h2 => fold_ok L (push acc x) (push_ok h (h2 x List.mem_cons_self)) fun q hq => h2 q (List.mem_cons_of_mem _ hq)
theorem due_ok {q : Kd} {ds : List PyData} (ok : InsOk q ds) {L : List Nat} (h : ∀ c ∈ L, idxC q.k c < q.k.cps.toList.length ∧ (c = 76 ∨ c = 97 ∨ c = 107)) : ∀ x ∈ dueL q.k ds L, PyData.strOk x.1 = true := by
  refine fold_ok _ [] (fun x hx => nomatch hx) fun x hx => ?_
  obtain ⟨c, hc, hx⟩ := List.mem_flatMap.mp hx
  obtain ⟨h1, h2⟩ := h c hc
  obtain ⟨d, hd, p, e⟩ := ins_part ok h1
  rw [e] at hx
  unfold locsOf at hx
  rcases h2 with z | z | z
  · rw [if_neg (by omega), List.mem_singleton] at hx
    obtain ⟨y, hy, rfl⟩ := p.loc z
    rw [hx]
    exact hy
  · rw [if_neg (by omega), List.mem_singleton] at hx
    obtain ⟨y, rfl⟩ := p.num z
    rw [hx]
    exact (show PyData.strOk "x" = true by decide +kernel)
  · rw [if_pos z] at hx
    obtain ⟨y, _, rfl⟩ := p.cnt z
    obtain ⟨m, _, rfl⟩ := List.mem_map.mp hx
    exact (show PyData.strOk "x" = true by decide +kernel)
theorem loc_noL (q : Lc) : noL (locD q) = true := by simp [locD, noL, noLA]
theorem locs_noL : ∀ L : List Lc, noLA (L.map locD) = true
  | [] => by simp [noLA]
  | q :: L => by rw [List.map_cons, noLA, loc_noL, locs_noL L]; rfl
theorem sgn_eq {c k : Nat} {x : Str} (hx : x = ⟨#[k]⟩) : (decide (V.str ⟨#[c]⟩ = V.str x) = true) ↔ c = k := by
  rw [decide_eq_true_eq, hx]
  constructor
  · intro h
    injection h with h
    injection h with h
    injection h with h
    injection h
  · intro h
    rw [h]
theorem sL : Str.ofString "L" = ⟨#[76]⟩ := by decide +kernel
theorem sC : Str.ofString "C" = ⟨#[67]⟩ := by decide +kernel
theorem sn : Str.ofString "n" = ⟨#[110]⟩ := by decide +kernel
theorem sk : Str.ofString "k" = ⟨#[107]⟩ := by decide +kernel
theorem sK : Str.ofString "K" = ⟨#[75]⟩ := by decide +kernel
theorem sa : Str.ofString "a" = ⟨#[97]⟩ := by decide +kernel
theorem pick_xy {y : Int} (h0 : 0 ≤ y) (h1 : y < 2) : ∃ c, atI (Str.ofString "xy").cps.toList y = some c ∧ PyData.strOk ⟨#[c]⟩ = true := by
  have h : y = 0 ∨ y = 1 := by omega
  rcases h with rfl | rfl
  · exact ⟨120, by decide +kernel, by decide +kernel⟩
  · exact ⟨121, by decide +kernel, by decide +kernel⟩
theorem part_other {c : Nat} {d : PyData} (h1 : c ≠ 76) (h2 : c ≠ 97) (h3 : c ≠ 107) : PartOk c d := ⟨fun z => absurd z h1, fun z => absurd z h2, fun z => absurd z h3⟩
theorem due_snoc (k : Str) (ds : List PyData) (L : List Nat) (c : Nat) : dueL k ds (L ++ [c]) = (locsOf c (ds.getD (idxC k c) .none)).foldl push (dueL k ds L) := by
  unfold dueL ddp
  rw [List.flatMap_append, List.foldl_append]
  simp
theorem idx_occ {k : Str} {c : Nat} (h : idxOk k c = true) : ∃ rest, Builtin.Str.occurrences k ⟨#[c]⟩ 0 k.length 1 = idxC k c :: rest := by
  unfold idxOk at h
  split at h
  · next i rest e => exact ⟨rest, by rw [e, of_decide_eq_true h]⟩
  · cases h
def rowsD (c : Nat) (d : PyData) : List PyData := if c = 107 then [d] else (locsOf c d).map locD
theorem kinds_pl : ∀ q ∈ kindsL, (placesOf q.k q.r).length ≤ 10 ∧ (placesOf q.k q.t).length ≤ 10 := by decide +kernel
theorem kinds_l : ∀ q ∈ kindsL, q.r.cps.toList.length ≤ 5 ∧ q.t.cps.toList.length ≤ 5 ∧ q.k.cps.size ≤ 10 := by decide +kernel
def DueC (q : Kd) (L : Str) : Prop := ∀ c ∈ L.cps.toList, idxOk q.k c = true ∧ idxC q.k c < q.k.cps.toList.length ∧ (c = 76 ∨ c = 97 ∨ c = 107)
theorem kinds_due {q : Kd} (h : q ∈ kindsL) : DueC q q.r ∧ DueC q q.t := by
  have k := kinds_i q h
  rw [List.all_eq_true] at k
  have one : ∀ c ∈ q.r.cps.toList ++ q.t.cps.toList, idxOk q.k c = true ∧ idxC q.k c < q.k.cps.toList.length ∧ (c = 76 ∨ c = 97 ∨ c = 107) := fun c hc => by
    have := k c hc
    rw [Bool.and_eq_true, Bool.and_eq_true, Bool.or_eq_true, Bool.or_eq_true, decide_eq_true_eq, decide_eq_true_eq, decide_eq_true_eq, decide_eq_true_eq] at this
    exact ⟨this.1.1, this.1.2, by rcases this.2 with (z | z) | z <;> omega⟩
  exact ⟨fun c hc => one c (List.mem_append_left _ hc), fun c hc => one c (List.mem_append_right _ hc)⟩
theorem locs_len {q : Kd} {ds : List PyData} (ok : InsOk q ds) : ∀ M : List Nat, (∀ c ∈ M, idxC q.k c < q.k.cps.toList.length ∧ (c = 76 ∨ c = 97 ∨ c = 107)) → (M.flatMap fun c => locsOf c (ds.getD (idxC q.k c) .none)).length ≤ 100 * M.length
  | [], _ => Nat.le_refl _
  | m :: M, h => by
    have i1 := locs_len ok M fun c hc => h c (List.mem_cons_of_mem _ hc)
    obtain ⟨hml, hm3⟩ := h m List.mem_cons_self
    obtain ⟨dm, hdm, pm, hem⟩ := ins_part ok hml
    rw [List.flatMap_cons, List.length_append, List.length_cons, hem]
    have : (locsOf m dm).length ≤ 100 := by
      unfold locsOf
      by_cases z : m = 107
      · rw [if_pos z]
        obtain ⟨n, hn8, rfl⟩ := pm.cnt z
        show ((List.range ((n : Int)).toNat).map _).length ≤ 100
        rw [List.length_map, List.length_range, Int.toNat_natCast]
        omega
      · rw [if_neg z]
        show 1 ≤ 100
        decide
    omega
theorem dueL_len' {q : Kd} {ds : List PyData} (ok : InsOk q ds) {M : List Nat} (h : ∀ c ∈ M, idxC q.k c < q.k.cps.toList.length ∧ (c = 76 ∨ c = 97 ∨ c = 107)) : (dueL q.k ds M).length ≤ 100 * M.length := Nat.le_trans (push_len _) (locs_len ok M h)
/-! ### the promises -/
def RL (H : Hp) (K : PySem.W.Frag) (Q : VK) (L : List Lc) : Prop := ∀ (r : Addr) (xs : List V) (H' : Hp), Same H H' → H r = Option.none → H' r = some (.lst xs) → DpAll K H' xs (L.map locD) → Q (.ref r) H'
theorem RL.same {H H1 : Hp} {K : PySem.W.Frag} {Q : VK} {L : List Lc} (h : RL H K Q L) (s : Same H H1) : RL H1 K Q L := fun r xs H' t nr e d => h r xs H' (s.trans t) (s.free nr) e d
def sp_locations (K : PySem.W.Frag) : Sp := fun vs H Q _ => ∃ (i p : V) (es : List PyData) (ns : List Int), vs = [i, p] ∧ Im K (fun _ => True) H i (.tuple es) ∧ Dp K H p (.tuple (ns.map PyData.int)) ∧ ns.length ≤ 10 ∧ (∀ n ∈ ns, placeOk es n) ∧ RL H K Q (ddp (ns.map fun n => loc1 (es.getD n.toNat .none)))
def sp_reads (K : PySem.W.Frag) : Sp := fun vs H Q _ => ∃ (i : V) (q : Kd) (ds : List PyData), vs = [i] ∧ Im K (fun _ => True) H i (.tuple (.str q.w :: ds)) ∧ q ∈ kindsL ∧ InsOk q ds ∧ RL H K Q (dueL q.k ds q.r.cps.toList)
def sp_writes (K : PySem.W.Frag) : Sp := fun vs H Q _ => ∃ (i : V) (q : Kd) (ds : List PyData), vs = [i] ∧ Im K (fun _ => True) H i (.tuple (.str q.w :: ds)) ∧ q ∈ kindsL ∧ InsOk q ds ∧ RL H K Q (dueL q.k ds q.t.cps.toList)
def sp__law_due (K : PySem.W.Frag) : Sp := fun vs H Q _ => ∃ (x y : V) (q : Kd) (ds : List PyData) (L : Str), vs = [x, y, .str L] ∧ Dp K H x (kdD q) ∧ Dp K H y (.list ds) ∧ InsOk q ds ∧ L.cps.toList.length ≤ 5 ∧ (∀ c ∈ L.cps.toList, idxOk q.k c = true ∧ idxC q.k c < q.k.cps.toList.length ∧ (c = 76 ∨ c = 97 ∨ c = 107)) ∧ RL H K Q (dueL q.k ds L.cps.toList)
def sp__law_location (K : PySem.W.Frag) : Sp := fun vs H Q _ => ∃ (s l : Addr), vs = [.ref s] ∧ Stm H s l ∧ ∀ v q H', PyData.strOk q.1 = true → But s H H' → Stm H' s l → Im K (fun b => H b = Option.none) H' v (locD q) → Q v H'
def sp__law_constant (K : PySem.W.Frag) : Sp := fun vs H Q _ => ∃ (s l : Addr), vs = [.ref s] ∧ Stm H s l ∧ ∀ v d H', But s H H' → Stm H' s l → Im K (fun b => H b = Option.none) H' v d → Q v H'
def sp__law_part (K : PySem.W.Frag) : Sp := fun vs H Q _ => ∃ (s l : Addr) (c : Nat), vs = [.ref s, .str ⟨#[c]⟩] ∧ Stm H s l ∧ ∀ v d H', PartOk c d → But s H H' → Stm H' s l → Im K (fun b => H b = Option.none) H' v d → Q v H'
def sp__law_kinds (K : PySem.W.Frag) : Sp := fun vs H Q _ => vs = [] ∧ ∀ v H', Same H H' → Im K (fun b => H b = Option.none) H' v (.list (kindsL.map kdD)) → Q v H'
def sp_law (K : PySem.W.Frag) : Sp := fun vs H Q _ => ∃ (a : Addr) (ns : List Int), vs = [.ref a] ∧ SqL K H a (ns.map V.int) ∧ ns.length ≤ 63 ∧ ∀ H', Q (.bl true) H'

local macro_rules | `(tactic| walk_at "lits") => `(tactic| repeat' (first | exact lit_int | exact lit_str | exact lit_bl | exact lit_non | exact litA_nil | refine litA_cons ?_ ?_ | refine lit_tup ?_ (by decide) | refine lit_lst ?_ (by decide) | refine lit_neg ?_ | refine lit_sub ?_ ?_ | refine lit_pow ?_ ?_ ⟨by decide, by decide, by decide⟩ | refine lit_mulS ?_ ?_ ⟨by decide, by decide, by decide⟩))
section
variable {P : Program} {w : World} {K : PySem.W.Frag} {mg : Str → Option Value} {base : Heap}
theorem ok_locations {f : Addr} {fd : FuncData} (F : Fun K "locations" "locations" s_locations f fd) (E : Bi w K mg)  : FnOk P w K mg base CX0 1 f fd ["instruction", "places"] (sp_locations K) := by
  refine F.ok sc_locations (fun vs H Q E h => ?_) (fun cdv A outer s H vs Q E' hr h => ?_)
  · obtain ⟨i, p, es, ns, rfl, _⟩ := h
    rfl
  · obtain ⟨i, p, es, ns, rfl, hi, hp, nl, hpl, q⟩ := h
    refine ⟨_, (pss_cons (ps_set (i := 2) sc_locations.nd rfl (Or.inl rfl) pe_dnewT)
      (pss_cons (ps_for PassesOwn.never rfl (pi_tup (pv 1)) (pg_name (i := 3) sc_locations.nd rfl (Or.inl rfl)) (pss_cons (ps_set (i := 4) sc_locations.nd rfl (Or.inl rfl) (pe_ix ix_tup (pv 0) (pv 3) (fun _ _ => rfl)))
      (pss_one (ps_dput (hu_of hr) (pv 2) (pe_ifExp (pt_val (pe_callB call_isi (by rfl) E.b_isinstance (by decide +kernel) (pa_cons (pv 4) (pa_cons (pe_ty "tuple" (by rfl) E.b_tuple (by decide +kernel)) pa_nil)))) (pv 4) (pe_tup (pa_cons pe_str (pa_cons (pv 4) pa_nil)))) pe_bl (by rfl)))))
      (pss_one (ps_ret (pe_callTy (call_list_dT rfl) (by rfl) E.b_list (by decide +kernel) (pa_cons (pv 2) pa_nil)))))), ?_⟩
    cases id hi with
    | @tup a xs _ g ea ia =>
    cases id hp with
    | @tup ap zs _ hz hpz =>
    have hzl := DpAll.len hpz
    rw [List.length_map] at hzl
    refine seq_asg fun f nf => gname (seq_any ?_)
    have s0 := same_upd (o := .dT []) nf
    refine ⟨_, rfl, ap, rfl, ⟨_, same_sqT s0 hz⟩, for_tup (K := K) (a := ap) (xs := zs) (fun t σ H' => ∃ v3 v4 kvs, σ = [some (.ref a), some (.ref ap), some (.ref f), v3, v4] ∧ Same H H' ∧ H' f = some (.dT kvs) ∧ kvs.map (·.1) = (ddp ((ns.take t).map fun n => loc1 (es.getD n.toNat .none))).map keyOf)
      ⟨none, none, [], rfl, s0, upd_same, rfl⟩ (fun t σ H' _ ⟨_, _, _, _, e, _⟩ => same_sqT e hz) ?_ ?_⟩
    · rintro t z σ H1 ht ⟨v3, v4, kvs, rfl, s1, e1, k1⟩
      obtain ⟨dd, hd0, dz⟩ := DpAll.getV hpz ht
      rw [List.getElem?_map] at hd0
      obtain ⟨n, hn, rfl⟩ : ∃ n, ns[t]? = some n ∧ PyData.int n = dd := by
        cases hr2 : ns[t]? with
        | none => rw [hr2] at hd0; cases hd0
        | some n => rw [hr2] at hd0; exact ⟨n, rfl, Option.some.inj hd0⟩
      cases dz
      obtain ⟨j, d, rfl, hd, hcase⟩ := hpl n (List.mem_of_getElem? hn)
      obtain ⟨v, hv, iv⟩ := ImAll.get ia hd
      have htk : ns.take (t + 1) = ns.take t ++ [(j : Int)] := by rw [List.take_add_one, hn]; rfl
      have htl := (List.getElem?_eq_some_iff.mp hn).1
      have hgd : loc1 (es.getD ((j : Int)).toNat .none) = loc1 d := by rw [Int.toNat_natCast, List.getD_eq_getElem?_getD, hd]; rfl
      have hkl : kvs.length ≤ 10 := by
        have h1 := congrArg List.length k1
        rw [List.length_map, List.length_map] at h1
        have h2 := push_len ((ns.take t).map fun n => loc1 (es.getD n.toNat .none))
        rw [List.length_map, List.length_take] at h2
        omega
      have key : ∀ v', (putK kvs (keyOf (loc1 d)) v').map (·.1) = (ddp ((ns.take (t + 1)).map fun n => loc1 (es.getD n.toNat .none))).map keyOf := fun v' => by
        rw [htk, List.map_append, List.map_singleton, hgd, push_snoc]
        exact putT_push _ _ k1
      refine gname (seq_asg ?_)
      refine ⟨_, rfl, _, rfl, _, _, _, _, rfl, rfl, SqT.of (s1 _ _ ea), atI_nat (j := j) hv, ?_⟩
      refine gname ?_
      have dv := Im.dp _ _ (Im.mono (fun b o _ e => s1 b o e) (fun _ g => g) _ _ iv)
      refine ⟨_, rfl, ?_⟩
      refine ⟨_, rfl, _, _, _, _, _, rfl, .ty _, tyx_of dv, kit_ty (kitT _), _, rfl, ?_⟩
      rcases hcase with ⟨x, _, rfl⟩ | ⟨m, rfl⟩
      · refine iteT ?_
        cases id iv with
        | @tup b us _ gb eb ib =>
        cases ib with
        | cons i1 ib =>
        cases ib with
        | cons i2 ib =>
        cases ib
        cases i1
        cases i2
        have fb : ∀ b2, H b2 ≠ Option.none → b2 ≠ f := fun b2 h2 z => h2 (by rw [z]; exact nf)
        refine ⟨_, rfl, f, _, rfl, .inr ⟨kvs, keyOf (loc1 (locD x)), b, e1, rfl, s1 _ _ eb, small1000 (by omega), rfl⟩, ?_⟩
        exact ⟨_, _, _, rfl, fun b o e => by rw [upd_ne (ne_of_none e nf)]; exact s1 _ _ e, upd_same, key _⟩
      · cases iv
        refine iteF ⟨_, rfl, (by show 2 ≤ sizeLine; decide), fun p9 np9 => ?_⟩
        have fp : f ≠ p9 := ne_of_none e1 np9
        have s9 := s1.trans (same_upd (o := .tup [.str "x", .int (m : Int)]) np9)
        refine ⟨f, _, rfl, .inr ⟨kvs, keyOf (loc1 (.int (m : Int))), p9, by rw [upd_ne fp]; exact e1, rfl, upd_same, small1000 (by omega), rfl⟩, ?_⟩
        exact ⟨_, _, _, rfl, fun b o e => by rw [upd_ne (ne_of_none e nf)]; exact s9 _ _ e, upd_same, key _⟩
    · rintro σ H1 ⟨v3, v4, kvs, rfl, s1, e1, k1⟩
      rw [hzl, List.take_length] at k1
      refine nxp ?_
      refine ⟨_, rfl, f, kvs, rfl, .inl e1, fun r bs nr hk => ?_⟩
      have sr := same_upd (o := .lst (bs.map V.ref)) nr
      exact q r _ _ (s1.trans sr) (s1.free nr) upd_same (dp_sameAll sr _ _ (keys_dp hk k1))

theorem ok__law_stream {f : Addr} {fd : FuncData} (F : Fun K "_law_stream" "_law_stream" s__law_stream f fd) (E : Bi w K mg)  : FnOk P w K mg base CX0 1 f fd ["script"] (sp__law_stream K) := by
  refine F.ok sc__law_stream (fun vs H Q E h => ?_) (fun cdv A outer s H vs Q E' hr h => ?_)
  · obtain ⟨a, ns, rfl, _⟩ := h
    rfl
  · obtain ⟨a, ns, rfl, hS, hl, q⟩ := h
    refine ⟨_, (pss_cons (ps_set (i := 1) sc__law_stream.nd rfl (Or.inl rfl) pe_int)
      (pss_cons (ps_for PassesOwn.never rfl (pi_list (pv 0)) (pg_name (i := 2) sc__law_stream.nd rfl (Or.inl rfl)) (pss_one (ps_set (i := 1) sc__law_stream.nd rfl (Or.inl rfl) (pe_op op_mod (pe_callTy call_int1 (by rfl) E.b_int (by decide +kernel) (pa_cons (pe_op op_add (pe_op op_add (pe_op op_mul (pv 1) pe_int) (pe_op op_mod (pe_callTy call_int1 (by rfl) E.b_int (by decide +kernel) (pa_cons (pv 2) pa_nil)) pe_int)) pe_int) pa_nil)) pe_int))))
      (pss_one (ps_ret (pe_lst (pa_cons (pe_callTy call_list_of (by rfl) E.b_list (by decide +kernel) (pa_cons (pv 0) pa_nil)) (pa_cons pe_int (pa_cons pe_int (pa_cons (pv 1) pa_nil))))))))), ?_⟩
    refine ⟨_, rfl, a, rfl, ⟨_, hS⟩, for_list (K := K) (a := a) (xs := ns.map V.int) (fun i σ H1 => ∃ (m : Int) (v : Option V), σ = [some (.ref a), some (.int m), v] ∧ H1 = H ∧ 0 ≤ m ∧ m < 2147483647)
      ⟨17, none, rfl, rfl, by decide, by decide⟩ (fun i σ H1 _ ⟨_, _, _, e, _⟩ => by rw [e]; exact hS) ?_ ?_⟩
    · rintro i y σ H1 hi ⟨m, v, rfl, rfl, h0, h1⟩
      obtain ⟨z, rfl⟩ : ∃ z, y = V.int z := by
        rw [List.getElem?_map] at hi
        cases e : ns[i]? with
        | none =>
          rw [e] at hi
          cases hi
        | some z =>
          rw [e] at hi
          exact ⟨z, (Option.some.inj hi).symm⟩
      refine ⟨_, rfl, _, _, rfl, rfl, .inr ⟨by decide, by decide⟩, _, rfl, .inl ⟨_, rfl, _, _, rfl, rfl, (by decide : (0 : Int) < 65521), _, _, rfl, rfl, _, _, rfl, rfl, .inl ⟨_, rfl, _, _, rfl, rfl, (by decide : (0 : Int) < 2147483647), ?_⟩⟩⟩
      exact ⟨_, _, rfl, rfl, Int.emod_nonneg _ (by decide), Int.emod_lt_of_pos _ (by decide)⟩
    · rintro σ H1 ⟨m, v, rfl, rfl, h0, h1⟩
      refine ⟨_, rfl, a, _, rfl, .inl hS, fun l hl2 => ⟨_, rfl, (by show 4 ≤ sizeLine; decide), fun p hp => ?_⟩⟩
      have npl : l ≠ p := fun z => by
        rw [← z, upd_same] at hp
        cases hp
      refine q p l _ ((same_upd hl2).free hp) hl2 ((same_upd hl2).trans (same_upd hp)) ⟨0, 0, m, ns, upd_same, ?_, hl, Int.le_refl 0, Int.le_refl 0, h0, h1⟩
      rw [upd_ne npl, upd_same]

theorem ok__law_draw {f : Addr} {fd : FuncData} (F : Fun K "_law_draw" "_law_draw" s__law_draw f fd) (E : Bi w K mg)  : FnOk P w K mg base CX0 1 f fd ["stream", "many"] (sp__law_draw K) := by
  refine F.ok sc__law_draw (fun vs H Q E h => ?_) (fun cdv A outer s H vs Q E' hr h => ?_)
  · obtain ⟨s, l, n, rfl, _⟩ := h
    rfl
  · obtain ⟨p, l, n, rfl, hS, hn, hn2, q⟩ := h
    obtain ⟨a, b, m, ns, h1, h2, hlen, ha, hb, hm, hm2⟩ := hS.ex
    have nlp : l ≠ p := fun z => by
      rw [z, h1] at h2
      have h3 := HO.lst.inj (Option.some.inj h2)
      cases ns with
      | nil => cases h3
      | cons x r => cases (List.cons.inj h3).1
    refine ⟨_, (pss_cons (ps_if (pw_and (pt_cmpR op_eq (pe_ix ix_list (pv 0) pe_int (fun _ _ => rfl)) pe_int (nomark _)) (pw_and1 (pt_cmpR op_lt (pe_ix ix_list (pv 0) pe_int (fun _ _ => rfl)) (pe_callB call_len_seq (by rfl) E.b_len PySem.boot_len (pa_cons (pe_ix ix_list (pv 0) pe_int (fun _ _ => rfl)) pa_nil)) (nomark _)))).pt (pss_cons (ps_asg (pe_callB call_abs (by rfl) E.b_abs (by decide +kernel) (pa_cons (pe_callTy call_int1 (by rfl) E.b_int (by decide +kernel) (pa_cons (pe_ix ix_list (pe_ix ix_list (pv 0) pe_int (fun _ _ => rfl)) (pe_ix ix_list (pv 0) pe_int (fun _ _ => rfl)) (fun _ _ => rfl)) pa_nil)) pa_nil)) (pg_sub (pv 0) pe_int set_list))
      (pss_one (ps_asg (pe_op op_add (pe_ix ix_list (pv 0) pe_int (fun _ _ => rfl)) pe_int) (pg_sub (pv 0) pe_int set_list)))) pss_nil)
      (pss_cons (ps_if (pt_cmpR op_eq (pe_ix ix_list (pv 0) pe_int (fun _ _ => rfl)) pe_int (nomark _)) (pss_cons (ps_asg (pe_op op_mod (pe_callTy call_int1 (by rfl) E.b_int (by decide +kernel) (pa_cons (pe_op op_add (pe_op op_mul (pe_ix ix_list (pv 0) pe_int (fun _ _ => rfl)) pe_int) pe_int) pa_nil)) pe_int) (pg_sub (pv 0) pe_int set_list))
      (pss_one (ps_ret (pe_op op_mod (pe_callTy call_int1 (by rfl) E.b_int (by decide +kernel) (pa_cons (pe_op op_fdivW (pe_ix ix_list (pv 0) pe_int (fun _ _ => rfl)) pe_int) pa_nil)) (pv 1))))) pss_nil)
      (pss_cons (ps_set (i := 2) sc__law_draw.nd rfl (Or.inl rfl) (pe_op op_mod (pe_callTy call_int1 (by rfl) E.b_int (by decide +kernel) (pa_cons (pe_ix ix_list (pv 0) pe_int (fun _ _ => rfl)) pa_nil)) (pv 1)))
      (pss_cons (ps_asg (pe_op op_fdivW (pe_ix ix_list (pv 0) pe_int (fun _ _ => rfl)) (pv 1)) (pg_sub (pv 0) pe_int set_list))
      (pss_one (ps_ret (pv 2))))))), ?_⟩
    refine ⟨_, rfl, _, _, _, _, rfl, rfl, SqL.of h1, atI_nat (j := 1) rfl, rfl, _, rfl, ite2 (fun e => ?_) (fun e => ?_)⟩
    · refine ⟨_, rfl, _, _, _, _, rfl, rfl, SqL.of h1, atI_nat (j := 2) rfl, _, rfl, _, _, _, _, rfl, rfl, SqL.of h1, atI_nat (j := 0) rfl, _, _, rfl, .inl (SqL.of h2), _, _, rfl, rfl, _, rfl, ite2 (fun e1 => ?_) (fun e1 => ?_)⟩
      · have e2 : b < (ns.map V.int).length := of_decide_eq_true e1
        rw [List.length_map] at e2
        have hz : (ns.map V.int)[b.toNat]? = some (V.int (ns[b.toNat]'(by omega))) := by
          rw [List.getElem?_map, List.getElem?_eq_getElem (by omega)]
          rfl
        refine ⟨_, rfl, _, _, _, _, rfl, rfl, SqL.of h1, atI_nat (j := 0) rfl, _, rfl, _, _, _, _, rfl, rfl, SqL.of h1, atI_nat (j := 2) rfl, _, _, _, _, rfl, rfl, SqL.of h2, at_of (j := b.toNat) (by omega) hz, .inl ⟨_, rfl, _, rfl, _, rfl, _, _, _, _, rfl, rfl, h1, rfl, ?_⟩⟩
        refine ⟨_, rfl, _, _, _, _, rfl, rfl, SqL.of upd_same, atI_nat (j := 2) rfl, _, _, rfl, rfl, _, rfl, _, _, _, _, rfl, rfl, upd_same, rfl, ?_⟩
        generalize hH : upd _ p _ = H1
        have hX : ∃ a' b' : Int, H1 p = some (.lst [.ref l, .int a', .int b', .int m]) ∧ 0 ≤ a' ∧ 0 ≤ b' := ⟨_, _, by rw [← hH]; exact upd_same, by split <;> omega, by omega⟩
        have hB : But p H H1 := by rw [← hH]; exact But.put.trans But.put
        have hL : H1 l = some (.lst (ns.map V.int)) := hB l _ nlp h2
        clear hH
        obtain ⟨a', b', hX, ha', hb'⟩ := hX
        refine ⟨_, rfl, _, _, _, _, rfl, rfl, SqL.of hX, atI_nat (j := 1) rfl, rfl, _, rfl, ite2 (fun e3 => ?_) (fun e3 => ?_)⟩
        · refine ⟨_, rfl, _, _, _, _, rfl, rfl, SqL.of hX, atI_nat (j := 3) rfl, _, _, rfl, rfl, .inr ⟨by decide, by decide⟩, _, _, rfl, rfl, .inl ⟨_, rfl, _, _, rfl, rfl, (by decide : (0 : Int) < 2147483647), _, rfl, _, _, _, _, rfl, rfl, hX, rfl, ?_⟩⟩
          refine ⟨_, rfl, _, _, _, _, rfl, rfl, SqL.of upd_same, atI_nat (j := 3) rfl, _, _, rfl, rfl, wide_div (b := 64) (by decide) (by decide) (by decide) (by decide), .inl ⟨_, rfl, _, rfl, _, _, rfl, rfl, hn, ?_⟩⟩
          exact q _ _ (Int.emod_nonneg _ (by omega)) (Int.emod_lt_of_pos _ hn) (hB.trans But.put) ⟨a', b', _, ns, upd_same, by rw [upd_ne nlp]; exact hL, hlen, ha', hb', Int.emod_nonneg _ (by decide), Int.emod_lt_of_pos _ (by decide)⟩
        · refine ⟨_, rfl, _, _, _, _, rfl, rfl, SqL.of hX, atI_nat (j := 1) rfl, .inl ⟨_, rfl, _, rfl, _, _, rfl, rfl, hn, ?_⟩⟩
          refine ⟨_, rfl, _, _, _, _, rfl, rfl, SqL.of hX, atI_nat (j := 1) rfl, _, rfl, _, _, rfl, rfl, wide_div hn hn2 (by decide) (by decide), _, rfl, _, _, _, _, rfl, rfl, hX, rfl, ?_⟩
          refine ⟨_, rfl, ?_⟩
          exact q _ _ (Int.emod_nonneg _ (by omega)) (Int.emod_lt_of_pos _ hn) (hB.trans But.put) ⟨_, b', m, ns, upd_same, by rw [upd_ne nlp]; exact hL, hlen, Int.ediv_nonneg ha' (by omega), hb', hm, hm2⟩
      · have hX : ∃ a' b' : Int, H p = some (.lst [.ref l, .int a', .int b', .int m]) ∧ 0 ≤ a' ∧ 0 ≤ b' := ⟨_, _, h1, ha, hb⟩
        have hB : But p H H := But.refl p H
        have hL := h2
        obtain ⟨a', b', hX, ha', hb'⟩ := hX
        refine ⟨_, rfl, _, _, _, _, rfl, rfl, SqL.of hX, atI_nat (j := 1) rfl, rfl, _, rfl, ite2 (fun e3 => ?_) (fun e3 => ?_)⟩
        · refine ⟨_, rfl, _, _, _, _, rfl, rfl, SqL.of hX, atI_nat (j := 3) rfl, _, _, rfl, rfl, .inr ⟨by decide, by decide⟩, _, _, rfl, rfl, .inl ⟨_, rfl, _, _, rfl, rfl, (by decide : (0 : Int) < 2147483647), _, rfl, _, _, _, _, rfl, rfl, hX, rfl, ?_⟩⟩
          refine ⟨_, rfl, _, _, _, _, rfl, rfl, SqL.of upd_same, atI_nat (j := 3) rfl, _, _, rfl, rfl, wide_div (b := 64) (by decide) (by decide) (by decide) (by decide), .inl ⟨_, rfl, _, rfl, _, _, rfl, rfl, hn, ?_⟩⟩
          exact q _ _ (Int.emod_nonneg _ (by omega)) (Int.emod_lt_of_pos _ hn) (hB.trans But.put) ⟨a', b', _, ns, upd_same, by rw [upd_ne nlp]; exact hL, hlen, ha', hb', Int.emod_nonneg _ (by decide), Int.emod_lt_of_pos _ (by decide)⟩
        · refine ⟨_, rfl, _, _, _, _, rfl, rfl, SqL.of hX, atI_nat (j := 1) rfl, .inl ⟨_, rfl, _, rfl, _, _, rfl, rfl, hn, ?_⟩⟩
          refine ⟨_, rfl, _, _, _, _, rfl, rfl, SqL.of hX, atI_nat (j := 1) rfl, _, rfl, _, _, rfl, rfl, wide_div hn hn2 (by decide) (by decide), _, rfl, _, _, _, _, rfl, rfl, hX, rfl, ?_⟩
          refine ⟨_, rfl, ?_⟩
          exact q _ _ (Int.emod_nonneg _ (by omega)) (Int.emod_lt_of_pos _ hn) (hB.trans But.put) ⟨_, b', m, ns, upd_same, by rw [upd_ne nlp]; exact hL, hlen, Int.ediv_nonneg ha' (by omega), hb', hm, hm2⟩
    · have hX : ∃ a' b' : Int, H p = some (.lst [.ref l, .int a', .int b', .int m]) ∧ 0 ≤ a' ∧ 0 ≤ b' := ⟨_, _, h1, ha, hb⟩
      have hB : But p H H := But.refl p H
      have hL := h2
      obtain ⟨a', b', hX, ha', hb'⟩ := hX
      refine ⟨_, rfl, _, _, _, _, rfl, rfl, SqL.of hX, atI_nat (j := 1) rfl, rfl, _, rfl, ite2 (fun e3 => ?_) (fun e3 => ?_)⟩
      · refine ⟨_, rfl, _, _, _, _, rfl, rfl, SqL.of hX, atI_nat (j := 3) rfl, _, _, rfl, rfl, .inr ⟨by decide, by decide⟩, _, _, rfl, rfl, .inl ⟨_, rfl, _, _, rfl, rfl, (by decide : (0 : Int) < 2147483647), _, rfl, _, _, _, _, rfl, rfl, hX, rfl, ?_⟩⟩
        refine ⟨_, rfl, _, _, _, _, rfl, rfl, SqL.of upd_same, atI_nat (j := 3) rfl, _, _, rfl, rfl, wide_div (b := 64) (by decide) (by decide) (by decide) (by decide), .inl ⟨_, rfl, _, rfl, _, _, rfl, rfl, hn, ?_⟩⟩
        exact q _ _ (Int.emod_nonneg _ (by omega)) (Int.emod_lt_of_pos _ hn) (hB.trans But.put) ⟨a', b', _, ns, upd_same, by rw [upd_ne nlp]; exact hL, hlen, ha', hb', Int.emod_nonneg _ (by decide), Int.emod_lt_of_pos _ (by decide)⟩
      · refine ⟨_, rfl, _, _, _, _, rfl, rfl, SqL.of hX, atI_nat (j := 1) rfl, .inl ⟨_, rfl, _, rfl, _, _, rfl, rfl, hn, ?_⟩⟩
        refine ⟨_, rfl, _, _, _, _, rfl, rfl, SqL.of hX, atI_nat (j := 1) rfl, _, rfl, _, _, rfl, rfl, wide_div hn hn2 (by decide) (by decide), _, rfl, _, _, _, _, rfl, rfl, hX, rfl, ?_⟩
        refine ⟨_, rfl, ?_⟩
        exact q _ _ (Int.emod_nonneg _ (by omega)) (Int.emod_lt_of_pos _ hn) (hB.trans But.put) ⟨_, b', m, ns, upd_same, by rw [upd_ne nlp]; exact hL, hlen, Int.ediv_nonneg ha' (by omega), hb', hm, hm2⟩

theorem ok__law_kinds {f : Addr} {fd : FuncData} (F : Fun K "_law_kinds" "_law_kinds" s__law_kinds f fd) (E : Bi w K mg)  : FnOk P w K mg base CX0 1 f fd [] (sp__law_kinds K) := by
  refine F.ok sc__law_kinds (fun vs H Q E h => ?_) (fun cdv A outer s H vs Q E' hr h => ?_)
  · obtain ⟨rfl, _⟩ := h
    rfl
  · obtain ⟨rfl, q⟩ := h
    refine ⟨_, (pss_one (ps_ret (pe_lst (pa_cons (pe_tup (pa_cons pe_str (pa_cons pe_str (pa_cons pe_str (pa_cons pe_str pa_nil))))) (pa_cons (pe_tup (pa_cons pe_str (pa_cons pe_str (pa_cons pe_str (pa_cons pe_str pa_nil))))) (pa_cons (pe_tup (pa_cons pe_str (pa_cons pe_str (pa_cons pe_str (pa_cons pe_str pa_nil))))) (pa_cons (pe_tup (pa_cons pe_str (pa_cons pe_str (pa_cons pe_str (pa_cons pe_str pa_nil))))) (pa_cons (pe_tup (pa_cons pe_str (pa_cons pe_str (pa_cons pe_str (pa_cons pe_str pa_nil))))) (pa_cons (pe_tup (pa_cons pe_str (pa_cons pe_str (pa_cons pe_str (pa_cons pe_str pa_nil))))) (pa_cons (pe_tup (pa_cons pe_str (pa_cons pe_str (pa_cons pe_str (pa_cons pe_str pa_nil))))) (pa_cons (pe_tup (pa_cons pe_str (pa_cons pe_str (pa_cons pe_str (pa_cons pe_str pa_nil))))) (pa_cons (pe_tup (pa_cons pe_str (pa_cons pe_str (pa_cons pe_str (pa_cons pe_str pa_nil))))) (pa_cons (pe_tup (pa_cons pe_str (pa_cons pe_str (pa_cons pe_str (pa_cons pe_str pa_nil))))) (pa_cons (pe_tup (pa_cons pe_str (pa_cons pe_str (pa_cons pe_str (pa_cons pe_str pa_nil))))) (pa_cons (pe_tup (pa_cons pe_str (pa_cons pe_str (pa_cons pe_str (pa_cons pe_str pa_nil))))) (pa_cons (pe_tup (pa_cons pe_str (pa_cons pe_str (pa_cons pe_str (pa_cons pe_str pa_nil))))) (pa_cons (pe_tup (pa_cons pe_str (pa_cons pe_str (pa_cons pe_str (pa_cons pe_str pa_nil))))) (pa_cons (pe_tup (pa_cons pe_str (pa_cons pe_str (pa_cons pe_str (pa_cons pe_str pa_nil))))) (pa_cons (pe_tup (pa_cons pe_str (pa_cons pe_str (pa_cons pe_str (pa_cons pe_str pa_nil))))) (pa_cons (pe_tup (pa_cons pe_str (pa_cons pe_str (pa_cons pe_str (pa_cons pe_str pa_nil))))) (pa_cons (pe_tup (pa_cons pe_str (pa_cons pe_str (pa_cons pe_str (pa_cons pe_str pa_nil))))) (pa_cons (pe_tup (pa_cons pe_str (pa_cons pe_str (pa_cons pe_str (pa_cons pe_str pa_nil))))) (pa_cons (pe_tup (pa_cons pe_str (pa_cons pe_str (pa_cons pe_str (pa_cons pe_str pa_nil))))) (pa_cons (pe_tup (pa_cons pe_str (pa_cons pe_str (pa_cons pe_str (pa_cons pe_str pa_nil))))) (pa_cons (pe_tup (pa_cons pe_str (pa_cons pe_str (pa_cons pe_str (pa_cons pe_str pa_nil))))) (pa_cons (pe_tup (pa_cons pe_str (pa_cons pe_str (pa_cons pe_str (pa_cons pe_str pa_nil))))) (pa_cons (pe_tup (pa_cons pe_str (pa_cons pe_str (pa_cons pe_str (pa_cons pe_str pa_nil))))) (pa_cons (pe_tup (pa_cons pe_str (pa_cons pe_str (pa_cons pe_str (pa_cons pe_str pa_nil))))) pa_nil)))))))))))))))))))))))))))), ?_⟩
    refine lit_lst (K := K) (ds := kindsL.map kdD) ?_ (by show 25 ≤ sizeLine; decide) H _ fun v H' s i => q v H' s i
    simp only [kindsL, List.map_cons, List.map_nil, kdD]
    walk_at "lits"

theorem ok__law_due {f : Addr} {fd : FuncData} (F : Fun K "_law_due" "_law_due" s__law_due f fd) (E : Bi w K mg)  : FnOk P w K mg base CX0 1 f fd ["kind", "parts", "wanted"] (sp__law_due K) := by
  refine F.ok sc__law_due (fun vs H Q E h => ?_) (fun cdv A outer s H vs Q E' hr h => ?_)
  · obtain ⟨x, y, q, ds, L, rfl, _⟩ := h
    rfl
  · obtain ⟨x, y, q, ds, L, rfl, hx, hy, ok, lL, hL, R0⟩ := h
    refine ⟨_, (pss_cons (ps_set (i := 3) sc__law_due.nd rfl (Or.inl rfl) (pe_lst pa_nil))
      (pss_cons (ps_for PassesOwn.never rfl (pi_str (pv 2)) (pg_name (i := 4) sc__law_due.nd rfl (Or.inl rfl)) (pss_cons (ps_set (i := 5) sc__law_due.nd rfl (Or.inl rfl) (pe_ix ix_list (pv 1) (pe_m1 PySem.F.slot_str_index PySem.F.type_str_index mt_sindex (pe_ix (show IxR _ (rIxT K) from ix_tup) (pv 0) pe_int (fun _ _ => rfl)) (pv 4)) (fun _ _ => rfl)))
      (pss_cons (ps_set (i := 6) sc__law_due.nd rfl (Or.inl rfl) (pe_lst (pa_cons (pv 5) pa_nil)))
      (pss_cons (ps_if (pt_cmpR op_eq (pv 4) pe_str (nomark _)) (pss_one (ps_set (i := 6) sc__law_due.nd rfl (Or.inl rfl) (pe_lst (pa_cons (pe_tup (pa_cons pe_str (pa_cons (pv 5) pa_nil))) pa_nil)))) pss_nil)
      (pss_cons (ps_if (pt_cmpR op_eq (pv 4) pe_str (nomark _)) (pss_one (ps_setLc (i := 6) (own := [("number", 7)]) (g := gName 7) (tt := tYes) rfl sc__law_due.nd rfl rfl (by rfl) (pi_range1 (by rfl) E.b_range (pa_cons (pv 5) pa_nil)) (blkOk_by (N := N__law_due) (sc := defScope s__law_due) (by decide +kernel)) (fun _ _ _ _ _ => pg_name (i := 7) sc__law_due.nd rfl (Or.inl rfl)) (fun _ _ _ _ _ => pts_nil) (fun _ _ _ _ _ => (pe_tup (pa_cons pe_str (pa_cons (pv 7) pa_nil)))))) pss_nil)
      (pss_one (ps_for PassesOwn.never rfl (pi_list (pv 6)) (pg_name (i := 8) sc__law_due.nd rfl (Or.inl rfl)) (pss_one (ps_if (pt_cmpR (op_notInD (units65 hr)) (pv 8) (pv 3) (by rfl)) (pss_one (ps_expr (pe_bm PySem.F.plainAttrs_list PySem.F.slot_list_append PySem.F.type_list_append mt_append (pv 3) (pa_cons (pv 8) pa_nil)))) pss_nil)))))))))
      (pss_one (ps_ret (pv 3))))), ?_⟩
    unfold kdD at hx
    cases id hx with
    | @tup ax xk _ hsx hax =>
    obtain ⟨y1, hy1, dy1⟩ := DpAll.get (i := 1) hax rfl
    cases dy1
    cases id hy with
    | @lst ay yk _ hsy hay =>
    refine seq_asg ?_
    refine ⟨Nat.zero_le _, fun F nF => ?_⟩
    refine gname (seq_any ?_)
    have s0 := same_upd (o := .lst []) nF
    have put : ∀ {H1 : Hp} {o : HO}, Same H H1 → Same H (upd H1 F o) := fun {H1 o} s1 b u e => by rw [upd_ne (ne_of_none e nF)]; exact s1 b u e
    have dok : ∀ t, ∀ z ∈ dueL q.k ds (L.cps.toList.take t), PyData.strOk z.1 = true := fun t => due_ok ok fun c hc => (hL c (List.mem_of_mem_take hc)).2
    refine ⟨_, rfl, L, rfl, for_it walk_str (fun t σ H' => ∃ v4 v5 v6 v7 v8 vs, σ = [some (.ref ax), some (.ref ay), some (.str L), some (.ref F), v4, v5, v6, v7, v8] ∧ Same H H' ∧ H' F = some (.lst vs) ∧ DpAll K H' vs ((dueL q.k ds (L.cps.toList.take t)).map locD))
      ⟨none, none, none, none, none, [], rfl, s0, upd_same, .nil⟩ (fun t σ H' _ _ => trivial) ?_ ?_⟩
    · rintro t z σ H1 H1' ht ⟨v4, v5, v6, v7, v8, vs, rfl, s1, e1, d1⟩ ⟨rfl, c, hc, rfl⟩
      have hcl : L.cps.toList[t]? = some c := by rw [Array.getElem?_toList]; exact hc
      obtain ⟨hidx, hlt, h3⟩ := hL c (List.mem_of_getElem? hcl)
      obtain ⟨rest, hocc⟩ := idx_occ hidx
      obtain ⟨d, hd, p, he⟩ := ins_part ok hlt
      obtain ⟨v, hv, dv0⟩ := DpAll.get hay hd
      have htk : L.cps.toList.take (t + 1) = L.cps.toList.take t ++ [c] := by rw [List.take_add_one, hcl]; rfl
      have hok := dok t
      have hlen := push_len ((L.cps.toList.take t).flatMap fun c => locsOf c (ds.getD (idxC q.k c) .none))
      refine gname (seq_asg ?_)
      refine ⟨_, rfl, _, rfl, _, _, _, _, rfl, rfl, same_sqT s1 hsx, atI_nat (j := 1) hy1, ⟨_, rfl⟩, _, rfl, _, _, _, rest, rfl, rfl, hocc, _, _, _, _, rfl, rfl, s1.seq hsy, atI_nat (j := idxC q.k c) hv, ?_⟩
      refine gname (seq_asg ?_)
      refine ⟨_, rfl, (by show 1 ≤ sizeLine; decide), fun r1 nr1 => ?_⟩
      have t1 := same_upd (o := .lst [v]) nr1
      refine gname ?_
      have st1 := s1.trans t1
      have eF1 := t1 _ _ e1
      have dF1 := dp_sameAll t1 _ _ d1
      have er1 : (upd H1' r1 (.lst [v])) r1 = some (.lst [v]) := upd_same
      have dv1 := dp_same st1 _ _ dv0
      generalize upd H1' r1 (.lst [v]) = H2 at st1 eF1 dF1 er1 dv1 ⊢
      have hvl : vs.length ≤ 900 := by
        have h1 := DpAll.len d1
        rw [List.length_map] at h1
        have h2 : ∀ M : List Nat, (∀ c ∈ M, c ∈ L.cps.toList) → (M.flatMap fun c => locsOf c (ds.getD (idxC q.k c) .none)).length ≤ 100 * M.length := fun M => by
          induction M with
          | nil => intro _; exact Nat.le_refl _
          | cons m M ih =>
            intro hM
            have i1 := ih fun c hc => hM c (List.mem_cons_of_mem _ hc)
            obtain ⟨_, hml, hm3⟩ := hL m (hM m List.mem_cons_self)
            obtain ⟨dm, hdm, pm, hem⟩ := ins_part ok hml
            rw [List.flatMap_cons, List.length_append, List.length_cons, hem]
            have : (locsOf m dm).length ≤ 100 := by
              unfold locsOf
              by_cases z : m = 107
              · rw [if_pos z]
                obtain ⟨n, hn8, rfl⟩ := pm.cnt z
                show ((List.range ((n : Int)).toNat).map _).length ≤ 100
                rw [List.length_map, List.length_range, Int.toNat_natCast]
                omega
              · rw [if_neg z]
                show 1 ≤ 100
                decide
            omega
        have h3 := h2 (L.cps.toList.take t) fun c hc => List.mem_of_mem_take hc
        rw [List.length_take] at h3
        have h4 : (dueL q.k ds (L.cps.toList.take t)).length ≤ _ := hlen
        omega
      refine seq_via (fun σ' H' => ∃ r us, σ' = [some (.ref ax), some (.ref ay), some (.str L), some (.ref F), some (.str ⟨#[c]⟩), some v, some (.ref r), v7, v8] ∧ Same H H' ∧ H' F = some (.lst vs) ∧ DpAll K H' vs ((dueL q.k ds (L.cps.toList.take t)).map locD) ∧ H' r = some (.lst us) ∧ DpAll K H' us (rowsD c d) ∧ F ≠ r) ?_ (fun go => ?_)
      · rintro σ' H3 ⟨r, us, rfl, s3, eF3, dF3, er3, dr3, Fr⟩
        refine seq_via (fun σ' H' => ∃ r us v7, σ' = [some (.ref ax), some (.ref ay), some (.str L), some (.ref F), some (.str ⟨#[c]⟩), some v, some (.ref r), v7, v8] ∧ Same H H' ∧ H' F = some (.lst vs) ∧ DpAll K H' vs ((dueL q.k ds (L.cps.toList.take t)).map locD) ∧ H' r = some (.lst us) ∧ DpAll K H' us ((locsOf c d).map locD) ∧ us.length ≤ 8 ∧ F ≠ r ∧ ∀ z ∈ locsOf c d, PyData.strOk z.1 = true) ?_ (fun go => ?_)
        · rintro σ' H4 ⟨r, us, v7, rfl, s4, eF4, dF4, er4, dr4, lu, Fr, okL⟩
          have hul := DpAll.len dr4
          rw [List.length_map] at hul
          refine ⟨_, rfl, r, rfl, ⟨_, SqL.of er4⟩, for_list (K := K) (a := r) (xs := us) (fun m σ H' => ∃ v8 ws, σ = [some (.ref ax), some (.ref ay), some (.str L), some (.ref F), some (.str ⟨#[c]⟩), some v, some (.ref r), v7, v8] ∧ Same H H' ∧ H' F = some (.lst ws) ∧ DpAll K H' ws ((((locsOf c d).take m).foldl push (dueL q.k ds (L.cps.toList.take t))).map locD) ∧ H' r = some (.lst us) ∧ DpAll K H' us ((locsOf c d).map locD) ∧ ws.length ≤ vs.length + m)
            ⟨v8, vs, rfl, s4, eF4, dF4, er4, dr4, Nat.le_refl _⟩ (fun m σ H' _ ⟨_, _, _, _, _, _, e, _⟩ => SqL.of e) ?_ ?_⟩
          · rintro m z σ H5 hm ⟨v8, ws, rfl, s5, eF5, dF5, er5, dr5, lw⟩
            obtain ⟨dd, hdd, dz⟩ := DpAll.getV dr5 hm
            rw [List.getElem?_map] at hdd
            obtain ⟨x, hx9, rfl⟩ : ∃ x, (locsOf c d)[m]? = some x ∧ locD x = dd := by
              cases hr2 : (locsOf c d)[m]? with
              | none => rw [hr2] at hdd; cases hdd
              | some x => rw [hr2] at hdd; exact ⟨x, rfl, Option.some.inj hdd⟩
            have htk9 : (locsOf c d).take (m + 1) = (locsOf c d).take m ++ [x] := by rw [List.take_add_one, hx9]; rfl
            have hml := (List.getElem?_eq_some_iff.mp hx9).1
            have okx := okL x (List.mem_of_getElem? hx9)
            have okacc : ∀ z ∈ ((locsOf c d).take m).foldl push (dueL q.k ds (L.cps.toList.take t)), PyData.strOk z.1 = true := fold_ok _ _ hok fun z hz => okL z (List.mem_of_mem_take hz)
            have hstep : ((locsOf c d).take (m + 1)).foldl push (dueL q.k ds (L.cps.toList.take t)) = push (((locsOf c d).take m).foldl push (dueL q.k ds (L.cps.toList.take t))) x := by
              rw [htk9, List.foldl_append]
              rfl
            rw [hstep]
            generalize ((locsOf c d).take m).foldl push (dueL q.k ds (L.cps.toList.take t)) = acc at dF5 okacc
            refine gname ?_
            refine ⟨_, rfl, _, rfl, locD x, acc.map locD, dz, .lst (SqL.of eF5) dF5, loc_shaped okx, locs_shaped okacc, _, rfl, ?_⟩
            rw [loc_any]
            unfold push
            by_cases hin : x ∈ acc
            · rw [decide_eq_true hin, if_pos hin]
              exact iteF ⟨_, ws, rfl, s5, eF5, dF5, er5, dr5, by omega⟩
            · rw [decide_eq_false hin, if_neg hin]
              have nt : notTup H5 F := .inl ⟨_, eF5⟩
              refine iteT ⟨_, rfl, .inl ⟨rfl, _, SqL.of eF5⟩, _, rfl, _, _, _, rfl, rfl, eF5, small1000 (by omega), ?_⟩
              refine ⟨_, ws ++ [z], rfl, put s5, upd_same, ?_, by rw [upd_ne Fr.symm]; exact er5, dp_putAll nt _ _ (locs_noL _) dr5, by rw [List.length_append, List.length_singleton]; omega⟩
              rw [List.map_append]
              exact DpAll.app (dp_putAll nt _ _ (locs_noL _) dF5) (.cons (dp_put nt _ _ (loc_noL _) dz) .nil)
          · rintro σ H5 ⟨v8, ws, rfl, s5, eF5, dF5, er5, dr5, lw⟩
            rw [hul, List.take_length] at dF5
            refine ⟨_, _, _, _, _, ws, rfl, s5, eF5, ?_⟩
            rw [htk, due_snoc, he]
            exact dF5
        · refine ⟨_, rfl, rfl, _, rfl, ite2 (fun e => ?_) (fun e => ?_)⟩
          · have hc7 : c = 107 := (sgn_eq sk).mp e
            obtain ⟨m, hm8, rfl⟩ := p.cnt hc7
            have hlo : locsOf c (.int (m : Int)) = (List.range m).map fun (i : Nat) => (("x" : Str), (i : Int)) := by
              unfold locsOf
              rw [if_pos hc7]
              show (List.range ((m : Int)).toNat).map _ = _
              rw [Int.toNat_natCast]
            cases dv1
            refine ⟨_, rfl, _, rfl, by omega, by omega, fun R hR => ?_⟩
            refine lc_range (fun i H' => ∃ ys, Same H3 H' ∧ H' R = some (.lst ys) ∧ DpAll K H' ys (((List.range i).map fun (i : Nat) => (("x" : Str), (i : Int))).map locD)) ⟨[], same_upd hR, upd_same, .nil⟩ ?_ ?_
            · rintro u H4 hu ⟨ys, s4, e4, d4⟩
              have hyl := DpAll.len d4
              rw [List.length_map, List.length_map, List.length_range] at hyl
              rw [Int.zero_add]
              refine ⟨rfl, _, rfl, (by show 2 ≤ sizeLine; decide), fun p9 np9 => ?_⟩
              have s9 := same_upd (o := .tup [.str "x", .int (u : Int)]) np9
              have nt : notTup (upd H4 p9 (.tup [.str "x", .int (u : Int)])) R := .inl ⟨_, s9 _ _ e4⟩
              refine ⟨ys, s9 _ _ e4, small1000 (by omega), ys ++ [.ref p9], fun b o e => by rw [upd_ne (ne_of_none e hR)]; exact s9 _ _ (s4 _ _ e), upd_same, ?_⟩
              rw [List.range_succ, List.map_append, List.map_append]
              exact DpAll.app (dp_putAll nt _ _ (locs_noL _) (dp_sameAll s9 _ _ d4)) (.cons (dp_put nt _ _ (loc_noL _) (.tup (SqT.of upd_same) (.cons (.str _) (.cons (.int _) .nil)))) .nil)
            · rintro H4 ⟨ys, s4, e4, d4⟩
              rw [Int.toNat_natCast] at d4
              have hyl := DpAll.len d4
              rw [List.length_map, List.length_map, List.length_range] at hyl
              refine gname (go _ _ ⟨R, ys, _, rfl, s3.trans s4, s4 _ _ eF3, dp_sameAll s4 _ _ dF3, e4, by rw [hlo]; exact d4, by omega, ne_of_none eF3 hR, fun z hz => ?_⟩)
              rw [hlo] at hz
              obtain ⟨i, _, rfl⟩ := List.mem_map.mp hz
              exact (show PyData.strOk "x" = true by decide +kernel)
          · have hn7 : c ≠ 107 := fun z => e ((sgn_eq sk).mpr z)
            have hrow : rowsD c d = (locsOf c d).map locD := by unfold rowsD; rw [if_neg hn7]
            rw [hrow] at dr3
            have hl1 : locsOf c d = [loc1 d] := by unfold locsOf; rw [if_neg hn7]
            have hul := DpAll.len dr3
            rw [hl1] at hul
            refine go _ _ ⟨r, us, _, rfl, s3, eF3, dF3, er3, dr3, by simp at hul; omega, Fr, fun z hz => ?_⟩
            rw [hl1, List.mem_singleton] at hz
            rw [hz]
            rcases h3 with z | z | z
            · obtain ⟨x, okx, rfl⟩ := p.loc z
              exact okx
            · obtain ⟨m, rfl⟩ := p.num z
              exact (show PyData.strOk "x" = true by decide +kernel)
            · exact absurd z hn7
      · refine ⟨_, rfl, rfl, _, rfl, ite2 (fun e => ?_) (fun e => ?_)⟩
        · have hc7 : c = 97 := (sgn_eq sa).mp e
          obtain ⟨m, rfl⟩ := p.num hc7
          cases dv1
          refine ⟨_, rfl, (by show 2 ≤ sizeLine; decide), fun p9 np9 => ⟨(by show 1 ≤ sizeLine; decide), fun r2 nr2 => ?_⟩⟩
          have s9 := (same_upd (o := .tup [.str "x", .int (m : Int)]) np9).trans (same_upd (o := .lst [.ref p9]) nr2)
          refine gname (go _ _ ⟨r2, _, rfl, st1.trans s9, s9 _ _ eF1, dp_sameAll s9 _ _ dF1, upd_same, ?_, ne_of_none (same_upd np9 _ _ eF1) nr2⟩)
          rw [show rowsD c (.int (m : Int)) = [locD ("x", (m : Int))] by unfold rowsD locsOf; rw [if_neg (by omega), if_neg (by omega)]; rfl]
          exact .cons (.tup (SqT.of (same_upd nr2 _ _ upd_same)) (.cons (.str _) (.cons (.int _) .nil))) .nil
        · have hn7 : c ≠ 97 := fun z => e ((sgn_eq sa).mpr z)
          refine go _ _ ⟨r1, _, rfl, st1, eF1, dF1, er1, ?_, ne_of_none e1 nr1⟩
          have : rowsD c d = [d] := by
            unfold rowsD
            rcases h3 with z | z | z
            · obtain ⟨x, _, rfl⟩ := p.loc z
              unfold locsOf
              rw [if_neg (by omega), if_neg (by omega)]
              rfl
            · exact absurd z hn7
            · rw [if_pos z]
          rw [this]
          exact .cons dv1 .nil
    · rintro σ H1 ⟨v4, v5, v6, v7, v8, vs, rfl, s1, e1, d1⟩
      rw [show L.cps.size = L.cps.toList.length by rw [Array.length_toList], List.take_length] at d1
      exact nxp ⟨_, rfl, R0 F vs H1 s1 nF e1 d1⟩

theorem ok_reads {f : Addr} {fd : FuncData} (F : Fun K "reads" "reads" s_reads f fd) (E : Bi w K mg) (D_locations : Has P w K mg base 1 "locations" ["instruction", "places"] (sp_locations K)) : FnOk P w K mg base CX0 2 f fd ["instruction"] (sp_reads K) := by
  obtain ⟨f_locations, fd_locations, G_locations, g_locations, kp_locations, b_locations⟩ := D_locations
  obtain ⟨d_READS, es_READS, n_READS, e_READS, k_READS, y_READS, z_READS⟩ := E.c_READS
  obtain ⟨u_CALLS, v_CALLS, e_CALLS, r_CALLS, d_CALLS⟩ := E.c_CALLS
  refine F.ok sc_reads (fun vs H Q E h => ?_) (fun cdv A outer s H vs Q E' hr h => ?_)
  · obtain ⟨i, q, ds, rfl, _⟩ := h
    rfl
  · obtain ⟨i, q, ds, rfl, hi, hq, ok, R0⟩ := h
    refine ⟨_, (pss_cons (ps_if (pt_cmpR (show OpR _ (compareOp .In) (rIn K false) from op_in_seq) (pe_ix ix_tup (pv 0) pe_int (fun _ _ => rfl)) (pe_glob (by rfl) e_CALLS r_CALLS) (by rfl)) (pss_one (ps_ret (pe_lc (own := [("number", 1)]) (g := gName 1) (tt := tYes) rfl sc_reads.nd (pi_range1 (by rfl) E.b_range (pa_cons (pe_ix ix_tup (pv 0) pe_int (fun _ _ => rfl)) pa_nil)) (blkOk_by (N := N_reads) (sc := defScope s_reads) (by decide +kernel)) (fun _ _ _ _ _ => pg_name (i := 1) sc_reads.nd rfl (Or.inl rfl)) (fun _ _ _ _ _ => pts_nil) (fun _ _ _ _ _ => (pe_tup (pa_cons pe_str (pa_cons (pv 1) pa_nil))))))) pss_nil)
      (pss_one (ps_ret (pe_call G_locations (hr.mono (by decide)) (by rfl) g_locations kp_locations b_locations .nil pass0 (pa_cons (pv 0) (pa_cons (pe_getKD (pe_glob (by rfl) e_READS (relRef _)) (pe_ix ix_tup (pv 0) pe_int (fun _ _ => rfl)) (pe_tup pa_nil) ⟨by rfl, by rfl, by rfl, by rfl⟩) pa_nil)))))), ?_⟩
    obtain ⟨aL, rfl, hL⟩ : ∃ aL, v_CALLS = .ref aL ∧ ∀ H', SqT K H' aL [.str "call", .str "execute"] := by
      cases d_CALLS with
      | tup hs ha =>
      cases ha with
      | cons e1 ha =>
      cases ha with
      | cons e2 ha =>
      cases ha
      cases e1
      cases e2
      exact ⟨_, rfl, fun H' => same_sqT (none_same _) hs⟩
    cases id hi with
    | @tup a xs _ g ea ia =>
    obtain ⟨y0, hy0, iy0⟩ := ImAll.get (i := 0) ia rfl
    cases iy0
    have kr := kinds_r q hq
    unfold kindR at kr
    refine seq_ifN ?_
    refine ⟨_, rfl, _, _, _, _, rfl, rfl, SqT.of ea, atI_nat (j := 0) hy0, aL, _, rfl, .inr (hL _), rfl, rfl, _, rfl, ?_⟩
    show (if inV (.str q.w) [.str "call", .str "execute"] = true then _ else _)
    cases hcall : isCall q.w with
    | true =>
      rw [show inV (.str q.w) [.str "call", .str "execute"] = true from hcall]
      rw [hcall, if_pos rfl, Bool.and_eq_true, Bool.and_eq_true, decide_eq_true_eq, decide_eq_true_eq, decide_eq_true_eq] at kr
      obtain ⟨⟨h107, hidx⟩, hlen⟩ := kr
      refine iteT ?_
      obtain ⟨d, hd, p, he⟩ := ins_part ok (c := 107) (by omega)
      obtain ⟨m, hm8, rfl⟩ := p.cnt rfl
      rw [hidx] at hd
      obtain ⟨y2, hy2, iy2⟩ := ImAll.get (i := 2) ia (by rw [List.getElem?_cons_succ]; exact hd)
      cases iy2
      have hdue : dueL q.k ds q.r.cps.toList = (List.range m).map fun (i : Nat) => (("x" : Str), (i : Int)) := by
        rw [h107]
        unfold dueL
        rw [List.flatMap_cons, List.flatMap_nil, List.append_nil, he]
        unfold locsOf
        rw [if_pos rfl]
        show ddp ((List.range ((m : Int)).toNat).map _) = _
        rw [Int.toNat_natCast]
        exact ddp_range m
      rw [hdue] at R0
      refine ⟨_, rfl, _, _, _, _, rfl, rfl, SqT.of ea, atI_nat (j := 2) hy2, _, rfl, by omega, by omega, fun R hR => ?_⟩
      refine lc_range (fun i H' => ∃ ys, Same H H' ∧ H' R = some (.lst ys) ∧ DpAll K H' ys (((List.range i).map fun (i : Nat) => (("x" : Str), (i : Int))).map locD)) ⟨[], same_upd hR, upd_same, .nil⟩ ?_ ?_
      · rintro t H1 ht ⟨ys, s1, e1, d1⟩
        have hyl := DpAll.len d1
        rw [List.length_map, List.length_map, List.length_range] at hyl
        rw [Int.zero_add]
        refine ⟨rfl, _, rfl, (by show 2 ≤ sizeLine; decide), fun p9 np9 => ?_⟩
        have s9 := same_upd (o := .tup [.str "x", .int (t : Int)]) np9
        have nt : notTup (upd H1 p9 (.tup [.str "x", .int (t : Int)])) R := .inl ⟨_, s9 _ _ e1⟩
        refine ⟨ys, s9 _ _ e1, small1000 (by omega), ys ++ [.ref p9], fun b o e => by rw [upd_ne (ne_of_none e hR)]; exact s9 _ _ (s1 _ _ e), upd_same, ?_⟩
        rw [List.range_succ, List.map_append, List.map_append]
        exact DpAll.app (dp_putAll nt _ _ (locs_noL _) (dp_sameAll s9 _ _ d1)) (.cons (dp_put nt _ _ (loc_noL _) (.tup (SqT.of upd_same) (.cons (.str _) (.cons (.int _) .nil)))) .nil)
      · rintro H1 ⟨ys, s1, e1, d1⟩
        rw [Int.toNat_natCast] at d1
        exact R0 R ys H1 s1 hR e1 d1
    | false =>
      rw [show inV (.str q.w) [.str "call", .str "execute"] = false from hcall]
      rw [hcall, if_neg Bool.false_ne_true, Bool.and_eq_true, Bool.or_eq_true, Bool.and_eq_true, decide_eq_true_eq, decide_eq_true_eq, decide_eq_true_eq] at kr
      refine iteF ?_
      rw [← due_places q ds q.r q.w kr.2] at R0
      have pk := place_ok ok q.w q.r kr.2
      refine ⟨_, rfl, d_READS, es_READS, n_READS, rfl, k_READS, _, rfl, _, _, _, _, rfl, rfl, SqT.of ea, atI_nat (j := 0) hy0, Nat.zero_le _, fun p0 np0 => ?_⟩
      have s0 := same_upd (o := .tup []) np0
      have hi0 := Im.mono (K := K) (G' := fun _ => True) (fun b o _ e => s0 b o e) (fun _ _ => trivial) _ _ hi
      rcases kr.1 with hA | ⟨hB, hE⟩
      · obtain ⟨u, v, h1, rv, dv⟩ := y_READS _ hA
        refine ⟨q.w, some u, rfl, h1, fun u' hu => ?_, fun z => nomatch z⟩
        cases hu
        exact ⟨v, rv, .ref a, v, _, _, rfl, hi0, dp_same (none_same _) _ _ dv, (kinds_pl q hq).1, pk, R0.same s0⟩
      · refine ⟨q.w, Option.none, rfl, z_READS _ hB, fun u' hu => (nomatch hu), fun _ => ?_⟩
        refine ⟨.ref a, .ref p0, _, [], rfl, hi0, .tup (SqT.of upd_same) .nil, Nat.zero_le _, (fun n hn => nomatch hn), ?_⟩
        rw [hE] at R0
        exact R0.same s0

theorem ok_writes {f : Addr} {fd : FuncData} (F : Fun K "writes" "writes" s_writes f fd) (E : Bi w K mg) (D_locations : Has P w K mg base 1 "locations" ["instruction", "places"] (sp_locations K)) : FnOk P w K mg base CX0 2 f fd ["instruction"] (sp_writes K) := by
  obtain ⟨f_locations, fd_locations, G_locations, g_locations, kp_locations, b_locations⟩ := D_locations
  obtain ⟨d_WRITES, es_WRITES, n_WRITES, e_WRITES, k_WRITES, y_WRITES, z_WRITES⟩ := E.c_WRITES
  refine F.ok sc_writes (fun vs H Q E h => ?_) (fun cdv A outer s H vs Q E' hr h => ?_)
  · obtain ⟨i, q, ds, rfl, _⟩ := h
    rfl
  · obtain ⟨i, q, ds, rfl, hi, hq, ok, R0⟩ := h
    refine ⟨_, (pss_one (ps_ret (pe_call G_locations (hr.mono (by decide)) (by rfl) g_locations kp_locations b_locations .nil pass0 (pa_cons (pv 0) (pa_cons (pe_getKD (pe_glob (by rfl) e_WRITES (relRef _)) (pe_ix ix_tup (pv 0) pe_int (fun _ _ => rfl)) (pe_tup pa_nil) ⟨by rfl, by rfl, by rfl, by rfl⟩) pa_nil))))), ?_⟩
    cases id hi with
    | @tup a xs _ g ea ia =>
    obtain ⟨y0, hy0, iy0⟩ := ImAll.get (i := 0) ia rfl
    cases iy0
    have kr := kinds_w q hq
    unfold kindW at kr
    rw [Bool.and_eq_true, Bool.or_eq_true, Bool.and_eq_true, decide_eq_true_eq, decide_eq_true_eq, decide_eq_true_eq] at kr
    rw [← due_places q ds q.t q.w kr.2] at R0
    have pk := place_ok ok q.w q.t kr.2
    refine ⟨_, rfl, d_WRITES, es_WRITES, n_WRITES, rfl, k_WRITES, _, rfl, _, _, _, _, rfl, rfl, SqT.of ea, atI_nat (j := 0) hy0, Nat.zero_le _, fun p0 np0 => ?_⟩
    have s0 := same_upd (o := .tup []) np0
    have hi0 := Im.mono (K := K) (G' := fun _ => True) (fun b o _ e => s0 b o e) (fun _ _ => trivial) _ _ hi
    have pl := kinds_pl q hq
    rcases kr.1 with hA | ⟨hB, hE⟩
    · obtain ⟨u, v, h1, rv, dv⟩ := y_WRITES _ hA
      refine ⟨q.w, some u, rfl, h1, fun u' hu => ?_, fun z => nomatch z⟩
      cases hu
      exact ⟨v, rv, .ref a, v, _, _, rfl, hi0, dp_same (none_same _) _ _ dv, pl.2, pk, R0.same s0⟩
    · refine ⟨q.w, Option.none, rfl, z_WRITES _ hB, fun u' hu => (nomatch hu), fun _ => ?_⟩
      refine ⟨.ref a, .ref p0, _, [], rfl, hi0, .tup (SqT.of upd_same) .nil, Nat.zero_le _, (fun n hn => nomatch hn), ?_⟩
      rw [hE] at R0
      exact R0.same s0

theorem ok__law_location {f : Addr} {fd : FuncData} (F : Fun K "_law_location" "_law_location" s__law_location f fd) (E : Bi w K mg) (D__law_draw : Has P w K mg base 1 "_law_draw" ["stream", "many"] (sp__law_draw K)) : FnOk P w K mg base CX0 2 f fd ["stream"] (sp__law_location K) := by
  obtain ⟨f__law_draw, fd__law_draw, G__law_draw, g__law_draw, kp__law_draw, b__law_draw⟩ := D__law_draw
  refine F.ok sc__law_location (fun vs H Q E h => ?_) (fun cdv A outer s H vs Q E' hr h => ?_)
  · obtain ⟨s, l, rfl, _⟩ := h
    rfl
  · obtain ⟨s, l, rfl, hS, q⟩ := h
    have n9 : (2 : Nat) ^ 8 ≤ 2 ^ 9000 := Nat.pow_le_pow_right (by decide) (by decide)
    refine ⟨_, (pss_one (ps_ret (pe_tup (pa_cons (pe_ix ix_str pe_str (pe_call G__law_draw (hr.mono (by decide)) (by rfl) g__law_draw kp__law_draw b__law_draw .nil pass0 (pa_cons (pv 0) (pa_cons pe_int pa_nil))) (fun _ _ => rfl)) (pa_cons (pe_call G__law_draw (hr.mono (by decide)) (by rfl) g__law_draw kp__law_draw b__law_draw .nil pass0 (pa_cons (pv 0) (pa_cons pe_int pa_nil))) pa_nil))))), ?_⟩
    refine ⟨_, rfl, s, l, 2, rfl, hS, by decide, Nat.lt_of_lt_of_le (by decide) n9, fun y H1 y0 y1 b1 S1 => ?_⟩
    obtain ⟨ch, hch, okc⟩ := pick_xy y0 y1
    refine ⟨_, _, ch, rfl, rfl, (by show 2 ≤ sizeLine; decide), hch, _, rfl, s, l, 30, rfl, S1, by decide, Nat.lt_of_lt_of_le (by decide) n9, fun m H2 m0 m1 b2 S2 => ⟨(by show 2 ≤ sizeLine; decide), fun p np => ?_⟩⟩
    have b12 := b1.trans b2
    have hp : H p = Option.none := by
      obtain ⟨o, ho⟩ := S2.at_s
      cases z : H p with
      | none => rfl
      | some o' =>
        by_cases hb : p = s
        · rw [hb, ho] at np; cases np
        · rw [b12 _ _ hb z] at np; cases np
    exact q (.ref p) (⟨#[ch]⟩, m) _ okc (b12.trans (But.of (same_upd np))) (S2.keep (same_upd np)) (.tup hp upd_same (.cons (.str _) (.cons (.int _) .nil)))

theorem ok__law_constant {f : Addr} {fd : FuncData} (F : Fun K "_law_constant" "_law_constant" s__law_constant f fd) (E : Bi w K mg) (D__law_draw : Has P w K mg base 1 "_law_draw" ["stream", "many"] (sp__law_draw K)) : FnOk P w K mg base CX0 2 f fd ["stream"] (sp__law_constant K) := by
  obtain ⟨f__law_draw, fd__law_draw, G__law_draw, g__law_draw, kp__law_draw, b__law_draw⟩ := D__law_draw
  refine F.ok sc__law_constant (fun vs H Q E h => ?_) (fun cdv A outer s H vs Q E' hr h => ?_)
  · obtain ⟨s, l, rfl, _⟩ := h
    rfl
  · obtain ⟨s, l, rfl, hS, q⟩ := h
    have n9 : (2 : Nat) ^ 16 ≤ 2 ^ 9000 := Nat.pow_le_pow_right (by decide) (by decide)
    refine ⟨_, (pss_cons (ps_if (pt_cmpR op_eq (pe_call G__law_draw (hr.mono (by decide)) (by rfl) g__law_draw kp__law_draw b__law_draw .nil pass0 (pa_cons (pv 0) (pa_cons pe_int pa_nil))) pe_int (nomark _)) (pss_one (ps_ret (pe_op op_sub (pe_call G__law_draw (hr.mono (by decide)) (by rfl) g__law_draw kp__law_draw b__law_draw .nil pass0 (pa_cons (pv 0) (pa_cons pe_int pa_nil))) pe_int))) pss_nil)
      (pss_one (ps_ret (pe_tup (pa_cons pe_str (pa_cons (pe_ix ix_list (pe_lst (pa_cons pe_str (pa_cons pe_str (pa_cons pe_str pa_nil)))) (pe_call G__law_draw (hr.mono (by decide)) (by rfl) g__law_draw kp__law_draw b__law_draw .nil pass0 (pa_cons (pv 0) (pa_cons pe_int pa_nil))) (fun _ _ => rfl)) (pa_cons pe_int pa_nil))))))), ?_⟩
    refine seq_ifN ?_
    refine ⟨_, rfl, s, l, 2, rfl, hS, by decide, Nat.lt_of_lt_of_le (by decide) n9, fun y H1 y0 y1 b1 S1 => ⟨rfl, _, rfl, ite2 (fun e => ?_) (fun e => ?_)⟩⟩
    · refine ⟨_, rfl, s, l, 1000, rfl, S1, by decide, Nat.lt_of_lt_of_le (by decide) n9, fun m H2 m0 m1 b2 S2 => ⟨_, _, rfl, rfl, ?_⟩⟩
      exact q _ (.int (m - 500)) _ (b1.trans b2) S2 (.int _)
    · show tTup _ _ _ _
      refine tup_of (args1 (const_of (args1 (op_of ?_))))
      refine lit_lst (K := K) (ds := (["a", "[]", "x y"] : List Str).map PyData.str) ?_ (by decide) H1 _ fun v0 H2 t0 i0 => ?_
      · simp only [List.map_cons, List.map_nil]
        walk_at "lits"
      cases i0 with
      | @lst p0 xs0 _ g0 e0 a0 =>
      obtain ⟨os1, hos1⟩ := S1.at_s
      have np0 : p0 ≠ s := fun z => by
        rw [z, hos1] at g0
        cases g0
      refine ⟨_, rfl, s, l, 3, rfl, S1.keep t0, by decide, Nat.lt_of_lt_of_le (by decide) n9, fun r H3 r0 r1 b3 S3 => ?_⟩
      obtain ⟨x, hx0, hatx⟩ := lit_pick a0 r0 r1
      refine ⟨_, _, _, _, rfl, rfl, SqL.of (b3 _ _ np0 e0), hatx, (by show 3 ≤ sizeLine; decide), fun p np => ?_⟩
      have b13 := (b1.trans (But.of t0)).trans b3
      have hp : H p = Option.none := by
        obtain ⟨o, ho⟩ := S3.at_s
        cases z : H p with
        | none => rfl
        | some o' =>
          by_cases hb : p = s
          · rw [hb, ho] at np; cases np
          · rw [b13 _ _ hb z] at np; cases np
      exact q _ (.tuple [.str "f", .str x, .int 0]) _ (b13.trans (But.of (same_upd np))) (S3.keep (same_upd np)) (.tup hp upd_same (.cons (.str _) (.cons (.str _) (.cons (.int _) .nil))))

theorem ok__law_part {f : Addr} {fd : FuncData} (F : Fun K "_law_part" "_law_part" s__law_part f fd) (E : Bi w K mg) (D__law_location : Has P w K mg base 2 "_law_location" ["stream"] (sp__law_location K)) (D__law_constant : Has P w K mg base 2 "_law_constant" ["stream"] (sp__law_constant K)) (D__law_draw : Has P w K mg base 1 "_law_draw" ["stream", "many"] (sp__law_draw K)) : FnOk P w K mg base CX0 3 f fd ["stream", "kind"] (sp__law_part K) := by
  obtain ⟨f__law_location, fd__law_location, G__law_location, g__law_location, kp__law_location, b__law_location⟩ := D__law_location
  obtain ⟨f__law_constant, fd__law_constant, G__law_constant, g__law_constant, kp__law_constant, b__law_constant⟩ := D__law_constant
  obtain ⟨f__law_draw, fd__law_draw, G__law_draw, g__law_draw, kp__law_draw, b__law_draw⟩ := D__law_draw
  refine F.ok sc__law_part (fun vs H Q E h => ?_) (fun cdv A outer s H vs Q E' hr h => ?_)
  · obtain ⟨s, l, c, rfl, _⟩ := h
    rfl
  · obtain ⟨s, l, c, rfl, hS, q⟩ := h
    have n9 : (2 : Nat) ^ 8 ≤ 2 ^ 9000 := Nat.pow_le_pow_right (by decide) (by decide)
    refine ⟨_, (pss_cons (ps_if (pt_cmpR op_eq (pv 1) pe_str (nomark _)) (pss_one (ps_ret (pe_call G__law_location (hr.mono (by decide)) (by rfl) g__law_location kp__law_location b__law_location .nil pass0 (pa_cons (pv 0) pa_nil)))) pss_nil)
      (pss_cons (ps_if (pt_cmpR op_eq (pv 1) pe_str (nomark _)) (pss_one (ps_ret (pe_call G__law_constant (hr.mono (by decide)) (by rfl) g__law_constant kp__law_constant b__law_constant .nil pass0 (pa_cons (pv 0) pa_nil)))) pss_nil)
      (pss_cons (ps_if (pt_cmpR op_eq (pv 1) pe_str (nomark _)) (pss_one (ps_ret (pe_ix ix_list (pe_lst (pa_cons pe_str (pa_cons pe_str (pa_cons pe_str (pa_cons pe_str pa_nil))))) (pe_call G__law_draw (hr.mono (by decide)) (by rfl) g__law_draw kp__law_draw b__law_draw .nil pass0 (pa_cons (pv 0) (pa_cons pe_int pa_nil))) (fun _ _ => rfl)))) pss_nil)
      (pss_cons (ps_if (pt_cmpR op_eq (pv 1) pe_str (nomark _)) (pss_one (ps_ret (pe_call G__law_draw (hr.mono (by decide)) (by rfl) g__law_draw kp__law_draw b__law_draw .nil pass0 (pa_cons (pv 0) (pa_cons pe_int pa_nil))))) pss_nil)
      (pss_cons (ps_if (pt_cmpR op_eq (pv 1) pe_str (nomark _)) (pss_one (ps_ret (pe_op op_add pe_int (pe_call G__law_draw (hr.mono (by decide)) (by rfl) g__law_draw kp__law_draw b__law_draw .nil pass0 (pa_cons (pv 0) (pa_cons pe_int pa_nil)))))) pss_nil)
      (pss_one (ps_ret (pe_call G__law_draw (hr.mono (by decide)) (by rfl) g__law_draw kp__law_draw b__law_draw .nil pass0 (pa_cons (pv 0) (pa_cons pe_int pa_nil)))))))))), ?_⟩
    refine seq_ifN ?_
    refine ⟨_, rfl, rfl, _, rfl, ite2 (fun e => ?_) (fun e => ?_)⟩
    · have hc : c = 76 := (sgn_eq sL).mp e
      refine ⟨_, rfl, s, l, rfl, hS, fun v x H1 okx b1 S1 iv => ?_⟩
      exact q v (locD x) H1 ⟨fun _ => ⟨x, okx, rfl⟩, fun z => by omega, fun z => by omega⟩ b1 S1 iv
    have n1 : c ≠ 76 := fun z => e ((sgn_eq sL).mpr z)
    refine seq_ifN ?_
    refine ⟨_, rfl, rfl, _, rfl, ite2 (fun e => ?_) (fun e => ?_)⟩
    · have hc : c = 67 := (sgn_eq sC).mp e
      refine ⟨_, rfl, s, l, rfl, hS, fun v d H1 b1 S1 iv => ?_⟩
      exact q v d H1 (part_other (by omega) (by omega) (by omega)) b1 S1 iv
    refine seq_ifN ?_
    refine ⟨_, rfl, rfl, _, rfl, ite2 (fun e => ?_) (fun e => ?_)⟩
    · have hc : c = 110 := (sgn_eq sn).mp e
      show tOp _ _ _ _ _ _
      refine op_of ?_
      refine lit_lst (K := K) (ds := (["p", "call", "=", "long_name"] : List Str).map PyData.str) ?_ (by decide) H _ fun v0 H2 t0 i0 => ?_
      · simp only [List.map_cons, List.map_nil]
        walk_at "lits"
      cases i0 with
      | @lst p0 xs0 _ g0 e0 a0 =>
      obtain ⟨os1, hos1⟩ := hS.at_s
      have np0 : p0 ≠ s := fun z => by
        rw [z, hos1] at g0
        cases g0
      refine ⟨_, rfl, s, l, 4, rfl, hS.keep t0, by decide, Nat.lt_of_lt_of_le (by decide) n9, fun r H3 r0 r1 b3 S3 => ?_⟩
      obtain ⟨x, hx0, hatx⟩ := lit_pick a0 r0 r1
      refine ⟨_, _, _, _, rfl, rfl, SqL.of (b3 _ _ np0 e0), hatx, ?_⟩
      exact q _ (.str x) _ (part_other (by omega) (by omega) (by omega)) ((But.of t0).trans b3) S3 (.str _)
    refine seq_ifN ?_
    refine ⟨_, rfl, rfl, _, rfl, ite2 (fun e => ?_) (fun e => ?_)⟩
    · have hc : c = 107 := (sgn_eq sk).mp e
      refine ⟨_, rfl, s, l, 9, rfl, hS, by decide, Nat.lt_of_lt_of_le (by decide) n9, fun m H1 m0 m1 b1 S1 => ?_⟩
      exact q _ (.int m) _ ⟨fun z => by omega, fun z => by omega, fun _ => ⟨m.toNat, by omega, by rw [Int.toNat_of_nonneg m0]⟩⟩ b1 S1 (.int _)
    have n2 : c ≠ 107 := fun z => e ((sgn_eq sk).mpr z)
    refine seq_ifN ?_
    refine ⟨_, rfl, rfl, _, rfl, ite2 (fun e => ?_) (fun e => ?_)⟩
    · have hc : c = 75 := (sgn_eq sK).mp e
      refine ⟨_, rfl, s, l, 8, rfl, hS, by decide, Nat.lt_of_lt_of_le (by decide) n9, fun m H1 m0 m1 b1 S1 => ⟨_, _, rfl, rfl, ?_⟩⟩
      exact q _ (.int (1 + m)) _ (part_other (by omega) (by omega) (by omega)) b1 S1 (.int _)
    refine ⟨_, rfl, s, l, 30, rfl, hS, by decide, Nat.lt_of_lt_of_le (by decide) n9, fun m H1 m0 m1 b1 S1 => ?_⟩
    exact q _ (.int m) _ ⟨fun z => absurd z n1, fun _ => ⟨m.toNat, by rw [Int.toNat_of_nonneg m0]⟩, fun z => absurd z n2⟩ b1 S1 (.int _)

theorem ok_law {f : Addr} {fd : FuncData} (F : Fun K "law" "law" s_law f fd) (E : Bi w K mg) (D__law_stream : Has P w K mg base 1 "_law_stream" ["script"] (sp__law_stream K)) (D__law_kinds : Has P w K mg base 1 "_law_kinds" [] (sp__law_kinds K)) (D__law_draw : Has P w K mg base 1 "_law_draw" ["stream", "many"] (sp__law_draw K)) (D__law_part : Has P w K mg base 3 "_law_part" ["stream", "kind"] (sp__law_part K)) (D_reads : Has P w K mg base 2 "reads" ["instruction"] (sp_reads K)) (D_writes : Has P w K mg base 2 "writes" ["instruction"] (sp_writes K)) (D__law_due : Has P w K mg base 1 "_law_due" ["kind", "parts", "wanted"] (sp__law_due K)) : FnOk P w K mg base CX0 4 f fd ["script"] (sp_law K) := by
  obtain ⟨f__law_stream, fd__law_stream, G__law_stream, g__law_stream, kp__law_stream, b__law_stream⟩ := D__law_stream
  obtain ⟨f__law_kinds, fd__law_kinds, G__law_kinds, g__law_kinds, kp__law_kinds, b__law_kinds⟩ := D__law_kinds
  obtain ⟨f__law_draw, fd__law_draw, G__law_draw, g__law_draw, kp__law_draw, b__law_draw⟩ := D__law_draw
  obtain ⟨f__law_part, fd__law_part, G__law_part, g__law_part, kp__law_part, b__law_part⟩ := D__law_part
  obtain ⟨f_reads, fd_reads, G_reads, g_reads, kp_reads, b_reads⟩ := D_reads
  obtain ⟨f_writes, fd_writes, G_writes, g_writes, kp_writes, b_writes⟩ := D_writes
  obtain ⟨f__law_due, fd__law_due, G__law_due, g__law_due, kp__law_due, b__law_due⟩ := D__law_due
  refine F.ok sc_law (fun vs H Q E h => ?_) (fun cdv A outer s H vs Q E' hr h => ?_)
  · obtain ⟨a, ns, rfl, _⟩ := h
    rfl
  · obtain ⟨a, ns, rfl, hS, hl, q0⟩ := h
    have n9 : (2 : Nat) ^ 8 ≤ 2 ^ 9000 := Nat.pow_le_pow_right (by decide) (by decide)
    refine ⟨_, (pss_cons (ps_set (i := 1) sc_law.nd rfl (Or.inr rfl) (pe_call G__law_stream (hr.mono (by decide)) (by rfl) g__law_stream kp__law_stream b__law_stream .nil pass0 (pa_cons (pv 0) pa_nil)))
      (pss_cons (ps_set (i := 2) sc_law.nd rfl (Or.inl rfl) (pe_call0 G__law_kinds (hr.mono (by decide)) (by rfl) g__law_kinds kp__law_kinds b__law_kinds .nil pass0))
      (pss_cons (ps_set (i := 3) sc_law.nd rfl (Or.inl rfl) (pe_ix ix_list (pv 2) (pe_call G__law_draw (hr.mono (by decide)) (by rfl) g__law_draw kp__law_draw b__law_draw .nil pass0 (pa_cons (pv 1) (pa_cons (pe_callB call_len_seq (by rfl) E.b_len PySem.boot_len (pa_cons (pv 2) pa_nil)) pa_nil))) (fun _ _ => rfl)))
      (pss_cons (ps_setLc (i := 4) (own := [("sign", 5)]) (g := gName 5) (tt := tYes) rfl sc_law.nd rfl rfl (by rfl) (pi_str (pe_ix (show IxR _ (rIxT K) from ix_tup) (pv 3) pe_int (fun _ _ => rfl))) (blkOk_by (N := N_law) (sc := defScope s_law) (by decide +kernel)) (fun _ _ _ _ _ => pg_name (i := 5) sc_law.nd rfl (Or.inl rfl)) (fun _ _ _ _ _ => pts_nil) (fun _ _ _ _ _ => (pe_call G__law_part (hr.mono (by decide)) (by rfl) g__law_part kp__law_part b__law_part .nil pass0 (pa_cons (pv 1) (pa_cons (pv 5) pa_nil)))))
      (pss_cons (ps_if (pw_and (pt_cmpR op_eq (pe_ix (show IxR _ (rIxT K) from ix_tup) (pv 3) pe_int (fun _ _ => rfl)) pe_str (nomark _)) (pw_and1 (pt_cmpR op_eq (pe_call G__law_draw (hr.mono (by decide)) (by rfl) g__law_draw kp__law_draw b__law_draw .nil pass0 (pa_cons (pv 1) (pa_cons pe_int pa_nil))) pe_int (nomark _)))).pt (pss_one (ps_asg (pe_tup (pa_cons pe_str (pa_cons (pe_ix ix_list (pv 4) pe_int (fun _ _ => rfl)) pa_nil))) (pg_sub (pv 4) pe_int set_list))) pss_nil)
      (pss_cons (ps_set (i := 6) sc_law.nd rfl (Or.inl rfl) (pe_op op_catA (pe_tup (pa_cons (pe_ix ix_tup (pv 3) pe_int (fun _ _ => rfl)) pa_nil)) (pe_callTy call_tuple_of (by rfl) E.b_tuple (by decide +kernel) (pa_cons (pv 4) pa_nil))))
      (pss_cons (ps_set (i := 7) sc_law.nd rfl (Or.inl rfl) (pe_call G_reads (hr.mono (by decide)) (by rfl) g_reads kp_reads b_reads .nil pass0 (pa_cons (pv 6) pa_nil)))
      (pss_cons (ps_set (i := 8) sc_law.nd rfl (Or.inl rfl) (pe_call G_writes (hr.mono (by decide)) (by rfl) g_writes kp_writes b_writes .nil pass0 (pa_cons (pv 6) pa_nil)))
      (pss_cons (ps_if (pw_or (pt_not (pt_val (pe_callB call_isi (by rfl) E.b_isinstance (by decide +kernel) (pa_cons (pv 7) (pa_cons (pe_ty "list" (by rfl) E.b_list (by decide +kernel)) pa_nil))))) (pw_or1 (pt_not (pt_val (pe_callB call_isi (by rfl) E.b_isinstance (by decide +kernel) (pa_cons (pv 8) (pa_cons (pe_ty "list" (by rfl) E.b_list (by decide +kernel)) pa_nil))))))).pt (pss_one (ps_ret pe_bl)) pss_nil)
      (pss_cons (ps_set (i := 9) sc_law.nd rfl (Or.inl rfl) (pe_call G__law_due (hr.mono (by decide)) (by rfl) g__law_due kp__law_due b__law_due .nil pass0 (pa_cons (pv 3) (pa_cons (pv 4) (pa_cons (pe_ix ix_tup (pv 3) pe_int (fun _ _ => rfl)) pa_nil)))))
      (pss_cons (ps_if (pw_or (pt_cmpR (op_neD hr.units) (pv 7) (pv 9) (nomark _)) (pw_or1 (pt_cmpR (op_neD hr.units) (pv 8) (pe_call G__law_due (hr.mono (by decide)) (by rfl) g__law_due kp__law_due b__law_due .nil pass0 (pa_cons (pv 3) (pa_cons (pv 4) (pa_cons (pe_ix ix_tup (pv 3) pe_int (fun _ _ => rfl)) pa_nil)))) (nomark _)))).pt (pss_one (ps_ret pe_bl)) pss_nil)
      (pss_cons (ps_if (pw_or (pt_val (pe_callB call_isi (by rfl) E.b_isinstance (by decide +kernel) (pa_cons (pe_gC (by rfl) E.c_MOST_REGISTERS) (pa_cons (pe_ty "bool" (by rfl) E.b_bool (by decide +kernel)) pa_nil)))) (pw_or1 (pt_cmpR op_ne (pe_gC (by rfl) E.c_MOST_REGISTERS) pe_int (nomark _)))).pt (pss_one (ps_ret pe_bl)) pss_nil)
      (pss_cons (ps_expr (pe_bm PySem.F.plainAttrs_list PySem.F.slot_list_append PySem.F.type_list_append mt_append (pv 7) (pa_cons pe_int pa_nil)))
      (pss_cons (ps_expr (pe_bm PySem.F.plainAttrs_list PySem.F.slot_list_append PySem.F.type_list_append mt_append (pv 8) (pa_cons pe_int pa_nil)))
      (pss_one (ps_ret (pe_and (pe_cmpR (op_eqD hr.units) (pe_call G_reads (hr.mono (by decide)) (by rfl) g_reads kp_reads b_reads .nil pass0 (pa_cons (pv 6) pa_nil)) (pv 9) (nomark _)) (pe_one (pe_cmpR (op_eqD hr.units) (pe_call G_writes (hr.mono (by decide)) (by rfl) g_writes kp_writes b_writes .nil pass0 (pa_cons (pv 6) pa_nil)) (pe_call G__law_due (hr.mono (by decide)) (by rfl) g__law_due kp__law_due b__law_due .nil pass0 (pa_cons (pv 3) (pa_cons (pv 4) (pa_cons (pe_ix ix_tup (pv 3) pe_int (fun _ _ => rfl)) pa_nil)))) (nomark _)))))))))))))))))))), ?_⟩
    refine seq_asg ?_
    refine ⟨_, rfl, a, ns, rfl, hS, hl, fun s l H1 hs hl1 s1 S1 => ?_⟩
    refine gname (seq_asg ?_)
    refine ⟨rfl, fun vk H2 s2 ik => ?_⟩
    have S2 := S1.keep s2
    cases id ik with
    | @lst ak xk _ gk ek iak =>
    have hkl : xk.length = 25 := by rw [iak.len, List.length_map]; rfl
    refine gname (seq_asg ?_)
    refine ⟨_, rfl, _, rfl, _, rfl, ak, xk, rfl, .inl (SqL.of ek), s, l, _, rfl, S2, by rw [hkl]; decide, by rw [hkl]; exact Nat.lt_of_lt_of_le (by decide) n9, fun r H3 r0 r1 b3 S3 => ?_⟩
    rw [hkl] at r1
    have bs : ∀ b, H1 b = Option.none → b ≠ s := fun b e z => by
      obtain ⟨o, ho⟩ := S1.at_s
      rw [z, ho] at e
      cases e
    obtain ⟨q, hq, hqr⟩ : ∃ q, q ∈ kindsL ∧ (kindsL.map kdD)[r.toNat]? = some (kdD q) := by
      have hlen : kindsL.length = 25 := rfl
      refine ⟨kindsL[r.toNat]'(by omega), List.getElem_mem _, ?_⟩
      rw [List.getElem?_map, List.getElem?_eq_getElem (by omega)]
      rfl
    obtain ⟨vq, hvq, ivq⟩ := ImAll.get iak hqr
    refine ⟨_, _, _, _, rfl, rfl, SqL.of (b3 _ _ (bs _ gk) ek), at_of (j := r.toNat) (by omega) hvq, ?_⟩
    have iv3 : Im K (fun b => b ≠ s) H3 vq (kdD q) := Im.mono (fun b o g e => b3 b o (bs b g) e) (fun b g => bs b g) _ _ ivq
    refine gname (seq_any ?_)
    have kr := kinds_r q hq
    have kw := kinds_w q hq
    have ki := kinds_i q hq
    cases id iv3 with
    | @tup aq xq _ gq eq9 iaq =>
    cases iaq with
    | cons j0 iaq =>
    cases iaq with
    | cons j1 iaq =>
    cases iaq with
    | cons j2 iaq =>
    cases iaq with
    | cons j3 iaq =>
    cases iaq
    cases j0
    cases j1
    cases j2
    cases j3
    refine ⟨_, rfl, _, _, _, _, rfl, rfl, SqT.of eq9, atI_nat (j := 1) rfl, _, rfl, fun D hD => ?_⟩
    obtain ⟨os3, hos3⟩ := S3.at_s
    obtain ⟨ol3, hol3⟩ := S3.at_l
    have sD : s ≠ D := ne_of_none hos3 hD
    have lD : l ≠ D := ne_of_none hol3 hD
    have qD : aq ≠ D := ne_of_none eq9 hD
    refine walk_gen (n := q.k.cps.size) walk_str (fun i H' => ∃ (xs : List V) (ds : List PyData), H' D = some (.lst xs) ∧ ImAll K (fun b => b ≠ s ∧ b ≠ D) H' xs ds ∧ ds.length = i ∧ (∀ (j c : Nat) (d : PyData), q.k.cps.toList[j]? = some c → ds[j]? = some d → PartOk c d) ∧ Stm H' s l ∧ H' aq = some (.tup [.str q.w, .str q.k, .str q.r, .str q.t]))
      ⟨[], [], upd_same, .nil, rfl, (fun j c d _ h => by simp at h), S3.put sD lD, by rw [upd_ne qD]; exact eq9⟩ (fun _ _ _ _ => trivial) ?_ ?_
    · rintro i z H4 H4' hi ⟨xs, ds, h1, h2, h3, h4, h5, h6⟩ ⟨rfl, c, hc, rfl⟩
      have hcl : q.k.cps.toList[i]? = some c := by rw [Array.getElem?_toList]; exact hc
      have hxl := h2.len
      have hk10 : q.k.cps.size ≤ 10 := (show ∀ q ∈ kindsL, q.k.cps.size ≤ 10 by decide +kernel) q hq
      refine gname ⟨rfl, _, rfl, _, rfl, s, l, c, rfl, h5, fun v d H6 pk b6 S6 iv => ?_⟩
      have e6 : H6 D = some (.lst xs) := b6 _ _ sD.symm h1
      have k6 : ∀ b o, (b ≠ s ∧ b ≠ D) → H6 b = some o → (upd H6 D (.lst (xs ++ [v]))) b = some o := fun b o hb e => by rw [upd_ne hb.2]; exact e
      refine ⟨xs, e6, small1000 (by omega), xs ++ [v], ds ++ [d], upd_same, ?_, by rw [List.length_append, h3]; rfl, fun j c' d' hc' hd' => ?_, S6.put sD lD, by rw [upd_ne qD]; exact b6 _ _ gq h6⟩
      · refine ImAll.snoc (Im.monoAll (fun b o g x => k6 b o g (b6 b o g.1 x)) (fun _ g => g) _ _ h2) (Im.mono (fun b o g e => k6 b o g e) (fun _ g => g) _ _ (Im.mono (G' := fun b => b ≠ s ∧ b ≠ D) (fun _ _ _ e => e) (fun b g => ?_) _ _ iv))
        obtain ⟨o5, ho5⟩ := h5.at_s
        exact ⟨(fun z => by rw [z, ho5] at g; cases g), (fun z => by rw [z, h1] at g; cases g)⟩
      · by_cases hj : j < ds.length
        · rw [List.getElem?_append_left hj] at hd'
          exact h4 j c' d' hc' hd'
        · have hjl := (List.getElem?_eq_some_iff.mp hd').1
          rw [List.length_append, List.length_singleton] at hjl
          obtain rfl : j = ds.length := by omega
          rw [List.getElem?_append_right (Nat.le_refl _), Nat.sub_self] at hd'
          cases hd'
          rw [h3, hcl] at hc'
          cases hc'
          exact pk
    · rintro H4 ⟨xs, ds, h1, h2, h3, h4, h5, h6⟩
      have ok0 : InsOk q ds := ⟨by rw [h3, Array.length_toList], h4⟩
      refine gname (nxp ?_)
      refine seq_via (fun σ H' => ∃ xs ds, σ = [some (.ref a), some (.ref s), some (.ref ak), some (.ref aq), some (.ref D), none, none, none, none, none] ∧ H' D = some (.lst xs) ∧ ImAll K (fun b => b ≠ s ∧ b ≠ D) H' xs ds ∧ InsOk q ds ∧ Stm H' s l ∧ H' aq = some (.tup [.str q.w, .str q.k, .str q.r, .str q.t])) ?_ (fun go => ?_)
      · clear h1 h2 h3 h4 h5 h6 ok0 xs ds
        rintro σ H5 ⟨xs, ds, rfl, h1, h2, ok, S5, h6⟩
        obtain ⟨lr, lt, lk⟩ := kinds_l q hq
        obtain ⟨cr, ct⟩ := kinds_due hq
        have hdl : ds.length ≤ 10 := by rw [ok.len, Array.length_toList]; exact lk
        have hxl := h2.len
        have okr := due_ok ok fun c hc => (cr c hc).2
        have okt := due_ok ok fun c hc => (ct c hc).2
        refine seq_asg ?_
        refine ⟨_, rfl, _, _, _, _, rfl, rfl, SqT.of h6, atI_nat (j := 0) rfl, (by show 1 ≤ sizeLine; decide), fun p1 np1 => ?_⟩
        have t1 := same_upd (o := .tup [.str q.w]) np1
        refine ⟨_, rfl, D, xs, rfl, .inl ⟨SqL.of (t1 _ _ h1), fun p2 np2 => ?_⟩⟩
        have t2 := t1.trans (same_upd (o := .tup xs) np2)
        have iv1 : Im K (fun _ => True) (upd (upd H5 p1 (.tup [.str q.w])) p2 (.tup xs)) (.ref p1) (.tuple [.str q.w]) := .tup trivial (same_upd np2 _ _ upd_same) (.cons (.str _) .nil)
        have iv2 : Im K (fun _ => True) (upd (upd H5 p1 (.tup [.str q.w])) p2 (.tup xs)) (.ref p2) (.tuple ds) := .tup trivial upd_same (Im.monoAll (fun b o _ e => t2 b o e) (fun _ _ => trivial) _ _ h2)
        refine im_cat iv1 iv2 (by rw [List.length_singleton]; omega) fun vi H7 s7 ii => ?_
        have ii7 : Im K (fun b => ∃ o, H7 b = some o) H7 vi (.tuple (.str q.w :: ds)) := Im.mono2 (fun _ _ _ e => e) (fun b o e _ => ⟨o, e⟩) _ _ ii
        have t27 := t2.trans s7
        have ip7 : Im K (fun b => ∃ o, H7 b = some o) H7 (.ref D) (.list ds) := .lst ⟨_, t27 _ _ h1⟩ (t27 _ _ h1) (Im.mono2All (fun _ _ _ e => e) (fun b o e _ => ⟨o, e⟩) _ _ (Im.monoAll (G' := fun _ => True) (fun b o _ e => t27 b o e) (fun _ _ => trivial) _ _ h2))
        have iq7 : Im K (fun b => ∃ o, H7 b = some o) H7 (.ref aq) (kdD q) := .tup ⟨_, t27 _ _ h6⟩ (t27 _ _ h6) (.cons (.str _) (.cons (.str _) (.cons (.str _) (.cons (.str _) .nil))))
        clear ii iv1 iv2 h1 h2 S5 t2 t1 t27
        refine gname (seq_asg ?_)
        refine ⟨_, rfl, vi, q, ds, rfl, Im.mono (fun _ _ _ e => e) (fun _ _ => trivial) _ _ ii7, hq, ok, fun f1 xs1 H8 s8 n8 e8 d8 => ?_⟩
        refine gname (seq_asg ?_)
        refine ⟨_, rfl, vi, q, ds, rfl, Im.mono (fun b o _ e => s8 b o e) (fun _ _ => trivial) _ _ ii7, hq, ok, fun f2 xs2 H9 s9 n9' e9 d9 => ?_⟩
        have l8 : Dp K H9 (.ref f1) (.list ((dueL q.k ds q.r.cps.toList).map locD)) := .lst (SqL.of (s9 _ _ e8)) (dp_sameAll s9 _ _ d8)
        have l9 : Dp K H9 (.ref f2) (.list ((dueL q.k ds q.t.cps.toList).map locD)) := .lst (SqL.of e9) d9
        refine gname (seq_ifN ?_)
        refine ⟨_, rfl, _, _, _, _, _, rfl, .ty _, tyx_of l8, kit_ty (kitL _), _, rfl, iteF ?_⟩
        refine ⟨_, rfl, _, _, _, _, _, rfl, .ty _, tyx_of l9, kit_ty (kitL _), _, rfl, iteF ?_⟩
        have s79 := s8.trans s9
        have atK : ∀ {H' : Hp}, (∀ b o, (∃ o, H7 b = some o) → H7 b = some o → H' b = some o) → Dp K H' (.ref aq) (kdD q) ∧ Dp K H' (.ref D) (.list ds) ∧ Im K (fun _ => True) H' vi (.tuple (.str q.w :: ds)) ∧ H' aq = some (.tup [.str q.w, .str q.k, .str q.r, .str q.t]) := fun {H'} k => by
          refine ⟨Im.dp _ _ (Im.mono k (fun _ g => g) _ _ iq7), Im.dp _ _ (Im.mono k (fun _ g => g) _ _ ip7), Im.mono k (fun _ _ => trivial) _ _ ii7, ?_⟩
          cases iq7 with
          | tup g e _ =>
          rename_i xs9 ia9
          cases ia9 with
          | cons j0 r =>
          cases r with
          | cons j1 r =>
          cases r with
          | cons j2 r =>
          cases r with
          | cons j3 r =>
          cases r
          cases j0
          cases j1
          cases j2
          cases j3
          exact k _ _ g e
        refine seq_asg ?_
        obtain ⟨k9, m9, _, a9⟩ := atK (H' := H9) fun b o _ e => s79 b o e
        refine ⟨_, rfl, _, rfl, _, rfl, _, _, _, _, rfl, rfl, SqT.of a9, atI_nat (j := 2) rfl, .ref aq, .ref D, q, ds, q.r, rfl, k9, m9, ok, lr, cr, fun f3 xs3 HA sA nA eA dA => ?_⟩
        refine gname (seq_ifN ?_)
        have lA : Dp K HA (.ref f3) (.list ((dueL q.k ds q.r.cps.toList).map locD)) := .lst (SqL.of eA) dA
        refine ⟨_, rfl, _, rfl, _, _, dp_same sA _ _ l8, lA, locs_shaped okr, locs_shaped okr, _, rfl, ?_⟩
        rw [locs_eqv okr]
        refine iteF ?_
        have s7A := s79.trans sA
        obtain ⟨kA, mA, _, aA⟩ := atK (H' := HA) fun b o _ e => s7A b o e
        refine ⟨_, rfl, _, rfl, _, rfl, _, rfl, _, _, _, _, rfl, rfl, SqT.of aA, atI_nat (j := 3) rfl, .ref aq, .ref D, q, ds, q.t, rfl, kA, mA, ok, lt, ct, fun f4 xs4 HB sB nB eB dB => ?_⟩
        have lB : Dp K HB (.ref f4) (.list ((dueL q.k ds q.t.cps.toList).map locD)) := .lst (SqL.of eB) dB
        refine ⟨_, _, dp_same (sA.trans sB) _ _ l9, lB, locs_shaped okt, locs_shaped okt, _, rfl, ?_⟩
        rw [locs_eqv okt]
        refine iteF ?_
        refine seq_ifN ?_
        have d400 : Dp K HB (.int 400) (.int 400) := .int _
        refine ⟨_, _, _, _, _, rfl, .ty _, tyx_of d400, kit_ty (kitBo _), _, rfl, iteF ?_⟩
        refine ⟨rfl, _, rfl, ?_⟩
        rw [decide_eq_true rfl]
        refine iteF ?_
        have s7B := s7A.trans sB
        have e1B := sB _ _ (sA _ _ (s9 _ _ e8))
        have e2B := sB _ _ (sA _ _ e9)
        have e3B := sB _ _ eA
        have d3B := dp_sameAll sB _ _ dA
        have n12 : f1 ≠ f2 := ne_of_none e8 n9'
        have n13 : f1 ≠ f3 := ne_of_none (s9 _ _ e8) nA
        have n23 : f2 ≠ f3 := ne_of_none e9 nA
        have lx1 : xs1.length ≤ 900 := by
          have h1 := DpAll.len d8
          rw [List.length_map] at h1
          have h2 := dueL_len' ok (fun c hc => (cr c hc).2)
          omega
        have lx2 : xs2.length ≤ 900 := by
          have h1 := DpAll.len d9
          rw [List.length_map] at h1
          have h2 := dueL_len' ok (fun c hc => (ct c hc).2)
          omega
        refine seq_any ?_
        refine ⟨_, rfl, .inl ⟨rfl, _, SqL.of e1B⟩, _, _, _, rfl, rfl, e1B, small1000 (by omega), ?_⟩
        refine nxp (seq_any ?_)
        refine ⟨_, rfl, .inl ⟨rfl, _, SqL.of (by rw [upd_ne n12.symm]; exact e2B)⟩, _, _, _, rfl, rfl, by rw [upd_ne n12.symm]; exact e2B, small1000 (by omega), ?_⟩
        refine nxp ?_
        have nt1 : notTup HB f1 := .inl ⟨_, e1B⟩
        have nt2 : notTup (upd HB f1 (.lst (xs1 ++ [.int 0]))) f2 := .inl ⟨_, by rw [upd_ne n12.symm]; exact e2B⟩
        have keep : ∀ b o, (∃ o, H7 b = some o) → H7 b = some o → (upd (upd HB f1 (.lst (xs1 ++ [.int 0]))) f2 (.lst (xs2 ++ [.int 0]))) b = some o := fun b o _ e => by
          rw [upd_ne (fun z => by rw [z] at e; rw [s8 _ _ e] at n9'; cases n9'), upd_ne (fun z => by rw [z, n8] at e; cases e)]
          exact s7B _ _ e
        have lD9 : Dp K (upd (upd HB f1 (.lst (xs1 ++ [.int 0]))) f2 (.lst (xs2 ++ [.int 0]))) (.ref f3) (.list ((dueL q.k ds q.r.cps.toList).map locD)) := .lst (SqL.of (by rw [upd_ne n23.symm, upd_ne n13.symm]; exact e3B)) (dp_putAll nt2 _ _ (locs_noL _) (dp_putAll nt1 _ _ (locs_noL _) d3B))
        obtain ⟨kD, mD, iD, aD⟩ := atK keep
        clear atK
        generalize upd (upd HB f1 (.lst (xs1 ++ [.int 0]))) f2 (.lst (xs2 ++ [.int 0])) = HD at kD mD iD aD lD9 ⊢
        refine ⟨_, rfl, vi, q, ds, rfl, iD, hq, ok, fun f5 xs5 HE sE nE eE dE => ?_⟩
        refine ⟨_, rfl, _, _, .lst (SqL.of eE) dE, dp_same sE _ _ lD9, locs_shaped okr, locs_shaped okr, _, rfl, ?_⟩
        rw [locs_eqv okr]
        refine iteT ?_
        refine ⟨_, rfl, vi, q, ds, rfl, Im.mono (fun b o _ e => sE b o e) (fun _ g => g) _ _ iD, hq, ok, fun f6 xs6 HF sF nF eF dF => ?_⟩
        have sEF := sE.trans sF
        refine ⟨_, rfl, _, rfl, _, rfl, _, _, _, _, rfl, rfl, SqT.of (sEF _ _ aD), atI_nat (j := 3) rfl, .ref aq, .ref D, q, ds, q.t, rfl, dp_same sEF _ _ kD, dp_same sEF _ _ mD, ok, lt, ct, fun f7 xs7 HG sG nG eG dG => ?_⟩
        refine ⟨_, _, dp_same sG _ _ (.lst (SqL.of eF) dF), .lst (SqL.of eG) dG, locs_shaped okt, locs_shaped okt, ?_⟩
        rw [locs_eqv okt]
        exact q0 _
      · refine ⟨_, rfl, _, _, _, _, rfl, rfl, SqT.of h6, atI_nat (j := 1) rfl, rfl, _, rfl, ite2 (fun e => ?_) (fun e => ?_)⟩
        · have hk : q.k = Str.ofString "La" := V.str.inj (of_decide_eq_true e)
          refine ⟨_, rfl, s, l, 3, rfl, h5, by decide, Nat.lt_of_lt_of_le (by decide) n9, fun y H5 y0 y1 b5 S5 => ⟨rfl, _, rfl, ite2 (fun e1 => ?_) (fun e1 => ?_)⟩⟩
          · have hkl2 : q.k.cps.toList = [76, 97] := by rw [hk]; decide +kernel
            have hdl : ds.length = 2 := by rw [ok0.len, hkl2]; rfl
            obtain ⟨e0, e9, rfl⟩ : ∃ e0 e1, ds = [e0, e1] := by
              match ds, hdl with
              | [x, y], _ => exact ⟨x, y, rfl⟩
            have p1 := ok0.part 1 97 e9 (by rw [hkl2]; rfl) rfl
            obtain ⟨m, rfl⟩ := p1.num rfl
            cases h2 with
            | @cons x0 _ _ _ i0 h2 =>
            cases h2 with
            | cons i1 h2 =>
            cases h2
            cases i1
            have hD5 := b5 _ _ sD.symm h1
            have hq5 := b5 _ _ gq h6
            refine ⟨_, rfl, _, _, _, _, rfl, rfl, SqL.of hD5, atI_nat (j := 1) rfl, (by show 2 ≤ sizeLine; decide), fun p np => ?_⟩
            have sp := same_upd (o := .tup [.str "x", .int (m : Int)]) np
            have pD : p ≠ D := fun z => by rw [z, hD5] at np; cases np
            obtain ⟨os5, hos5⟩ := S5.at_s
            have ps : p ≠ s := fun z => by rw [z, hos5] at np; cases np
            refine ⟨_, rfl, D, _, 0, 0, rfl, rfl, sp _ _ hD5, rfl, ?_⟩
            refine go _ _ ⟨[.ref p, .int (m : Int)], [locD ("x", (m : Int)), .int (m : Int)], rfl, upd_same, .cons (.tup ⟨ps, pD⟩ (by rw [upd_ne pD]; exact upd_same) (.cons (.str _) (.cons (.int _) .nil))) (.cons (.int _) .nil), ⟨by rw [hkl2]; rfl, fun j c d hc hd => ?_⟩, (S5.keep sp).put sD lD, by rw [upd_ne qD]; exact sp _ _ hq5⟩
            rw [hkl2] at hc
            match j, hc, hd with
            | 0, hc, hd =>
              cases hc
              cases hd
              exact ⟨fun _ => ⟨_, (show PyData.strOk "x" = true by decide +kernel), rfl⟩, fun z => by omega, fun z => by omega⟩
            | 1, hc, hd =>
              cases hc
              cases hd
              exact p1
          · exact go _ _ ⟨xs, ds, rfl, b5 _ _ sD.symm h1, Im.monoAll (fun b o g e => b5 b o g.1 e) (fun _ g => g) _ _ h2, ok0, S5, b5 _ _ gq h6⟩
        · exact iteF (go _ _ ⟨xs, ds, rfl, h1, h2, ok0, h5, h6⟩)

end
/-! ### the end -/
theorem all_mk {l : PySem.W.OpenLaw} {w : World} {K : PySem.W.Frag} {h : Heap} {mg : Str → Option Value} {fa f1 f2 f3 f4 f5 f6 f7 f8 f9 f10 f11 : Addr} (X : K.In h) (G : h.Ns mainGlobals mg) (hfa : mg "law" = some (.ref fa))
    {od1 an1 od2 an2 od3 an3 od4 an4 od5 an5 od6 an6 od7 an7 od8 an8 od9 an9 od10 an10 od11 an11 : Option Addr} {sl1 sl2 sl3 sl4 sl5 sl6 sl7 sl8 sl9 sl10 sl11 : Array (Option Value)} {oc1 kV1 dc1 pm1 cd1 ct1 oc2 kV2 dc2 pm2 cd2 ct2 oc3 kV3 dc3 pm3 cd3 ct3 oc4 kV4 dc4 pm4 cd4 ct4 oc5 kV5 dc5 pm5 cd5 ct5 oc6 kV6 dc6 pm6 cd6 ct6 oc7 kV7 dc7 pm7 cd7 ct7 oc8 kV8 dc8 pm8 cd8 ct8 oc9 kV9 dc9 pm9 cd9 ct9 oc10 kV10 dc10 pm10 cd10 ct10 oc11 kV11 dc11 pm11 cd11 ct11 : Value} {tk0 : Tok}

    (a1 : PySem.W.nsIn K mainGlobals "locations" = some (some (.ref f1))) (l1 : K.lookup f1 = some ⟨oc1, od1, .func (PySem.W.fnOf "locations" "locations" (defArgs s_locations) (defBody s_locations) (defScope s_locations) .none kV1 dc1 pm1 an1 cd1 ct1), sl1⟩) (c1 : PySem.W.codeIn K cd1 "locations" = true) (k1 : PySem.W.keepIn K (.ref f1) = true)
    (a2 : PySem.W.nsIn K mainGlobals "reads" = some (some (.ref f2))) (l2 : K.lookup f2 = some ⟨oc2, od2, .func (PySem.W.fnOf "reads" "reads" (defArgs s_reads) (defBody s_reads) (defScope s_reads) .none kV2 dc2 pm2 an2 cd2 ct2), sl2⟩) (c2 : PySem.W.codeIn K cd2 "reads" = true) (k2 : PySem.W.keepIn K (.ref f2) = true)
    (a3 : PySem.W.nsIn K mainGlobals "writes" = some (some (.ref f3))) (l3 : K.lookup f3 = some ⟨oc3, od3, .func (PySem.W.fnOf "writes" "writes" (defArgs s_writes) (defBody s_writes) (defScope s_writes) .none kV3 dc3 pm3 an3 cd3 ct3), sl3⟩) (c3 : PySem.W.codeIn K cd3 "writes" = true) (k3 : PySem.W.keepIn K (.ref f3) = true)
    (a4 : PySem.W.nsIn K mainGlobals "_law_stream" = some (some (.ref f4))) (l4 : K.lookup f4 = some ⟨oc4, od4, .func (PySem.W.fnOf "_law_stream" "_law_stream" (defArgs s__law_stream) (defBody s__law_stream) (defScope s__law_stream) .none kV4 dc4 pm4 an4 cd4 ct4), sl4⟩) (c4 : PySem.W.codeIn K cd4 "_law_stream" = true) (k4 : PySem.W.keepIn K (.ref f4) = true)
    (a5 : PySem.W.nsIn K mainGlobals "_law_draw" = some (some (.ref f5))) (l5 : K.lookup f5 = some ⟨oc5, od5, .func (PySem.W.fnOf "_law_draw" "_law_draw" (defArgs s__law_draw) (defBody s__law_draw) (defScope s__law_draw) .none kV5 dc5 pm5 an5 cd5 ct5), sl5⟩) (c5 : PySem.W.codeIn K cd5 "_law_draw" = true) (k5 : PySem.W.keepIn K (.ref f5) = true)
    (a6 : PySem.W.nsIn K mainGlobals "_law_location" = some (some (.ref f6))) (l6 : K.lookup f6 = some ⟨oc6, od6, .func (PySem.W.fnOf "_law_location" "_law_location" (defArgs s__law_location) (defBody s__law_location) (defScope s__law_location) .none kV6 dc6 pm6 an6 cd6 ct6), sl6⟩) (c6 : PySem.W.codeIn K cd6 "_law_location" = true) (k6 : PySem.W.keepIn K (.ref f6) = true)
    (a7 : PySem.W.nsIn K mainGlobals "_law_constant" = some (some (.ref f7))) (l7 : K.lookup f7 = some ⟨oc7, od7, .func (PySem.W.fnOf "_law_constant" "_law_constant" (defArgs s__law_constant) (defBody s__law_constant) (defScope s__law_constant) .none kV7 dc7 pm7 an7 cd7 ct7), sl7⟩) (c7 : PySem.W.codeIn K cd7 "_law_constant" = true) (k7 : PySem.W.keepIn K (.ref f7) = true)
    (a8 : PySem.W.nsIn K mainGlobals "_law_part" = some (some (.ref f8))) (l8 : K.lookup f8 = some ⟨oc8, od8, .func (PySem.W.fnOf "_law_part" "_law_part" (defArgs s__law_part) (defBody s__law_part) (defScope s__law_part) .none kV8 dc8 pm8 an8 cd8 ct8), sl8⟩) (c8 : PySem.W.codeIn K cd8 "_law_part" = true) (k8 : PySem.W.keepIn K (.ref f8) = true)
    (a9 : PySem.W.nsIn K mainGlobals "_law_kinds" = some (some (.ref f9))) (l9 : K.lookup f9 = some ⟨oc9, od9, .func (PySem.W.fnOf "_law_kinds" "_law_kinds" (defArgs s__law_kinds) (defBody s__law_kinds) (defScope s__law_kinds) .none kV9 dc9 pm9 an9 cd9 ct9), sl9⟩) (c9 : PySem.W.codeIn K cd9 "_law_kinds" = true) (k9 : PySem.W.keepIn K (.ref f9) = true)
    (a10 : PySem.W.nsIn K mainGlobals "_law_due" = some (some (.ref f10))) (l10 : K.lookup f10 = some ⟨oc10, od10, .func (PySem.W.fnOf "_law_due" "_law_due" (defArgs s__law_due) (defBody s__law_due) (defScope s__law_due) .none kV10 dc10 pm10 an10 cd10 ct10), sl10⟩) (c10 : PySem.W.codeIn K cd10 "_law_due" = true) (k10 : PySem.W.keepIn K (.ref f10) = true)
    (a11 : PySem.W.nsIn K mainGlobals "law" = some (some (.ref f11))) (l11 : K.lookup f11 = some ⟨oc11, od11, .func (PySem.W.fnOf "law" "law" (defArgs s_law) (defBody s_law) (defScope s_law) .none kV11 dc11 pm11 an11 cd11 ct11), sl11⟩) (c11 : PySem.W.codeIn K cd11 "law" = true) (k11 : PySem.W.keepIn K (.ref f11) = true)
    (z0 : PySem.W.nsIn K mainGlobals "abs" = some none)
    (z1 : PySem.W.nsIn K mainGlobals "bool" = some none)
    (z2 : PySem.W.nsIn K mainGlobals "int" = some none)
    (z3 : PySem.W.nsIn K mainGlobals "isinstance" = some none)
    (z4 : PySem.W.nsIn K mainGlobals "len" = some none)
    (z5 : PySem.W.nsIn K mainGlobals "list" = some none)
    (z6 : PySem.W.nsIn K mainGlobals "range" = some none)
    (z7 : PySem.W.nsIn K mainGlobals "tuple" = some none)
    (y0 : PySem.W.nsIn K mainGlobals "MOST_REGISTERS" = some (some (.int 400 tk0)))
    {dd1 : Addr} {de1 : Array DictEntry} {dn1 : Nat}
    {kt2 : Tok} {ka1 : Addr} {kd1 : Option Addr} {kn1 : Nat} {ks1 : Array (Option Value)}
    {kt4 : Tok} {kt5 : Tok} {ka3 : Addr} {kd3 : Option Addr} {kn3 : Nat} {ks3 : Array (Option Value)}
    {kt7 : Tok} {ka6 : Addr} {kd6 : Option Addr} {kn6 : Nat} {ks6 : Array (Option Value)}
    {kt9 : Tok} {ka8 : Addr} {kd8 : Option Addr} {kn8 : Nat} {ks8 : Array (Option Value)}
    {kt11 : Tok} {ka10 : Addr} {kd10 : Option Addr} {kn10 : Nat} {ks10 : Array (Option Value)}
    {kt13 : Tok} {ka12 : Addr} {kd12 : Option Addr} {kn12 : Nat} {ks12 : Array (Option Value)}
    {kt15 : Tok} {ka14 : Addr} {kd14 : Option Addr} {kn14 : Nat} {ks14 : Array (Option Value)}
    {kt17 : Tok} {ka16 : Addr} {kd16 : Option Addr} {kn16 : Nat} {ks16 : Array (Option Value)}
    (y1 : PySem.W.nsIn K mainGlobals "READS" = some (some (.ref dd1)))
    (xd1 : K.lookup dd1 = some { cls := .type "dict", data := .dict de1 dn1 })
    (ll1 : PySem.W.KeysLit w.params de1.toList)
    (lo1 : (dd1 == sysModules) = false)
    (q1_0 : PySem.W.nsIn K dd1 "get_variable" = some (some (.ref ka1)))
    (kh1 : K.lookup ka1 = some ⟨.type "tuple", kd1, .seq #[.int 2 kt2] kn1, ks1⟩)
    (q1_1 : PySem.W.nsIn K dd1 "get_value" = some (some (.ref ka3)))
    (kh3 : K.lookup ka3 = some ⟨.type "tuple", kd3, .seq #[.int 1 kt4, .int 2 kt5] kn3, ks3⟩)
    (q1_2 : PySem.W.nsIn K dd1 "get_constant" = some (some (.ref ka6)))
    (kh6 : K.lookup ka6 = some ⟨.type "tuple", kd6, .seq #[.int 2 kt7] kn6, ks6⟩)
    (q1_3 : PySem.W.nsIn K dd1 "get_structure" = some (some (.ref ka8)))
    (kh8 : K.lookup ka8 = some ⟨.type "tuple", kd8, .seq #[.int 3 kt9] kn8, ks8⟩)
    (q1_4 : PySem.W.nsIn K dd1 "unify_value" = some (some (.ref ka10)))
    (kh10 : K.lookup ka10 = some ⟨.type "tuple", kd10, .seq #[.int 1 kt11] kn10, ks10⟩)
    (q1_5 : PySem.W.nsIn K dd1 "put_value" = some (some (.ref ka12)))
    (kh12 : K.lookup ka12 = some ⟨.type "tuple", kd12, .seq #[.int 1 kt13] kn12, ks12⟩)
    (q1_6 : PySem.W.nsIn K dd1 "set_value" = some (some (.ref ka14)))
    (kh14 : K.lookup ka14 = some ⟨.type "tuple", kd14, .seq #[.int 1 kt15] kn14, ks14⟩)
    (q1_7 : PySem.W.nsIn K dd1 "commit" = some (some (.ref ka16)))
    (kh16 : K.lookup ka16 = some ⟨.type "tuple", kd16, .seq #[.int 1 kt17] kn16, ks16⟩)
    (o1_0 : PySem.W.nsIn K dd1 "unify_variable" = some Option.none)
    (o1_1 : PySem.W.nsIn K dd1 "unify_constant" = some Option.none)
    (o1_2 : PySem.W.nsIn K dd1 "put_variable" = some Option.none)
    (o1_3 : PySem.W.nsIn K dd1 "put_constant" = some Option.none)
    (o1_4 : PySem.W.nsIn K dd1 "put_structure" = some Option.none)
    (o1_5 : PySem.W.nsIn K dd1 "set_variable" = some Option.none)
    (o1_6 : PySem.W.nsIn K dd1 "set_constant" = some Option.none)
    (o1_7 : PySem.W.nsIn K dd1 "allocate" = some Option.none)
    (o1_8 : PySem.W.nsIn K dd1 "deallocate" = some Option.none)
    (o1_9 : PySem.W.nsIn K dd1 "proceed" = some Option.none)
    (o1_10 : PySem.W.nsIn K dd1 "mark" = some Option.none)
    (o1_11 : PySem.W.nsIn K dd1 "cut" = some Option.none)
    (o1_12 : PySem.W.nsIn K dd1 "try_else" = some Option.none)
    (o1_13 : PySem.W.nsIn K dd1 "jump" = some Option.none)
    (o1_14 : PySem.W.nsIn K dd1 "fail" = some Option.none)
    {dd2 : Addr} {de2 : Array DictEntry} {dn2 : Nat}
    {kt19 : Tok} {ka18 : Addr} {kd18 : Option Addr} {kn18 : Nat} {ks18 : Array (Option Value)}
    {kt21 : Tok} {ka20 : Addr} {kd20 : Option Addr} {kn20 : Nat} {ks20 : Array (Option Value)}
    {kt23 : Tok} {kt24 : Tok} {ka22 : Addr} {kd22 : Option Addr} {kn22 : Nat} {ks22 : Array (Option Value)}
    {kt26 : Tok} {ka25 : Addr} {kd25 : Option Addr} {kn25 : Nat} {ks25 : Array (Option Value)}
    {kt28 : Tok} {ka27 : Addr} {kd27 : Option Addr} {kn27 : Nat} {ks27 : Array (Option Value)}
    {kt30 : Tok} {ka29 : Addr} {kd29 : Option Addr} {kn29 : Nat} {ks29 : Array (Option Value)}
    {kt32 : Tok} {ka31 : Addr} {kd31 : Option Addr} {kn31 : Nat} {ks31 : Array (Option Value)}
    {kt34 : Tok} {ka33 : Addr} {kd33 : Option Addr} {kn33 : Nat} {ks33 : Array (Option Value)}
    (y2 : PySem.W.nsIn K mainGlobals "WRITES" = some (some (.ref dd2)))
    (xd2 : K.lookup dd2 = some { cls := .type "dict", data := .dict de2 dn2 })
    (ll2 : PySem.W.KeysLit w.params de2.toList)
    (lo2 : (dd2 == sysModules) = false)
    (q2_0 : PySem.W.nsIn K dd2 "get_variable" = some (some (.ref ka18)))
    (kh18 : K.lookup ka18 = some ⟨.type "tuple", kd18, .seq #[.int 1 kt19] kn18, ks18⟩)
    (q2_1 : PySem.W.nsIn K dd2 "unify_variable" = some (some (.ref ka20)))
    (kh20 : K.lookup ka20 = some ⟨.type "tuple", kd20, .seq #[.int 1 kt21] kn20, ks20⟩)
    (q2_2 : PySem.W.nsIn K dd2 "put_variable" = some (some (.ref ka22)))
    (kh22 : K.lookup ka22 = some ⟨.type "tuple", kd22, .seq #[.int 1 kt23, .int 2 kt24] kn22, ks22⟩)
    (q2_3 : PySem.W.nsIn K dd2 "put_value" = some (some (.ref ka25)))
    (kh25 : K.lookup ka25 = some ⟨.type "tuple", kd25, .seq #[.int 2 kt26] kn25, ks25⟩)
    (q2_4 : PySem.W.nsIn K dd2 "put_constant" = some (some (.ref ka27)))
    (kh27 : K.lookup ka27 = some ⟨.type "tuple", kd27, .seq #[.int 2 kt28] kn27, ks27⟩)
    (q2_5 : PySem.W.nsIn K dd2 "put_structure" = some (some (.ref ka29)))
    (kh29 : K.lookup ka29 = some ⟨.type "tuple", kd29, .seq #[.int 3 kt30] kn29, ks29⟩)
    (q2_6 : PySem.W.nsIn K dd2 "set_variable" = some (some (.ref ka31)))
    (kh31 : K.lookup ka31 = some ⟨.type "tuple", kd31, .seq #[.int 1 kt32] kn31, ks31⟩)
    (q2_7 : PySem.W.nsIn K dd2 "mark" = some (some (.ref ka33)))
    (kh33 : K.lookup ka33 = some ⟨.type "tuple", kd33, .seq #[.int 1 kt34] kn33, ks33⟩)
    (o2_0 : PySem.W.nsIn K dd2 "get_value" = some Option.none)
    (o2_1 : PySem.W.nsIn K dd2 "get_constant" = some Option.none)
    (o2_2 : PySem.W.nsIn K dd2 "get_structure" = some Option.none)
    (o2_3 : PySem.W.nsIn K dd2 "unify_value" = some Option.none)
    (o2_4 : PySem.W.nsIn K dd2 "unify_constant" = some Option.none)
    (o2_5 : PySem.W.nsIn K dd2 "set_value" = some Option.none)
    (o2_6 : PySem.W.nsIn K dd2 "set_constant" = some Option.none)
    (o2_7 : PySem.W.nsIn K dd2 "allocate" = some Option.none)
    (o2_8 : PySem.W.nsIn K dd2 "deallocate" = some Option.none)
    (o2_9 : PySem.W.nsIn K dd2 "call" = some Option.none)
    (o2_10 : PySem.W.nsIn K dd2 "execute" = some Option.none)
    (o2_11 : PySem.W.nsIn K dd2 "proceed" = some Option.none)
    (o2_12 : PySem.W.nsIn K dd2 "commit" = some Option.none)
    (o2_13 : PySem.W.nsIn K dd2 "cut" = some Option.none)
    (o2_14 : PySem.W.nsIn K dd2 "try_else" = some Option.none)
    (o2_15 : PySem.W.nsIn K dd2 "jump" = some Option.none)
    (o2_16 : PySem.W.nsIn K dd2 "fail" = some Option.none)
    {kt36 : Tok} {kt37 : Tok} {ka35 : Addr} {kd35 : Option Addr} {kn35 : Nat} {ks35 : Array (Option Value)}
    (y3 : PySem.W.nsIn K mainGlobals "CALLS" = some (some (.ref ka35)))
    (kh35 : K.lookup ka35 = some ⟨.type "tuple", kd35, .seq #[.str "call" kt36, .str "execute" kt37] kn35, ks35⟩)
    : ∃ fd : FuncData, (∀ (s : Shared) (v : Value), BindsTo s fd ⟨[v], []⟩ [("script", v)]) ∧ ∀ base : Heap, K.In base → base.Ns mainGlobals mg → FnOk l.prog w K mg base CX0 4 fa fd ["script"] (sp_law K) := by
  have e := hfa.symm.trans (PySem.W.mg_of X G a11)
  cases e
  have F1 := fun_mk (st := s_locations) l1 c1 k1
  have b1 := F1.binds (ps := ["instruction", "places"]) fun _ _ _ _ _ _ us hl => match us, hl with | [_, _], _ => rfl
  have F2 := fun_mk (st := s_reads) l2 c2 k2
  have b2 := F2.binds (ps := ["instruction"]) fun _ _ _ _ _ _ us hl => match us, hl with | [_], _ => rfl
  have F3 := fun_mk (st := s_writes) l3 c3 k3
  have b3 := F3.binds (ps := ["instruction"]) fun _ _ _ _ _ _ us hl => match us, hl with | [_], _ => rfl
  have F4 := fun_mk (st := s__law_stream) l4 c4 k4
  have b4 := F4.binds (ps := ["script"]) fun _ _ _ _ _ _ us hl => match us, hl with | [_], _ => rfl
  have F5 := fun_mk (st := s__law_draw) l5 c5 k5
  have b5 := F5.binds (ps := ["stream", "many"]) fun _ _ _ _ _ _ us hl => match us, hl with | [_, _], _ => rfl
  have F6 := fun_mk (st := s__law_location) l6 c6 k6
  have b6 := F6.binds (ps := ["stream"]) fun _ _ _ _ _ _ us hl => match us, hl with | [_], _ => rfl
  have F7 := fun_mk (st := s__law_constant) l7 c7 k7
  have b7 := F7.binds (ps := ["stream"]) fun _ _ _ _ _ _ us hl => match us, hl with | [_], _ => rfl
  have F8 := fun_mk (st := s__law_part) l8 c8 k8
  have b8 := F8.binds (ps := ["stream", "kind"]) fun _ _ _ _ _ _ us hl => match us, hl with | [_, _], _ => rfl
  have F9 := fun_mk (st := s__law_kinds) l9 c9 k9
  have b9 := F9.binds (ps := []) fun _ _ _ _ _ _ us hl => match us, hl with | [], _ => rfl
  have F10 := fun_mk (st := s__law_due) l10 c10 k10
  have b10 := F10.binds (ps := ["kind", "parts", "wanted"]) fun _ _ _ _ _ _ us hl => match us, hl with | [_, _, _], _ => rfl
  have F11 := fun_mk (st := s_law) l11 c11 k11
  have E : Bi w K mg := ⟨PySem.W.mg_none_of X G z0, PySem.W.mg_none_of X G z1, PySem.W.mg_none_of X G z2, PySem.W.mg_none_of X G z3, PySem.W.mg_none_of X G z4, PySem.W.mg_none_of X G z5, PySem.W.mg_none_of X G z6, PySem.W.mg_none_of X G z7, ⟨_, PySem.W.mg_of X G y0, ⟨_, rfl⟩⟩, ⟨_, _, _, PySem.W.mg_of X G y1, ⟨xd1, ll1, lo1⟩, (List.forall_mem_cons.mpr ⟨⟨_, _, q1_0, (relRef _), (kt_of kh1 (by show 1 ≤ 1000; decide) (.cons (relInt _ _) .nil) (.cons (.int _) .nil))⟩, (List.forall_mem_cons.mpr ⟨⟨_, _, q1_1, (relRef _), (kt_of kh3 (by show 2 ≤ 1000; decide) (.cons (relInt _ _) (.cons (relInt _ _) .nil)) (.cons (.int _) (.cons (.int _) .nil)))⟩, (List.forall_mem_cons.mpr ⟨⟨_, _, q1_2, (relRef _), (kt_of kh6 (by show 1 ≤ 1000; decide) (.cons (relInt _ _) .nil) (.cons (.int _) .nil))⟩, (List.forall_mem_cons.mpr ⟨⟨_, _, q1_3, (relRef _), (kt_of kh8 (by show 1 ≤ 1000; decide) (.cons (relInt _ _) .nil) (.cons (.int _) .nil))⟩, (List.forall_mem_cons.mpr ⟨⟨_, _, q1_4, (relRef _), (kt_of kh10 (by show 1 ≤ 1000; decide) (.cons (relInt _ _) .nil) (.cons (.int _) .nil))⟩, (List.forall_mem_cons.mpr ⟨⟨_, _, q1_5, (relRef _), (kt_of kh12 (by show 1 ≤ 1000; decide) (.cons (relInt _ _) .nil) (.cons (.int _) .nil))⟩, (List.forall_mem_cons.mpr ⟨⟨_, _, q1_6, (relRef _), (kt_of kh14 (by show 1 ≤ 1000; decide) (.cons (relInt _ _) .nil) (.cons (.int _) .nil))⟩, (List.forall_mem_cons.mpr ⟨⟨_, _, q1_7, (relRef _), (kt_of kh16 (by show 1 ≤ 1000; decide) (.cons (relInt _ _) .nil) (.cons (.int _) .nil))⟩, (fun _ h => nomatch h)⟩)⟩)⟩)⟩)⟩)⟩)⟩)⟩), (List.forall_mem_cons.mpr ⟨o1_0, (List.forall_mem_cons.mpr ⟨o1_1, (List.forall_mem_cons.mpr ⟨o1_2, (List.forall_mem_cons.mpr ⟨o1_3, (List.forall_mem_cons.mpr ⟨o1_4, (List.forall_mem_cons.mpr ⟨o1_5, (List.forall_mem_cons.mpr ⟨o1_6, (List.forall_mem_cons.mpr ⟨o1_7, (List.forall_mem_cons.mpr ⟨o1_8, (List.forall_mem_cons.mpr ⟨o1_9, (List.forall_mem_cons.mpr ⟨o1_10, (List.forall_mem_cons.mpr ⟨o1_11, (List.forall_mem_cons.mpr ⟨o1_12, (List.forall_mem_cons.mpr ⟨o1_13, (List.forall_mem_cons.mpr ⟨o1_14, (fun _ h => nomatch h)⟩)⟩)⟩)⟩)⟩)⟩)⟩)⟩)⟩)⟩)⟩)⟩)⟩)⟩)⟩)⟩, ⟨_, _, _, PySem.W.mg_of X G y2, ⟨xd2, ll2, lo2⟩, (List.forall_mem_cons.mpr ⟨⟨_, _, q2_0, (relRef _), (kt_of kh18 (by show 1 ≤ 1000; decide) (.cons (relInt _ _) .nil) (.cons (.int _) .nil))⟩, (List.forall_mem_cons.mpr ⟨⟨_, _, q2_1, (relRef _), (kt_of kh20 (by show 1 ≤ 1000; decide) (.cons (relInt _ _) .nil) (.cons (.int _) .nil))⟩, (List.forall_mem_cons.mpr ⟨⟨_, _, q2_2, (relRef _), (kt_of kh22 (by show 2 ≤ 1000; decide) (.cons (relInt _ _) (.cons (relInt _ _) .nil)) (.cons (.int _) (.cons (.int _) .nil)))⟩, (List.forall_mem_cons.mpr ⟨⟨_, _, q2_3, (relRef _), (kt_of kh25 (by show 1 ≤ 1000; decide) (.cons (relInt _ _) .nil) (.cons (.int _) .nil))⟩, (List.forall_mem_cons.mpr ⟨⟨_, _, q2_4, (relRef _), (kt_of kh27 (by show 1 ≤ 1000; decide) (.cons (relInt _ _) .nil) (.cons (.int _) .nil))⟩, (List.forall_mem_cons.mpr ⟨⟨_, _, q2_5, (relRef _), (kt_of kh29 (by show 1 ≤ 1000; decide) (.cons (relInt _ _) .nil) (.cons (.int _) .nil))⟩, (List.forall_mem_cons.mpr ⟨⟨_, _, q2_6, (relRef _), (kt_of kh31 (by show 1 ≤ 1000; decide) (.cons (relInt _ _) .nil) (.cons (.int _) .nil))⟩, (List.forall_mem_cons.mpr ⟨⟨_, _, q2_7, (relRef _), (kt_of kh33 (by show 1 ≤ 1000; decide) (.cons (relInt _ _) .nil) (.cons (.int _) .nil))⟩, (fun _ h => nomatch h)⟩)⟩)⟩)⟩)⟩)⟩)⟩)⟩), (List.forall_mem_cons.mpr ⟨o2_0, (List.forall_mem_cons.mpr ⟨o2_1, (List.forall_mem_cons.mpr ⟨o2_2, (List.forall_mem_cons.mpr ⟨o2_3, (List.forall_mem_cons.mpr ⟨o2_4, (List.forall_mem_cons.mpr ⟨o2_5, (List.forall_mem_cons.mpr ⟨o2_6, (List.forall_mem_cons.mpr ⟨o2_7, (List.forall_mem_cons.mpr ⟨o2_8, (List.forall_mem_cons.mpr ⟨o2_9, (List.forall_mem_cons.mpr ⟨o2_10, (List.forall_mem_cons.mpr ⟨o2_11, (List.forall_mem_cons.mpr ⟨o2_12, (List.forall_mem_cons.mpr ⟨o2_13, (List.forall_mem_cons.mpr ⟨o2_14, (List.forall_mem_cons.mpr ⟨o2_15, (List.forall_mem_cons.mpr ⟨o2_16, (fun _ h => nomatch h)⟩)⟩)⟩)⟩)⟩)⟩)⟩)⟩)⟩)⟩)⟩)⟩)⟩)⟩)⟩)⟩)⟩)⟩, ⟨_, _, PySem.W.mg_of X G y3, (relRef _), (kt_of kh35 (by show 2 ≤ 1000; decide) (.cons (relStr _ _) (.cons (relStr _ _) .nil)) (.cons (.str _) (.cons (.str _) .nil)))⟩⟩
  refine ⟨PySem.W.fnOf "law" "law" (defArgs s_law) (defBody s_law) (defScope s_law) .none kV11 dc11 pm11 an11 cd11 ct11, fun s v => .of_eq rfl, fun base _ _ => ?_⟩
  have D1 : Has l.prog w K mg base 1 "locations" ["instruction", "places"] (sp_locations K) := ⟨_, _, ok_locations F1 E , PySem.W.mg_of X G a1, k1, b1⟩
  have D4 : Has l.prog w K mg base 1 "_law_stream" ["script"] (sp__law_stream K) := ⟨_, _, ok__law_stream F4 E , PySem.W.mg_of X G a4, k4, b4⟩
  have D5 : Has l.prog w K mg base 1 "_law_draw" ["stream", "many"] (sp__law_draw K) := ⟨_, _, ok__law_draw F5 E , PySem.W.mg_of X G a5, k5, b5⟩
  have D9 : Has l.prog w K mg base 1 "_law_kinds" [] (sp__law_kinds K) := ⟨_, _, ok__law_kinds F9 E , PySem.W.mg_of X G a9, k9, b9⟩
  have D10 : Has l.prog w K mg base 1 "_law_due" ["kind", "parts", "wanted"] (sp__law_due K) := ⟨_, _, ok__law_due F10 E , PySem.W.mg_of X G a10, k10, b10⟩
  have D2 : Has l.prog w K mg base 2 "reads" ["instruction"] (sp_reads K) := ⟨_, _, ok_reads F2 E D1, PySem.W.mg_of X G a2, k2, b2⟩
  have D3 : Has l.prog w K mg base 2 "writes" ["instruction"] (sp_writes K) := ⟨_, _, ok_writes F3 E D1, PySem.W.mg_of X G a3, k3, b3⟩
  have D6 : Has l.prog w K mg base 2 "_law_location" ["stream"] (sp__law_location K) := ⟨_, _, ok__law_location F6 E D5, PySem.W.mg_of X G a6, k6, b6⟩
  have D7 : Has l.prog w K mg base 2 "_law_constant" ["stream"] (sp__law_constant K) := ⟨_, _, ok__law_constant F7 E D5, PySem.W.mg_of X G a7, k7, b7⟩
  have D8 : Has l.prog w K mg base 3 "_law_part" ["stream", "kind"] (sp__law_part K) := ⟨_, _, ok__law_part F8 E D6 D7 D5, PySem.W.mg_of X G a8, k8, b8⟩
  exact ok_law F11 E D4 D9 D5 D8 D2 D3 D10
end My
open PySem PySem.W PyProof.Rows
set_option maxRecDepth 100000 in
set_option maxHeartbeats 0 in
theorem PySem.Challenge.cw_hornbook_k61_reads_and_writes_holds : PySem.Challenge.rw_hornbook_k61_reads_and_writes.Holds := by
  w_on; o_law; k_head; (case hw => w_witness2)
  k_fill
  refine L2.walk_of (l := PySem.Challenge.rw_hornbook_k61_reads_and_writes) (n := 63) (k := 4) (x := "script") (CX := fun _ => L2.CX0) (sp := fun w => My.sp_law _) rfl (by decide) rfl ⟨rfl, by decide, by decide⟩ (fun w h Y => PySem.W.kIn_of Y) ?F (fun _ _ a ns hl _ hS => ⟨a, ns, rfl, hS, hl, fun _ => rfl⟩) (fun _ _ _ _ _ h => h)
  case F =>
    intro w mg fa h KX G hmg
    refine' My.all_mk KX G hmg ?a1 ?l1 ?c1 ?k1 ?a2 ?l2 ?c2 ?k2 ?a3 ?l3 ?c3 ?k3 ?a4 ?l4 ?c4 ?k4 ?a5 ?l5 ?c5 ?k5 ?a6 ?l6 ?c6 ?k6 ?a7 ?l7 ?c7 ?k7 ?a8 ?l8 ?c8 ?k8 ?a9 ?l9 ?c9 ?k9 ?a10 ?l10 ?c10 ?k10 ?a11 ?l11 ?c11 ?k11 ?z0 ?z1 ?z2 ?z3 ?z4 ?z5 ?z6 ?z7 ?y0 ?y1 ?xd1 ?ll1 ?lo1 ?q1_0 ?kh1 ?q1_1 ?kh3 ?q1_2 ?kh6 ?q1_3 ?kh8 ?q1_4 ?kh10 ?q1_5 ?kh12 ?q1_6 ?kh14 ?q1_7 ?kh16 ?o1_0 ?o1_1 ?o1_2 ?o1_3 ?o1_4 ?o1_5 ?o1_6 ?o1_7 ?o1_8 ?o1_9 ?o1_10 ?o1_11 ?o1_12 ?o1_13 ?o1_14 ?y2 ?xd2 ?ll2 ?lo2 ?q2_0 ?kh18 ?q2_1 ?kh20 ?q2_2 ?kh22 ?q2_3 ?kh25 ?q2_4 ?kh27 ?q2_5 ?kh29 ?q2_6 ?kh31 ?q2_7 ?kh33 ?o2_0 ?o2_1 ?o2_2 ?o2_3 ?o2_4 ?o2_5 ?o2_6 ?o2_7 ?o2_8 ?o2_9 ?o2_10 ?o2_11 ?o2_12 ?o2_13 ?o2_14 ?o2_15 ?o2_16 ?y3 ?kh35
    (case a1 => k_is)
    (case l1 => k_is)
    (case c1 => k_is)
    (case k1 => k_is)
    (case a2 => k_is)
    (case l2 => k_is)
    (case c2 => k_is)
    (case k2 => k_is)
    (case a3 => k_is)
    (case l3 => k_is)
    (case c3 => k_is)
    (case k3 => k_is)
    (case a4 => k_is)
    (case l4 => k_is)
    (case c4 => k_is)
    (case k4 => k_is)
    (case a5 => k_is)
    (case l5 => k_is)
    (case c5 => k_is)
    (case k5 => k_is)
    (case a6 => k_is)
    (case l6 => k_is)
    (case c6 => k_is)
    (case k6 => k_is)
    (case a7 => k_is)
    (case l7 => k_is)
    (case c7 => k_is)
    (case k7 => k_is)
    (case a8 => k_is)
    (case l8 => k_is)
    (case c8 => k_is)
    (case k8 => k_is)
    (case a9 => k_is)
    (case l9 => k_is)
    (case c9 => k_is)
    (case k9 => k_is)
    (case a10 => k_is)
    (case l10 => k_is)
    (case c10 => k_is)
    (case k10 => k_is)
    (case a11 => k_is)
    (case l11 => k_is)
    (case c11 => k_is)
    (case k11 => k_is)
    (case z0 => k_is)
    (case z1 => k_is)
    (case z2 => k_is)
    (case z3 => k_is)
    (case z4 => k_is)
    (case z5 => k_is)
    (case z6 => k_is)
    (case z7 => k_is)
    (case y0 => k_is)
    (case y1 => k_is)
    (case xd1 => k_is)
    (case ll1 => (repeat' first | exact trivial | refine ⟨⟨_, _, rfl, rfl⟩, ?_⟩))
    (case lo1 => rfl)
    (case q1_0 => k_is)
    (case kh1 => k_is)
    (case q1_1 => k_is)
    (case kh3 => k_is)
    (case q1_2 => k_is)
    (case kh6 => k_is)
    (case q1_3 => k_is)
    (case kh8 => k_is)
    (case q1_4 => k_is)
    (case kh10 => k_is)
    (case q1_5 => k_is)
    (case kh12 => k_is)
    (case q1_6 => k_is)
    (case kh14 => k_is)
    (case q1_7 => k_is)
    (case kh16 => k_is)
    (case o1_0 => k_is)
    (case o1_1 => k_is)
    (case o1_2 => k_is)
    (case o1_3 => k_is)
    (case o1_4 => k_is)
    (case o1_5 => k_is)
    (case o1_6 => k_is)
    (case o1_7 => k_is)
    (case o1_8 => k_is)
    (case o1_9 => k_is)
    (case o1_10 => k_is)
    (case o1_11 => k_is)
    (case o1_12 => k_is)
    (case o1_13 => k_is)
    (case o1_14 => k_is)
    (case y2 => k_is)
    (case xd2 => k_is)
    (case ll2 => (repeat' first | exact trivial | refine ⟨⟨_, _, rfl, rfl⟩, ?_⟩))
    (case lo2 => rfl)
    (case q2_0 => k_is)
    (case kh18 => k_is)
    (case q2_1 => k_is)
    (case kh20 => k_is)
    (case q2_2 => k_is)
    (case kh22 => k_is)
    (case q2_3 => k_is)
    (case kh25 => k_is)
    (case q2_4 => k_is)
    (case kh27 => k_is)
    (case q2_5 => k_is)
    (case kh29 => k_is)
    (case q2_6 => k_is)
    (case kh31 => k_is)
    (case q2_7 => k_is)
    (case kh33 => k_is)
    (case o2_0 => k_is)
    (case o2_1 => k_is)
    (case o2_2 => k_is)
    (case o2_3 => k_is)
    (case o2_4 => k_is)
    (case o2_5 => k_is)
    (case o2_6 => k_is)
    (case o2_7 => k_is)
    (case o2_8 => k_is)
    (case o2_9 => k_is)
    (case o2_10 => k_is)
    (case o2_11 => k_is)
    (case o2_12 => k_is)
    (case o2_13 => k_is)
    (case o2_14 => k_is)
    (case o2_15 => k_is)
    (case o2_16 => k_is)
    (case y3 => k_is)
    (case kh35 => k_is)
