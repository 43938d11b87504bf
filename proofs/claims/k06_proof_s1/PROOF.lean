import PyProof.Rows.All
import Wide.All
import OpenK.AllK
import Wide.FinOn
import HandS.ForMost
import HandS.Evl
import HandS.Deep
import HandS.Zip
import PyProof.P3Statements
import PyProof.P3In
import HandS.TupAny
import HandS.IsInst
import KE.DataCmp
import HandS.TupSets
import HandS.Strs
import KE.SortKeyHeap
import HandS.SortOrd
import HandS.SortKw
import HandS.Conv
import HandS.Star
import HandS.Flow
import HandS.RaiseMore
import HandS.DictComp
import HandS.Property
import HandS.Style
import HandS.Defaults
import HandS.Exc
import HandS.CallSlots
import KE.KTryMore
import HandS.ExcInit
import HandS.ExcField
import KE.KExcInit
import KE.KExcIs
import HandS.WordsExc
import HandS.Text
import HandS.Iter
import HandS.Steps
import HandS.Call
import HandS.OwnEq
import PyProof.InstEq
import HandS.ClsMeth
import HandS.FStr
import HandS.Gcd
import HandS.MakeKwOnly
import PyProof.StrBlock2
import PyProof.Rows.StrMul
import HandS.List
import PySem.Challenge.RW_surershares_k06_samplers
set_option Elab.async false
set_option linter.all false
set_option maxRecDepth 100000
/-! What an expression evaluates to, as data. B is a base: a part of the heap in which the known data stand; nothing else that stands already is leant on. -/
namespace ZE
open PySem PySem.Spec PyProof.Rows L2 Evl
/-- H2 without what stood in H1 outside of B -/
def sub (H2 H1 B : Hp) : Hp := fun a => if (H1 a).isSome = true ∧ B a = none then none else H2 a
theorem sub_yes {H2 H1 B : Hp} {a : Addr} (h : ¬ ((H1 a).isSome = true ∧ B a = none)) : sub H2 H1 B a = H2 a := if_neg h
theorem sub_no {H2 H1 B : Hp} {a : Addr} (h : (H1 a).isSome = true ∧ B a = none) : sub H2 H1 B a = none := if_pos h
theorem sub_le {H2 H1 B : Hp} : Ex (sub H2 H1 B) H2 := fun a o e => by
  unfold sub at e
  split at e
  · cases e
  · exact e
theorem le_sub {H2 H1 B : Hp} (b1 : Ex B H1) (h : Ex H1 H2) : Ex B (sub H2 H1 B) := fun a o e => by
  rw [sub_yes fun z => by rw [z.2] at e; cases e]
  exact h a o (b1 a o e)
theorem sub_mono {H3 H2 H1 B : Hp} (h : Ex H2 H3) : Ex (sub H2 H1 B) (sub H3 H1 B) := fun a o e => by
  unfold sub at e ⊢
  split at e
  · cases e
  · next c =>
    rw [if_neg c]
    exact h a o e
theorem sub_step {H3 H2 H1 B : Hp} (h : Ex H1 H2) : Ex (sub H3 H2 B) (sub H3 H1 B) := fun a o e => by
  unfold sub at e ⊢
  split at e
  · cases e
  · next c =>
    rw [if_neg fun z => c ⟨?_, z.2⟩]
    · exact e
    · obtain ⟨u, hu⟩ := Option.isSome_iff_exists.mp z.1
      rw [h a u hu]
      rfl
/-- a new base, behind the old one -/
structure Wk (B0 H0 B H : Hp) : Prop where
  bb : Ex B0 B
  bh : Ex B H
  ap : ∀ a, B0 a = none → (H0 a).isSome = true → B a = none
theorem Wk.refl {B H : Hp} (b : Ex B H) : Wk B H B H := ⟨Ex.refl B, b, fun _ h _ => h⟩
theorem Wk.sub {B0 H0 B H : Hp} (k : Wk B0 H0 B H) : Ex B (ZE.sub H H0 B0) := fun a o e => by
  rw [sub_yes fun z => by rw [k.ap a z.2 z.1] at e; cases e]
  exact k.bh a o e
/-- behind an evaluation from H to H2 -/
theorem Wk.next {B0 H0 B H H2 : Hp} (k : Wk B0 H0 B H) (h0 : ∀ a, (H0 a).isSome = true → (H a).isSome = true) (h : Ex H H2) : Wk B0 H0 (ZE.sub H2 H B) H2 where
  bb := k.bb.trans (le_sub k.bh h)
  bh := sub_le
  ap := fun a b0 hh => sub_no ⟨h0 a hh, k.ap a b0 hh⟩
/-! ### data stay -/
section
variable {K : PySem.W.Frag} {H H' : Hp}
mutual
theorem Dp.up (e : Ex H H') : ∀ (d : PyData) (v : V), Dp K H v d → Dp K H' v d
  | .none, _, h => by cases h; exact .non
  | .bool b, _, h => by cases h; exact .bl b
  | .int i, _, h => by cases h; exact .int i
  | .str x, _, h => by cases h; exact .str x
  | .list ds, _, h => by
    cases h with
    | lst hs ha => exact .lst (ex_l e hs) (DpAll.up e ds _ ha)
  | .tuple ds, _, h => by
    cases h with
    | tup hs ha => exact .tup (ex_t e hs) (DpAll.up e ds _ ha)
  | .dict _, _, h => by cases h
theorem DpAll.up (e : Ex H H') : ∀ (ds : List PyData) (vs : List V), DpAll K H vs ds → DpAll K H' vs ds
  | [], _, h => by cases h; exact .nil
  | d :: ds, _, h => by
    cases h with
    | cons h1 h2 => exact .cons (Dp.up e d _ h1) (DpAll.up e ds _ h2)
end
theorem dp_up {v : V} {d : PyData} (h : Dp K H v d) (e : Ex H H') : Dp K H' v d := Dp.up e d v h
theorem dpa_up {vs : List V} {ds : List PyData} (h : DpAll K H vs ds) (e : Ex H H') : DpAll K H' vs ds := DpAll.up e ds vs h
theorem DpAll.len : ∀ {vs : List V} {ds : List PyData}, DpAll K H vs ds → vs.length = ds.length
  | _, _, .nil => rfl
  | _, _, .cons _ t => congrArg (· + 1) (DpAll.len t)
theorem DpAll.get : ∀ {vs : List V} {ds : List PyData} {i : Nat} {d : PyData}, DpAll K H vs ds → ds[i]? = some d → ∃ v, vs[i]? = some v ∧ Dp K H v d
  | _, _, i, _, .nil, e => by simp at e
  | _, _, 0, _, .cons h _, e => ⟨_, rfl, by have z := Option.some.inj e; rw [← z]; exact h⟩
  | _, _, i + 1, _, .cons _ t, e => by
    obtain ⟨v, h1, h2⟩ := DpAll.get (i := i) t (by simpa using e)
    exact ⟨v, by simpa using h1, h2⟩
theorem DpAll.get' : ∀ {vs : List V} {ds : List PyData} {i : Nat} {v : V}, DpAll K H vs ds → vs[i]? = some v → ∃ d, ds[i]? = some d ∧ Dp K H v d
  | _, _, i, _, .nil, e => by simp at e
  | _, _, 0, _, .cons h _, e => ⟨_, rfl, by have z := Option.some.inj e; rw [← z]; exact h⟩
  | _, _, i + 1, _, .cons _ t, e => by
    obtain ⟨v, h1, h2⟩ := DpAll.get' (i := i) t (by simpa using e)
    exact ⟨v, by simpa using h1, h2⟩
theorem DpAll.app : ∀ {vs ws : List V} {ds es : List PyData}, DpAll K H vs ds → DpAll K H ws es → DpAll K H (vs ++ ws) (ds ++ es)
  | _, _, _, _, .nil, t => t
  | _, _, _, _, .cons h r, t => .cons h (DpAll.app r t)
theorem DpAll.take : ∀ {vs : List V} {ds : List PyData} (n : Nat), DpAll K H vs ds → DpAll K H (vs.take n) (ds.take n)
  | _, _, 0, _ => by rw [List.take_zero, List.take_zero]; exact .nil
  | _, _, n + 1, .nil => .nil
  | _, _, n + 1, .cons h r => .cons h (DpAll.take n r)
theorem DpAll.drop : ∀ {vs : List V} {ds : List PyData} (n : Nat), DpAll K H vs ds → DpAll K H (vs.drop n) (ds.drop n)
  | _, _, 0, h => h
  | _, _, n + 1, .nil => .nil
  | _, _, n + 1, .cons _ r => DpAll.drop n r
/-- texts as data -/
theorem dpa_strs : ∀ (xs : List Str), DpAll K H (xs.map V.str) (xs.map PyData.str)
  | [] => .nil
  | x :: xs => .cons (.str x) (dpa_strs xs)
theorem strs_dpa : ∀ {xs : List Str} {vs : List V}, DpAll K H vs (xs.map PyData.str) → vs = xs.map V.str
  | [], _, .nil => rfl
  | x :: xs, _, .cons h t => by
    cases h
    rw [strs_dpa t]
    rfl
end
/-! ### evaluations -/
def EvD (K : PySem.W.Frag) (te : TE) (σ : L2.St) (B : Hp) (d : PyData) : Prop := ∀ H1, Ex B H1 → ∀ Q : VK, (∀ v H2, Ex H1 H2 → Dp K (sub H2 H1 B) v d → Q v H2) → te σ H1 Q
def EvDA (K : PySem.W.Frag) (ta : TA) (σ : L2.St) (B : Hp) (ds : List PyData) : Prop := ∀ H1, Ex B H1 → ∀ Q : List V → Hp → Prop, (∀ vs H2, Ex H1 H2 → DpAll K (sub H2 H1 B) vs ds → Q vs H2) → ta σ H1 Q
/-- an operator, a call by values -/
def RvD (K : PySem.W.Frag) (r : R2) (d1 d2 d : PyData) : Prop := ∀ B H1 x y, Ex B H1 → Dp K B x d1 → Dp K B y d2 → ∀ Q : VK, (∀ v H2, Ex H1 H2 → Dp K (sub H2 H1 B) v d → Q v H2) → r x y H1 Q
def RcD (K : PySem.W.Frag) (r : List V → Hp → VK → Prop) (ds : List PyData) (d : PyData) : Prop := ∀ B H1 vs, Ex B H1 → DpAll K B vs ds → ∀ Q : VK, (∀ v H2, Ex H1 H2 → Dp K (sub H2 H1 B) v d → Q v H2) → r vs H1 Q
/-- a promise: pure, by data -/
def SpD (K : PySem.W.Frag) (sp : Sp) (ds : List PyData) (d : PyData) : Prop := ∀ B H1 vs, Ex B H1 → DpAll K B vs ds → ∀ Q : VK, (∀ v H2, Ex H1 H2 → Dp K (sub H2 H1 B) v d → Q v H2) → ∀ E : XK, sp vs H1 Q E
section
variable {K : PySem.W.Frag} {σ : L2.St} {B B' : Hp} {te ta tb tl tr : TE} {t u tt : TT} {d d1 d2 : PyData}
theorem EvD.up (h : EvD K te σ B d) (e : Ex B B') : EvD K te σ B' d := fun H1 b Q q => h H1 (e.trans b) Q fun v H2 e2 hv => q v H2 e2 (dp_up hv fun a o x => by
  unfold sub at x ⊢
  split at x
  · cases x
  · next c =>
    rw [if_neg fun z => c ⟨z.1, ?_⟩]
    · exact x
    · cases y : B a with
      | none => rfl
      | some w =>
        have q := z.2
        rw [e a w y] at q
        cases q)
theorem ed_var {i : Nat} {v : V} (h : σ[i]? = some (some v)) (hd : Dp K B v d) : EvD K (tVar i) σ B d := fun H1 b Q q => ⟨v, h, q v H1 (Ex.refl H1) (dp_up hd (le_sub b (Ex.refl H1)))⟩
theorem ed_c {v : V} (hd : ∀ H, Dp K H v d) : EvD K (tC v) σ B d := fun H1 _ Q q => q v H1 (Ex.refl H1) (hd _)
theorem ed_str (x : Str) : EvD K (tC (.str x)) σ B (.str x) := ed_c fun _ => .str x
theorem ed_int (i : Int) : EvD K (tC (.int i)) σ B (.int i) := ed_c fun _ => .int i
theorem ed_bl (b : Bool) : EvD K (tC (.bl b)) σ B (.bool b) := ed_c fun _ => .bl b
theorem ed_non : EvD K (tC .non) σ B .none := ed_c fun _ => .non
theorem ed_is (h : EvD K te σ B d) (e : d = d1) : EvD K te σ B d1 := e ▸ h
/-- what follows from a later base, seen from the first one -/
theorem later {H1 H3 H4 : Hp} (e : Ex H1 H3) : Ex (sub H4 H3 (sub H3 H1 B)) (sub H4 H1 B) := fun a o z => by
  by_cases c : (H1 a).isSome = true ∧ B a = none
  · exfalso
    have c3 : (H3 a).isSome = true := by
      obtain ⟨u, hu⟩ := Option.isSome_iff_exists.mp c.1
      rw [e a u hu]
      rfl
    rw [sub_no ⟨c3, sub_no c⟩] at z
    cases z
  · rw [sub_yes c]
    exact sub_le a o z
theorem ed_op {r : R2} (ha : EvD K ta σ B d1) (hb : EvD K tb σ B d2) (hr : RvD K r d1 d2 d) : EvD K (tOp r ta tb) σ B d := fun H1 b Q q =>
  ha H1 b _ fun x H2 e2 hx => hb H2 (b.trans e2) _ fun y H3 e3 hy =>
    hr (sub H3 H1 B) H3 x y sub_le (dp_up hx (sub_mono e3)) (dp_up hy (sub_step e2)) Q fun v H4 e4 hv => q v H4 ((e2.trans e3).trans e4) (dp_up hv (later (e2.trans e3)))
theorem ea_nilD : EvDA K tNil σ B [] := fun H1 _ Q q => q [] H1 (Ex.refl H1) .nil
theorem ea_consD {tr : TA} {ds : List PyData} (h : EvD K te σ B d) (hr : EvDA K tr σ B ds) : EvDA K (tCons te tr) σ B (d :: ds) := fun H1 b Q q =>
  h H1 b _ fun x H2 e2 hx => hr H2 (b.trans e2) _ fun xs H3 e3 hxs => q (x :: xs) H3 (e2.trans e3) (.cons (dp_up hx (sub_mono e3)) (dpa_up hxs (sub_step e2)))
theorem ed_call {sp : Sp} {dvs : List V} {E : XK} {tas : TA} {ds : List PyData} {des : List PyData} (h : EvDA K tas σ B ds) (hd : ∀ H, DpAll K H dvs des) (hs : SpD K sp (ds ++ des) d) : EvD K (tCall sp dvs E tas) σ B d := fun H1 b Q q =>
  h H1 b _ fun vs H2 e2 hv => hs (sub H2 H1 B) H2 (vs ++ dvs) sub_le (DpAll.app hv (hd _)) Q (fun v H3 e3 hv => q v H3 (e2.trans e3) (dp_up hv (later e2))) E
theorem ed_call0 {sp : Sp} {E : XK} {tas : TA} {ds : List PyData} (h : EvDA K tas σ B ds) (hs : SpD K sp ds d) : EvD K (tCall sp [] E tas) σ B d := ed_call h (des := []) (fun _ => .nil) (by rw [List.append_nil]; exact hs)
theorem ed_cb {r : List V → Hp → VK → Prop} {tas : TA} {ds : List PyData} (h : EvDA K tas σ B ds) (hr : RcD K r ds d) : EvD K (tCB r tas) σ B d := fun H1 b Q q =>
  h H1 b _ fun vs H2 e2 hv => hr (sub H2 H1 B) H2 vs sub_le hv Q fun v H3 e3 hv => q v H3 (e2.trans e3) (dp_up hv (later e2))
theorem new_at {H1 : Hp} {p : Addr} {o : HO} (hp : H1 p = none) : sub (upd H1 p o) H1 B p = some o := by
  rw [sub_yes fun z => by rw [hp] at z; exact Bool.false_ne_true z.1]
  exact upd_same
theorem new_le {H1 H2 : Hp} {p : Addr} {o : HO} (e : Ex H1 H2) (hp : H2 p = none) : Ex (sub H2 H1 B) (sub (upd H2 p o) H1 B) := sub_mono (Ex.new hp)
theorem new_at2 {H1 H2 : Hp} {p : Addr} {o : HO} (e : Ex H1 H2) (hp : H2 p = none) : sub (upd H2 p o) H1 B p = some o := by
  rw [sub_yes fun z => by
    obtain ⟨u, hu⟩ := Option.isSome_iff_exists.mp z.1
    rw [e p u hu] at hp
    cases hp]
  exact upd_same
theorem ed_tup {tas : TA} {ds : List PyData} (h : EvDA K tas σ B ds) (hl : ds.length ≤ 100000) : EvD K (tTup tas) σ B (.tuple ds) := fun H1 b Q q =>
  h H1 b _ fun vs H2 e2 hv => ⟨by rw [DpAll.len hv]; exact sz_of hl, fun p hp => q _ _ (e2.trans (Ex.new hp)) (.tup (st_of (new_at2 e2 hp)) (dpa_up hv (new_le e2 hp)))⟩
theorem ed_lst {tas : TA} {ds : List PyData} (h : EvDA K tas σ B ds) (hl : ds.length ≤ 100000) : EvD K (tLst tas) σ B (.list ds) := fun H1 b Q q =>
  h H1 b _ fun vs H2 e2 hv => ⟨by rw [DpAll.len hv]; exact sz_of hl, fun p hp => q _ _ (e2.trans (Ex.new hp)) (.lst (sq_of (new_at2 e2 hp)) (dpa_up hv (new_le e2 hp)))⟩
/-! tests -/
theorem et_of {b : Bool} (h : EvD K te σ B (.bool b)) : EvT (tTest te) σ B b := fun H1 e Q q => h H1 e _ fun v H2 e2 hv => by
  cases hv
  exact ⟨b, rfl, q H2 e2⟩
theorem et_ofB {b : Bool} (h : EvD K te σ B (.bool b)) : EvT (tB te) σ B b := fun H1 e Q q => h H1 e _ fun v H2 e2 hv => by
  cases hv
  exact ⟨b, rfl, q H2 e2⟩
theorem ed_andV {a b : Bool} (h1 : EvD K ta σ B (.bool a)) (h2 : a = true → EvD K tb σ B (.bool b)) : EvD K (tAndV ta tb) σ B (.bool (a && b)) := fun H1 e Q q => h1 H1 e _ fun x H2 e2 hx => by
  cases hx
  refine ⟨a, rfl, ?_⟩
  cases a with
  | true => exact h2 rfl H2 (e.trans e2) _ fun v H3 e3 hv => q v H3 (e2.trans e3) (dp_up hv (sub_step e2))
  | false => exact q _ H2 e2 (.bl false)
theorem ed_orV {a b : Bool} (h1 : EvD K ta σ B (.bool a)) (h2 : a = false → EvD K tb σ B (.bool b)) : EvD K (tOrV ta tb) σ B (.bool (a || b)) := fun H1 e Q q => h1 H1 e _ fun x H2 e2 hx => by
  cases hx
  refine ⟨a, rfl, ?_⟩
  cases a with
  | false => exact h2 rfl H2 (e.trans e2) _ fun v H3 e3 hv => q v H3 (e2.trans e3) (dp_up hv (sub_step e2))
  | true => exact q _ H2 e2 (.bl true)
theorem ed_notV {a : Bool} (h1 : EvD K ta σ B (.bool a)) : EvD K (tNotV ta) σ B (.bool (!a)) := fun H1 e Q q => h1 H1 e _ fun x H2 e2 hx => by
  cases hx
  exact ⟨a, rfl, q _ H2 e2 (.bl _)⟩
theorem ed_if {b : Bool} (h : EvT t σ B b) (h1 : b = true → EvD K ta σ B d) (h2 : b = false → EvD K tb σ B d) : EvD K (tIf t ta tb) σ B d := fun H1 e Q q => h H1 e _ fun H2 e2 => by
  cases b with
  | true => exact h1 rfl H2 (e.trans e2) _ fun v H3 e3 hv => q v H3 (e2.trans e3) (dp_up hv (sub_step e2))
  | false => exact h2 rfl H2 (e.trans e2) _ fun v H3 e3 hv => q v H3 (e2.trans e3) (dp_up hv (sub_step e2))
/-- an operator that keeps the heap and gives a scalar -/
theorem rv_sc {r : R2} {z : V} (hz : ∀ H, Dp K H z d) (h : ∀ H x y, Dp K H x d1 → Dp K H y d2 → ∀ Q : VK, Q z H → r x y H Q) : RvD K r d1 d2 d := fun B H1 x y b hx hy Q q =>
  h H1 x y (dp_up hx b) (dp_up hy b) Q (q z H1 (Ex.refl H1) (hz _))
theorem rc_sc {r : List V → Hp → VK → Prop} {ds : List PyData} {z : V} (hz : ∀ H, Dp K H z d) (h : ∀ H vs, DpAll K H vs ds → ∀ Q : VK, Q z H → r vs H Q) : RcD K r ds d := fun B H1 vs b hv Q q =>
  h H1 vs (dpa_up hv b) Q (q z H1 (Ex.refl H1) (hz _))
end
end ZE

set_option Elab.async false
set_option linter.all false
set_option maxRecDepth 100000
namespace ZE
open PySem PySem.Spec PyProof.Rows L2 Evl
section
variable {X : Cx} {tg : Expr}
/-- a list or a tuple is walked -/
def iSq (K : PySem.W.Frag) (tl : TE) : TI := fun σ H R => tl σ H fun x H1 => ∃ a, x = .ref a ∧ ((∃ xs, SqL K H1 a xs ∧ R (Itl K a) H1) ∨ ∃ xs, SqT K H1 a xs ∧ R (Itt K a) H1)
theorem pi_seq {l : Expr} {tl : TE} (hl : PE X l tl) : PI X tg l (iSq X.K tl) := by
  refine ⟨fun pins s σ H R I h => ?_⟩
  refine thn (hl.run pins s σ H _ I h) fun v s1 ⟨x, H1, I1, r1, q1⟩ => ?_
  obtain ⟨a, e, q1⟩ := q1
  subst e
  cases r1
  have own : ∀ b, b ∈ [s1.heap.objs.size] → FpOk X pins H1 b := fun b hb => by
    obtain rfl : b = s1.heap.objs.size := List.mem_singleton.mp hb
    exact I1.fpOk (Nat.le_refl _) (I1.hok.fresh (Nat.le_refl _))
  rcases q1 with ⟨xs, hq, q⟩ | ⟨xs, hq, q⟩
  · obtain ⟨its, rv, p, hz⟩ := I1.list hq
    exact wpAny_pyIter_list p.isList ⟨s1.heap.objs.size, [s1.heap.objs.size], _, _, H1, rfl, I1.kept (t' := s1.toks) fun b o e => Heap.get?_push_of_some _ e, turn_list a _, ⟨_, Heap.get?_push_size _ rfl, rfl, rfl⟩, own, q⟩
  · obtain ⟨its, rv, p, hz⟩ := I1.tuple hq
    exact wpAny_pyIter_tuple (show s1.heap.IsTuple a its.toArray from p) ⟨s1.heap.objs.size, [s1.heap.objs.size], _, _, H1, rfl, I1.kept (t' := s1.toks) fun b o e => Heap.get?_push_of_some _ e, turn_tuple a _, ⟨_, Heap.get?_push_size _ rfl, rfl, rfl⟩, own, q⟩
end
/-- a list or a tuple of these -/
def Sq (D : PyData) (ds : List PyData) : Prop := D = .list ds ∨ D = .tuple ds
section
variable {K : PySem.W.Frag} {σ : L2.St} {B : Hp} {te tl : TE} {tt : TT} {D0 : PyData} {ds : List PyData} {G G1 : TG}
theorem sq_split {H : Hp} {v : V} (h : Dp K H v D0) (s : Sq D0 ds) : ∃ a xs, v = .ref a ∧ (SqL K H a xs ∨ SqT K H a xs) ∧ DpAll K H xs ds := by
  rcases s with rfl | rfl
  · cases h with
    | lst hs ha => exact ⟨_, _, rfl, .inl hs, ha⟩
  · cases h with
    | tup hs ha => exact ⟨_, _, rfl, .inr hs, ha⟩
/-- storing an item: what is known then of the slots -/
def TgD (K : PySem.W.Frag) (G : TG) (vs : List Nat) (σ : L2.St) (P : PyData → L2.St → Hp → Prop) (ds : List PyData) : Prop :=
  ∀ d ∈ ds, ∀ x B1 H, Ex B1 H → Dp K B1 x d → ∀ Q : L2.St → Hp → Prop, (∀ σ2, wipe σ2 vs = wipe σ vs → P d σ2 B1 → Q σ2 H) → G x (wipe σ vs) H Q
/-- one name -/
def Has (K : PySem.W.Frag) (σ : L2.St) (B : Hp) (i : Nat) (d : PyData) : Prop := ∃ v, σ[i]? = some (some v) ∧ Dp K B v d
theorem Has.up {B' : Hp} {i : Nat} {d : PyData} (h : Has K σ B i d) (e : Ex B B') : Has K σ B' i d := let ⟨v, a, b⟩ := h; ⟨v, a, dp_up b e⟩
theorem ed_has {i : Nat} {d : PyData} (h : Has K σ B i d) : EvD K (tVar i) σ B d := let ⟨_, a, b⟩ := h; ed_var a b
theorem tg_name {j : Nat} {vs : List Nat} (hw : ∀ x, wipe ((wipe σ vs).set j (some x)) vs = wipe σ vs) : TgD K (gName j) vs σ (fun d σ2 B1 => ∃ v, σ2 = (wipe σ vs).set j (some v) ∧ Dp K B1 v d) ds := fun d _ x B1 H _ hx Q q =>
  q _ (hw x) ⟨x, rfl, hx⟩
/-- a pair of names -/
theorem tg_pair {i j : Nat} {vs : List Nat} (hw : ∀ x y, wipe (((wipe σ vs).set i (some x)).set j (some y)) vs = wipe σ vs) (hd : ∀ d ∈ ds, ∃ d1 d2, d = .tuple [d1, d2]) :
    TgD K (gTup K 2 (gCons (gName i) (gCons (gName j) gNil))) vs σ (fun d σ2 B1 => ∃ d1 d2 v u, d = .tuple [d1, d2] ∧ σ2 = ((wipe σ vs).set i (some v)).set j (some u) ∧ Dp K B1 v d1 ∧ Dp K B1 u d2) ds := fun d m x B1 H e hx Q q => by
  obtain ⟨d1, d2, rfl⟩ := hd d m
  cases hx with
  | tup hs ha =>
    cases ha with
    | cons h1 t =>
      cases t with
      | cons h2 t =>
        cases t
        exact ⟨_, _, rfl, ex_t e hs, rfl, _, _, rfl, _, _, rfl, rfl, q _ (hw _ _) ⟨d1, d2, _, _, rfl, rfl, h1, h2⟩⟩
/-- within a comprehension: the list at D, what is known in a base without it -/
def Cm (K : PySem.W.Frag) (H1 B B2 H2 : Hp) (D : Addr) (ys : List PyData) (H : Hp) : Prop := ∃ acc Bi, Ex B2 Bi ∧ Ex Bi H ∧ Ex Bi (sub H H1 B) ∧ Bi D = none ∧ Ex H2 H ∧ H D = some (.lst acc) ∧ DpAll K Bi acc ys
theorem cm_turn {H1 B B2 H2 H : Hp} {D : Addr} {ys : List PyData} {b : Bool} {d : PyData} {σ2 : L2.St} {Nx : Hp → Prop} (c : Cm K H1 B B2 H2 D ys H) (h12 : Ex H1 H2) (hD : H2 D = none) (hn : ys.length < 50000) (ht : ∀ Bi, Ex B2 Bi → EvT tt σ2 Bi b) (he : b = true → ∀ Bi, Ex B2 Bi → EvD K te σ2 Bi d)
    (nx : ∀ H', Cm K H1 B B2 H2 D (if b = true then ys ++ [d] else ys) H' → Nx H') :
    tt σ2 H fun b H3 => if b = true then te σ2 H3 fun y H4 => ∃ acc, H4 D = some (.lst acc) ∧ acc.length < sizeLine ∧ Nx (upd H4 D (.lst (acc ++ [y]))) else Nx H3 := by
  obtain ⟨acc, Bi, c1, c2, c3, c4, c5, c6, c7⟩ := c
  refine ht Bi c1 H c2 _ fun H3 e3 => ?_
  cases b with
  | false =>
    rw [if_neg Bool.false_ne_true] at nx
    exact (if_neg Bool.false_ne_true).mpr (nx H3 ⟨acc, Bi, c1, c2.trans e3, c3.trans (sub_mono e3), c4, c5.trans e3, e3 D _ c6, c7⟩)
  | true =>
    rw [if_pos rfl] at nx
    refine (if_pos rfl).mpr (he rfl Bi c1 H3 (c2.trans e3) _ fun y H4 e4 hy => ⟨acc, e4 D _ (e3 D _ c6), sz_lt (by rw [DpAll.len c7]; omega), nx _ ?_⟩)
    have dn : sub H4 H3 Bi D = none := sub_no ⟨by rw [e3 D _ c6]; rfl, c4⟩
    have up4 : Ex (sub H4 H3 Bi) (upd H4 D (.lst (acc ++ [y]))) := Ex.mut sub_le dn
    have b4 : Ex Bi (sub H4 H3 Bi) := le_sub (c2.trans e3) e4
    refine ⟨acc ++ [y], sub H4 H3 Bi, c1.trans b4, up4, fun a o z => ?_, dn, Ex.mut ((c5.trans e3).trans e4) hD, upd_same, DpAll.app (dpa_up c7 b4) (.cons hy .nil)⟩
    have ho := up4 a o z
    by_cases cc : (H1 a).isSome = true ∧ B a = none
    · exfalso
      have bn : Bi a = none := by
        cases q : Bi a with
        | none => rfl
        | some u =>
          have w := c3 a u q
          rw [sub_no cc] at w
          cases w
      obtain ⟨u, hu⟩ := Option.isSome_iff_exists.mp cc.1
      have h3 := e3 a u (c5 a u (h12 a u hu))
      rw [sub_no ⟨by rw [h3]; rfl, bn⟩] at z
      cases z
    · rw [sub_yes cc]
      exact ho
theorem filt_snoc {α β : Type} {l : List α} {i : Nat} {x : α} (f : α → Bool) (g : α → β) (h : l[i]? = some x) : ((l.take (i + 1)).filter f).map g = if f x = true then ((l.take i).filter f).map g ++ [g x] else ((l.take i).filter f).map g := by
  rw [List.take_succ, h, List.filter_append, List.map_append]
  rw [show (some x).toList = [x] from rfl]
  cases c : f x with
  | true => rw [List.filter_cons_of_pos c, if_pos rfl]; rfl
  | false => rw [List.filter_cons_of_neg (by rw [c]; exact Bool.false_ne_true), if_neg Bool.false_ne_true]; exact List.append_nil _
theorem wp_lc {a : Addr} {xs : List V} {J : It} (hJ : (J = Itl K a ∧ ∀ H', Ex B H' → SqL K H' a xs) ∨ (J = Itt K a ∧ ∀ H', Ex B H' → SqT K H' a xs)) {g : TG} {vs : List Nat} {H1 : Hp} {D : Addr} {Qd : Hp → Prop} (Pv : Nat → Hp → Prop) (h0 : Pv 0 (upd H1 D (.lst []))) (hl : ∀ i H, Pv i H → Ex B H)
    (hs : ∀ i x H, xs[i]? = some x → Pv i H → g x (wipe σ vs) H fun σ2 H2 => wipe σ2 vs = wipe σ vs ∧ tt σ2 H2 fun b H3 =>
      if b = true then te σ2 H3 fun y H4 => ∃ acc, H4 D = some (.lst acc) ∧ acc.length < sizeLine ∧ Pv (i + 1) (upd H4 D (.lst (acc ++ [y]))) else Pv (i + 1) H3) (hd : ∀ H, Pv xs.length H → Qd H) :
    ∃ W : Nat → Nat → Hp → Prop, (∃ m, W 0 m (upd H1 D (.lst []))) ∧ ∀ i m H, W i m H →
      (J.stop i H ∧ Qd H) ∨ (J.go i H ∧ ∃ Nx : Hp → Prop, (∀ H', Nx H' → ∃ m', m' < m ∧ W (i + 1) m' H') ∧ ∀ x H', J.yld i H x H' → g x (wipe σ vs) H' fun σ2 H2 => wipe σ2 vs = wipe σ vs ∧ tt σ2 H2 fun b H3 =>
        if b = true then te σ2 H3 fun y H4 => ∃ acc, H4 D = some (.lst acc) ∧ acc.length < sizeLine ∧ Nx (upd H4 D (.lst (acc ++ [y]))) else Nx H3) := by
  rcases hJ with ⟨rfl, hJ⟩ | ⟨rfl, hJ⟩
  · exact lc_list (xs := xs) Pv h0 (fun i H _ p => hJ H (hl i H p)) hs hd
  · exact lc_tup (xs := xs) Pv h0 (fun i H _ p => hJ H (hl i H p)) hs hd
/-- [e for target in seq if test] -/
theorem ed_lc {P : PyData → L2.St → Hp → Prop} (f : PyData → Bool) (g : PyData → PyData) {vs : List Nat} (hl : EvD K tl σ B D0) (sq : Sq D0 ds) (few : ds.length < 40000) (tgd : TgD K G vs σ P ds)
    (ht : ∀ d ∈ ds, ∀ σ2 B1, Ex B B1 → P d σ2 B1 → EvT tt σ2 B1 (f d)) (he : ∀ d ∈ ds, f d = true → ∀ σ2 B1, Ex B B1 → P d σ2 B1 → EvD K te σ2 B1 (g d)) (pu : ∀ d σ2 B1 B2, Ex B1 B2 → P d σ2 B1 → P d σ2 B2) :
    EvD K (tLc (iSq K tl) G tt te vs) σ B (.list ((ds.filter f).map g)) := fun H1 b Q q => hl H1 b _ fun v H2 e2 hv => by
  obtain ⟨a, xs, rfl, hs, hx⟩ := sq_split hv sq
  have main : ∀ J : It, ((J = Itl K a ∧ ∀ H', Ex (sub H2 H1 B) H' → SqL K H' a xs) ∨ (J = Itt K a ∧ ∀ H', Ex (sub H2 H1 B) H' → SqT K H' a xs)) → ∀ D, H2 D = none → ∃ W : Nat → Nat → Hp → Prop, (∃ m, W 0 m (upd H2 D (.lst []))) ∧ ∀ i m H, W i m H →
      (J.stop i H ∧ Q (.ref D) H) ∨ (J.go i H ∧ ∃ Nx : Hp → Prop, (∀ H', Nx H' → ∃ m', m' < m ∧ W (i + 1) m' H') ∧ ∀ x H', J.yld i H x H' → G x (wipe σ vs) H' fun σ2 H2 => wipe σ2 vs = wipe σ vs ∧ tt σ2 H2 fun b H3 =>
        if b = true then te σ2 H3 fun y H4 => ∃ acc, H4 D = some (.lst acc) ∧ acc.length < sizeLine ∧ Nx (upd H4 D (.lst (acc ++ [y]))) else Nx H3) := by
    intro J hJ D hD
    have h1D : H1 D = none := fresh_back e2 hD
    have dB : sub H2 H1 B D = none := by
      rw [sub_yes fun z => by rw [h1D] at z; exact Bool.false_ne_true z.1]
      exact hD
    refine wp_lc (B := sub H2 H1 B) hJ (fun i H => Cm K H1 B (sub H2 H1 B) H2 D (((ds.take i).filter f).map g) H) ?_ (fun i H c => ?_) (fun i x H hi c => ?_) fun H c => ?_
    · have e3 : Ex H2 (upd H2 D (.lst [])) := Ex.new hD
      exact ⟨[], sub H2 H1 B, Ex.refl _, sub_le.trans e3, sub_mono e3, dB, e3, upd_same, .nil⟩
    · obtain ⟨acc, Bi, c1, c2, _⟩ := c
      exact c1.trans c2
    · obtain ⟨d, hd, hxd⟩ := DpAll.get' hx hi
      have md : d ∈ ds := List.mem_of_getElem? hd
      have cB : Ex (sub H2 H1 B) H := by
        obtain ⟨acc, Bi, c1, c2, _⟩ := c
        exact c1.trans c2
      refine tgd d md x (sub H2 H1 B) H cB hxd _ fun σ2 w2 p2 => ⟨w2, ?_⟩
      refine cm_turn (b := f d) (d := g d) c e2 hD ?_ (fun Bi e => ht d md σ2 Bi ((le_sub b e2).trans e) (pu d σ2 _ _ e p2)) (fun fd Bi e => he d md fd σ2 Bi ((le_sub b e2).trans e) (pu d σ2 _ _ e p2)) fun H' c' => ?_
      · have z1 := List.length_filter_le f (ds.take i)
        have z2 := List.length_take_le i ds
        rw [List.length_map]
        have z3 : (ds.take i).length ≤ ds.length := by rw [List.length_take]; exact Nat.min_le_right _ _
        omega
      · rw [filt_snoc f g hd]
        exact c'
    · rw [DpAll.len hx, List.take_length] at c
      obtain ⟨acc, Bi, c1, c2, c3, c4, c5, c6, c7⟩ := c
      refine q _ H (e2.trans c5) (.lst (sq_of ?_) (dpa_up c7 c3))
      rw [sub_yes fun z => by rw [h1D] at z; exact Bool.false_ne_true z.1]
      exact c6
  refine ⟨a, rfl, ?_⟩
  rcases hs with hs | hs
  · exact .inl ⟨xs, ex_l sub_le hs, main _ (.inl ⟨rfl, fun H' e => ex_l e hs⟩)⟩
  · exact .inr ⟨xs, ex_t sub_le hs, main _ (.inr ⟨rfl, fun H' e => ex_t e hs⟩)⟩
end
end ZE

set_option Elab.async false
set_option linter.all false
set_option maxRecDepth 100000
namespace ZE
open PySem PySem.Spec PyProof.Rows L2 Evl
section
variable {K : PySem.W.Frag} {σ : L2.St} {B : Hp} {te tl tl1 : TE} {tt : TT} {D0 : PyData} {ds : List PyData} {G G1 : TG}
/-- an evaluation within a comprehension: its base moves on -/
theorem cm_move {H1 H2 H3 H4 Bi : Hp} {D : Addr} {ys : List PyData} {acc : List V} (h12 : Ex H1 H2) (c2 : Ex Bi H3) (c3 : Ex Bi (sub H3 H1 B)) (c4 : Bi D = none) (c5 : Ex H2 H3) (c6 : H3 D = some (.lst acc)) (c7 : DpAll K Bi acc ys) (e4 : Ex H3 H4) :
    Cm K H1 B (sub H4 H3 Bi) H2 D ys H4 := by
  refine ⟨acc, sub H4 H3 Bi, Ex.refl _, sub_le, fun a o z => ?_, sub_no ⟨by rw [c6]; rfl, c4⟩, c5.trans e4, e4 D _ c6, dpa_up c7 (le_sub c2 e4)⟩
  by_cases cc : (H1 a).isSome = true ∧ B a = none
  · exfalso
    have bn : Bi a = none := by
      cases q : Bi a with
      | none => rfl
      | some u =>
        have w := c3 a u q
        rw [sub_no cc] at w
        cases w
    obtain ⟨u, hu⟩ := Option.isSome_iff_exists.mp cc.1
    rw [sub_no ⟨by rw [c5 a u (h12 a u hu)]; rfl, bn⟩] at z
    cases z
  · rw [sub_yes cc]
    exact sub_le a o z
theorem wp_lc1 {a : Addr} {xs : List V} {J : It} (hJ : (J = Itl K a ∧ ∀ H', Ex B H' → SqL K H' a xs) ∨ (J = Itt K a ∧ ∀ H', Ex B H' → SqT K H' a xs)) {g : TG} {vs : List Nat} {H1 : Hp} {D : Addr} {Qd : Hp → Prop} (Pv : Nat → Hp → Prop) (h0 : Pv 0 H1) (hl : ∀ i H, Pv i H → Ex B H)
    (hs : ∀ i x H, xs[i]? = some x → Pv i H → g x (wipe σ vs) H fun σ2 H2 => wipe σ2 vs = wipe σ vs ∧ tt σ2 H2 fun b H3 =>
      if b = true then te σ2 H3 fun y H4 => ∃ acc, H4 D = some (.lst acc) ∧ acc.length < sizeLine ∧ Pv (i + 1) (upd H4 D (.lst (acc ++ [y]))) else Pv (i + 1) H3) (hd : ∀ H, Pv xs.length H → Qd H) :
    ∃ W : Nat → Nat → Hp → Prop, (∃ m, W 0 m H1) ∧ ∀ i m H, W i m H →
      (J.stop i H ∧ Qd H) ∨ (J.go i H ∧ ∃ Nx : Hp → Prop, (∀ H', Nx H' → ∃ m', m' < m ∧ W (i + 1) m' H') ∧ ∀ x H', J.yld i H x H' → g x (wipe σ vs) H' fun σ2 H2 => wipe σ2 vs = wipe σ vs ∧ tt σ2 H2 fun b H3 =>
        if b = true then te σ2 H3 fun y H4 => ∃ acc, H4 D = some (.lst acc) ∧ acc.length < sizeLine ∧ Nx (upd H4 D (.lst (acc ++ [y]))) else Nx H3) := by
  refine ⟨fun i m H => m = xs.length - i ∧ i ≤ xs.length ∧ Pv i H, ⟨xs.length, by simp, Nat.zero_le _, h0⟩, ?_⟩
  rintro i m H ⟨rfl, hi, p⟩
  by_cases lt : i < xs.length
  · refine .inr ⟨?_, Pv (i + 1), fun H' p' => ⟨xs.length - (i + 1), by omega, rfl, lt, p'⟩, fun x H' y => ?_⟩
    · rcases hJ with ⟨rfl, hJ⟩ | ⟨rfl, hJ⟩
      · exact ⟨xs, xs[i], hJ H (hl i H p), by simp [lt]⟩
      · exact ⟨xs, xs[i], hJ H (hl i H p), by simp [lt]⟩
    · rcases hJ with ⟨rfl, hJ⟩ | ⟨rfl, hJ⟩
      · obtain ⟨e, y⟩ := y
        subst e
        exact hs i x _ (y xs (hJ _ (hl i _ p))) p
      · obtain ⟨e, y⟩ := y
        subst e
        exact hs i x _ (y xs (hJ _ (hl i _ p))) p
  · have e : i = xs.length := by omega
    subst e
    refine .inl ⟨?_, hd H p⟩
    rcases hJ with ⟨rfl, hJ⟩ | ⟨rfl, hJ⟩
    · exact ⟨xs, hJ H (hl _ H p), Nat.le_refl _⟩
    · exact ⟨xs, hJ H (hl _ H p), Nat.le_refl _⟩
theorem flat_snoc {α β : Type} {l : List α} {i : Nat} {x : α} (h : α → List β) (e : l[i]? = some x) : (l.take (i + 1)).flatMap h = (l.take i).flatMap h ++ h x := by
  rw [List.take_succ, e, List.flatMap_append]
  rw [show (some x).toList = [x] from rfl, List.flatMap_singleton]
theorem yes_go {σ : L2.St} {H : Hp} {A C : Hp → Prop} (h : A H) : tYes σ H fun b H3 => if b = true then A H3 else C H3 := by
  show (if true = true then A H else C H)
  rw [if_pos rfl]
  exact h
/-- storing an item that stands in this base -/
def TgB (K : PySem.W.Frag) (G : TG) (vs : List Nat) (σ : L2.St) (B1 : Hp) (P : PyData → L2.St → Hp → Prop) (ds : List PyData) : Prop :=
  ∀ d ∈ ds, ∀ x H, Ex B1 H → Dp K B1 x d → ∀ Q : L2.St → Hp → Prop, (∀ σ2, wipe σ2 vs = wipe σ vs → P d σ2 B1 → Q σ2 H) → G x (wipe σ vs) H Q
/-- [e for target in seq for target1 in seq1 if test] -/
theorem ed_lc2 {P : PyData → L2.St → Hp → Prop} {P1 : PyData → PyData → L2.St → Hp → Prop} (D1 : PyData → PyData) (ds1 : PyData → List PyData) (f : PyData → PyData → Bool) (g : PyData → PyData → PyData) {vs vs1 : List Nat}
    (hl : EvD K tl σ B D0) (sq : Sq D0 ds) (few : ds.length < 200) (tgd : TgD K G vs σ P ds)
    (hl1 : ∀ d ∈ ds, ∀ σ2 B1, Ex B B1 → P d σ2 B1 → EvD K tl1 σ2 B1 (D1 d)) (sq1 : ∀ d ∈ ds, Sq (D1 d) (ds1 d)) (few1 : ∀ d ∈ ds, (ds1 d).length < 200)
    (tgd1 : ∀ d ∈ ds, ∀ σ2 B1, Ex B B1 → wipe σ2 vs = wipe σ vs → P d σ2 B1 → TgB K G1 vs1 σ2 B1 (P1 d) (ds1 d))
    (ht : ∀ d ∈ ds, ∀ d1 ∈ ds1 d, ∀ σ3 B1, Ex B B1 → P1 d d1 σ3 B1 → EvT tt σ3 B1 (f d d1)) (he : ∀ d ∈ ds, ∀ d1 ∈ ds1 d, f d d1 = true → ∀ σ3 B1, Ex B B1 → P1 d d1 σ3 B1 → EvD K te σ3 B1 (g d d1))
    (pu : ∀ d σ2 B1 B2, Ex B1 B2 → P d σ2 B1 → P d σ2 B2) (p1u : ∀ d d1 σ2 B1 B2, Ex B1 B2 → P1 d d1 σ2 B1 → P1 d d1 σ2 B2) :
    EvD K (tLc2 (iSq K tl) G tYes (iSq K tl1) G1 tt te vs vs1) σ B (.list (ds.flatMap fun d => ((ds1 d).filter (f d)).map (g d))) := fun H1 b Q q => hl H1 b _ fun v H2 e2 hv => by
  obtain ⟨a, xs, rfl, hs, hx⟩ := sq_split hv sq
  have bound : ∀ (l : List PyData), (∀ d ∈ l, d ∈ ds) → (l.flatMap fun d => ((ds1 d).filter (f d)).map (g d)).length ≤ l.length * 200 := by
    intro l
    induction l with
    | nil => exact fun _ => Nat.le_refl _
    | cons d l ih =>
      intro hl
      have z1 := ih fun d m => hl d (List.Mem.tail _ m)
      have z2 := few1 d (hl d (List.Mem.head _))
      have z3 := List.length_filter_le (f d) (ds1 d)
      rw [List.flatMap_cons, List.length_append, List.length_map, List.length_cons]
      omega
  have main : ∀ J : It, ((J = Itl K a ∧ ∀ H', Ex (sub H2 H1 B) H' → SqL K H' a xs) ∨ (J = Itt K a ∧ ∀ H', Ex (sub H2 H1 B) H' → SqT K H' a xs)) → ∀ D, H2 D = none → ∃ W : Nat → Nat → Hp → Prop, (∃ m, W 0 m (upd H2 D (.lst []))) ∧ ∀ i m H, W i m H →
      (J.stop i H ∧ Q (.ref D) H) ∨ (J.go i H ∧ ∃ Nx : Hp → Prop, (∀ H', Nx H' → ∃ m', m' < m ∧ W (i + 1) m' H') ∧ ∀ x H', J.yld i H x H' → G x (wipe σ vs) H' fun σ2 H2 => wipe σ2 vs = wipe σ vs ∧ tYes σ2 H2 fun b H3 =>
        if b = true then iSq K tl1 σ2 H3 fun J1 H4 => ∃ W1 : Nat → Nat → Hp → Prop, (∃ m, W1 0 m H4) ∧ ∀ j k H, W1 j k H →
          (J1.stop j H ∧ Nx H) ∨ (J1.go j H ∧ ∃ Nx1 : Hp → Prop, (∀ H', Nx1 H' → ∃ k', k' < k ∧ W1 (j + 1) k' H') ∧ ∀ x H', J1.yld j H x H' → G1 x (wipe σ2 vs1) H' fun σ3 H5 => wipe σ3 vs1 = wipe σ2 vs1 ∧ tt σ3 H5 fun b H6 =>
            if b = true then te σ3 H6 fun y H7 => ∃ acc, H7 D = some (.lst acc) ∧ acc.length < sizeLine ∧ Nx1 (upd H7 D (.lst (acc ++ [y]))) else Nx1 H6)
        else Nx H3) := by
    intro J hJ D hD
    have h1D : H1 D = none := fresh_back e2 hD
    have dB : sub H2 H1 B D = none := by
      rw [sub_yes fun z => by rw [h1D] at z; exact Bool.false_ne_true z.1]
      exact hD
    refine ⟨fun i m H => m = xs.length - i ∧ i ≤ xs.length ∧ Cm K H1 B (sub H2 H1 B) H2 D ((ds.take i).flatMap fun d => ((ds1 d).filter (f d)).map (g d)) H, ⟨xs.length, by simp, Nat.zero_le _, ?_⟩, ?_⟩
    · have e3 : Ex H2 (upd H2 D (.lst [])) := Ex.new hD
      exact ⟨[], sub H2 H1 B, Ex.refl _, sub_le.trans e3, sub_mono e3, dB, e3, upd_same, .nil⟩
    · rintro i m H ⟨rfl, hi, c⟩
      have cB : Ex (sub H2 H1 B) H := by
        obtain ⟨acc, Bi, c1, c2, _⟩ := c
        exact c1.trans c2
      by_cases lt : i < xs.length
      · refine .inr ⟨?_, fun H' => Cm K H1 B (sub H2 H1 B) H2 D ((ds.take (i + 1)).flatMap fun d => ((ds1 d).filter (f d)).map (g d)) H', fun H' p' => ⟨xs.length - (i + 1), by omega, rfl, lt, p'⟩, fun x H' y => ?_⟩
        · rcases hJ with ⟨rfl, hJ⟩ | ⟨rfl, hJ⟩
          · exact ⟨xs, xs[i], hJ H cB, by simp [lt]⟩
          · exact ⟨xs, xs[i], hJ H cB, by simp [lt]⟩
        · obtain ⟨rfl, hxi⟩ : H' = H ∧ xs[i]? = some x := by
            rcases hJ with ⟨rfl, hJ⟩ | ⟨rfl, hJ⟩
            · obtain ⟨e, y⟩ := y
              exact ⟨e, y xs (hJ H cB)⟩
            · obtain ⟨e, y⟩ := y
              exact ⟨e, y xs (hJ H cB)⟩
          obtain ⟨d, hd, hxd⟩ := DpAll.get' hx hxi
          have md : d ∈ ds := List.mem_of_getElem? hd
          refine tgd d md x (sub H2 H1 B) H' cB hxd _ fun σ2 w2 p2 => ⟨w2, ?_⟩
          refine yes_go ?_
          obtain ⟨acc, Bi, c1, c2, c3, c4, c5, c6, c7⟩ := c
          have bBi : Ex B Bi := (le_sub b e2).trans c1
          refine hl1 d md σ2 Bi bBi (pu d σ2 _ _ c1 p2) H' c2 _ fun v1 H4 e4 hv1 => ?_
          obtain ⟨a1, xs1, rfl, hs1, hx1⟩ := sq_split hv1 (sq1 d md)
          have cm0 := cm_move (ys := (ds.take i).flatMap fun d => ((ds1 d).filter (f d)).map (g d)) (B := B) e2 c2 c3 c4 c5 c6 c7 e4
          have bB4 : Ex B (sub H4 H' Bi) := bBi.trans (le_sub c2 e4)
          have go : ∀ J1 : It, ((J1 = Itl K a1 ∧ ∀ Hn, Ex (sub H4 H' Bi) Hn → SqL K Hn a1 xs1) ∨ (J1 = Itt K a1 ∧ ∀ Hn, Ex (sub H4 H' Bi) Hn → SqT K Hn a1 xs1)) → ∃ W1 : Nat → Nat → Hp → Prop, (∃ m, W1 0 m H4) ∧ ∀ j k H, W1 j k H →
              (J1.stop j H ∧ Cm K H1 B (sub H2 H1 B) H2 D ((ds.take (i + 1)).flatMap fun d => ((ds1 d).filter (f d)).map (g d)) H) ∨ (J1.go j H ∧ ∃ Nx1 : Hp → Prop, (∀ H', Nx1 H' → ∃ k', k' < k ∧ W1 (j + 1) k' H') ∧ ∀ x H', J1.yld j H x H' → G1 x (wipe σ2 vs1) H' fun σ3 H5 => wipe σ3 vs1 = wipe σ2 vs1 ∧ tt σ3 H5 fun b H6 =>
                if b = true then te σ3 H6 fun y H7 => ∃ acc, H7 D = some (.lst acc) ∧ acc.length < sizeLine ∧ Nx1 (upd H7 D (.lst (acc ++ [y]))) else Nx1 H6) := by
            intro J1 hJ1
            refine wp_lc1 (σ := σ2) (B := sub H4 H' Bi) hJ1 (fun j H => Cm K H1 B (sub H4 H' Bi) H2 D (((ds.take i).flatMap fun d => ((ds1 d).filter (f d)).map (g d)) ++ (((ds1 d).take j).filter (f d)).map (g d)) H) ?_ (fun j H c => ?_) (fun j x1 H hj c => ?_) fun H c => ?_
            · rw [List.take_zero]
              rw [show (([] : List PyData).filter (f d)).map (g d) = [] from rfl, List.append_nil]
              exact cm0
            · obtain ⟨_, Bj, k1, k2, _⟩ := c
              exact k1.trans k2
            · obtain ⟨d1, hd1, hx1d⟩ := DpAll.get' hx1 hj
              have md1 : d1 ∈ ds1 d := List.mem_of_getElem? hd1
              have cB1 : Ex (sub H4 H' Bi) H := by
                obtain ⟨_, Bj, k1, k2, _⟩ := c
                exact k1.trans k2
              refine tgd1 d md σ2 (sub H4 H' Bi) bB4 w2 (pu d σ2 _ _ (c1.trans (le_sub c2 e4)) p2) d1 md1 x1 H cB1 hx1d _ fun σ3 w3 p3 => ⟨w3, ?_⟩
              refine cm_turn (b := f d d1) (d := g d d1) c e2 hD ?_ (fun Bj e => ht d md d1 md1 σ3 Bj (bB4.trans e) (p1u d d1 σ3 _ _ e p3)) (fun fd Bj e => he d md d1 md1 fd σ3 Bj (bB4.trans e) (p1u d d1 σ3 _ _ e p3)) fun Hn c' => ?_
              · have z1 := bound (ds.take i) fun d m => List.mem_of_mem_take m
                have z2 : (ds.take i).length ≤ ds.length := by rw [List.length_take]; exact Nat.min_le_right _ _
                have z3 := List.length_filter_le (f d) ((ds1 d).take j)
                have z4 : ((ds1 d).take j).length ≤ (ds1 d).length := by rw [List.length_take]; exact Nat.min_le_right _ _
                have z5 := few1 d md
                rw [List.length_append, List.length_map]
                omega
              · rw [filt_snoc (f d) (g d) hd1]
                cases hf : f d d1 with
                | true =>
                  rw [hf, if_pos rfl] at c'
                  rw [if_pos rfl, ← List.append_assoc]
                  exact c'
                | false =>
                  rw [hf, if_neg Bool.false_ne_true] at c'
                  rw [if_neg Bool.false_ne_true]
                  exact c'
            · rw [DpAll.len hx1, List.take_length] at c
              rw [flat_snoc _ hd]
              obtain ⟨acc2, Bj, k1, k2, k3, k4, k5, k6, k7⟩ := c
              exact ⟨acc2, Bj, (c1.trans (le_sub c2 e4)).trans k1, k2, k3, k4, k5, k6, k7⟩
          refine ⟨a1, rfl, ?_⟩
          rcases hs1 with hs1 | hs1
          · exact .inl ⟨xs1, ex_l sub_le hs1, go _ (.inl ⟨rfl, fun H' e => ex_l e hs1⟩)⟩
          · exact .inr ⟨xs1, ex_t sub_le hs1, go _ (.inr ⟨rfl, fun H' e => ex_t e hs1⟩)⟩
      · have e : i = xs.length := by omega
        subst e
        refine .inl ⟨?_, ?_⟩
        · rcases hJ with ⟨rfl, hJ⟩ | ⟨rfl, hJ⟩
          · exact ⟨xs, hJ H cB, Nat.le_refl _⟩
          · exact ⟨xs, hJ H cB, Nat.le_refl _⟩
        · rw [DpAll.len hx, List.take_length] at c
          obtain ⟨acc, Bi, c1, c2, c3, c4, c5, c6, c7⟩ := c
          refine q _ H (e2.trans c5) (.lst (sq_of ?_) (dpa_up c7 c3))
          rw [sub_yes fun z => by rw [h1D] at z; exact Bool.false_ne_true z.1]
          exact c6
  refine ⟨a, rfl, ?_⟩
  rcases hs with hs | hs
  · exact .inl ⟨xs, ex_l sub_le hs, main _ (.inl ⟨rfl, fun H' e => ex_l e hs⟩)⟩
  · exact .inr ⟨xs, ex_t sub_le hs, main _ (.inr ⟨rfl, fun H' e => ex_t e hs⟩)⟩
end
end ZE

set_option Elab.async false
set_option linter.all false
set_option maxRecDepth 100000
/-! Operators and built-ins by data. -/
namespace ZE
open PySem PySem.Spec PyProof.Rows L2 Evl
/-! ### texts, None, and lists and tuples of such: equal exactly if the same -/
def txN : Nat → PyData → Bool
  | _, .str x => PyData.strOk x
  | _, .none => true
  | n + 1, .list ds => ds.all (txN n)
  | n + 1, .tuple ds => ds.all (txN n)
  | _, _ => false
theorem lay_all : ∀ (ds : List PyData), (∀ d ∈ ds, d.canLay0 = true) → PyData.canLayAll0 ds = true
  | [], _ => by simp only [PyData.canLayAll0]
  | d :: ds, h => by
    simp only [PyData.canLayAll0]
    rw [h d (List.Mem.head _), lay_all ds fun e m => h e (List.Mem.tail _ m)]
    rfl
theorem depth_all : ∀ (ds : List PyData) (n : Nat), (∀ d ∈ ds, d.depth ≤ n) → PyData.depthAll ds ≤ n
  | [], _, _ => by simp [PyData.depthAll]
  | d :: ds, n, h => by
    have h1 := h d (List.Mem.head _)
    have h2 := depth_all ds n fun e m => h e (List.Mem.tail _ m)
    simp only [PyData.depthAll]
    omega
theorem txN_lay : ∀ (n : Nat) (d : PyData), txN n d = true → d.canLay0 = true ∧ d.depth ≤ n
  | 0, .str x, h => ⟨by simpa [PyData.canLay0, txN] using h, by simp [PyData.depth]⟩
  | n + 1, .str x, h => ⟨by simpa [PyData.canLay0, txN] using h, by simp [PyData.depth]⟩
  | 0, .none, _ => ⟨by simp [PyData.canLay0], by simp [PyData.depth]⟩
  | n + 1, .none, _ => ⟨by simp [PyData.canLay0], by simp [PyData.depth]⟩
  | n + 1, .list ds, h => by
    have h' : ∀ d ∈ ds, txN n d = true := by simpa [txN] using h
    exact ⟨by simp only [PyData.canLay0]; exact lay_all ds fun d m => (txN_lay n d (h' d m)).1, by
      have := depth_all ds n fun d m => (txN_lay n d (h' d m)).2
      simp only [PyData.depth]; omega⟩
  | n + 1, .tuple ds, h => by
    have h' : ∀ d ∈ ds, txN n d = true := by simpa [txN] using h
    exact ⟨by simp only [PyData.canLay0]; exact lay_all ds fun d m => (txN_lay n d (h' d m)).1, by
      have := depth_all ds n fun d m => (txN_lay n d (h' d m)).2
      simp only [PyData.depth]; omega⟩
theorem txN_shaped {n : Nat} {d : PyData} (h : txN n d = true) (hn : n ≤ 64) : SeqAt.shaped d = true := by
  have z := txN_lay n d h
  unfold SeqAt.shaped
  rw [z.1, Bool.true_and]
  exact decide_eq_true (Nat.le_trans z.2 hn)
mutual
theorem txN_eqv : ∀ (n m : Nat) (d e : PyData), txN n d = true → txN m e = true → PyData.eqv d e = true → d = e
  | _, _, .str x, .str y, _, _, q => by
    have : x = y := by simpa [PyData.eqv] using q
    rw [this]
  | _, _, .none, .none, _, _, _ => rfl
  | n + 1, m + 1, .list ds, .list es, h, h', q => by
    have h1 : ∀ d ∈ ds, txN n d = true := by simpa [txN] using h
    have h2 : ∀ d ∈ es, txN m d = true := by simpa [txN] using h'
    rw [txN_eqvAll n m ds es h1 h2 (by simpa [PyData.eqv] using q)]
  | n + 1, m + 1, .tuple ds, .tuple es, h, h', q => by
    have h1 : ∀ d ∈ ds, txN n d = true := by simpa [txN] using h
    have h2 : ∀ d ∈ es, txN m d = true := by simpa [txN] using h'
    rw [txN_eqvAll n m ds es h1 h2 (by simpa [PyData.eqv] using q)]
  | _, _, .str x, .none, _, _, q | _, _, .str x, .list _, _, _, q | _, _, .str x, .tuple _, _, _, q | _, _, .str x, .int _, _, _, q | _, _, .str x, .bool _, _, _, q | _, _, .str x, .dict _, _, _, q => by simp [PyData.eqv] at q
  | _, _, .none, .str x, _, _, q | _, _, .none, .list _, _, _, q | _, _, .none, .tuple _, _, _, q | _, _, .none, .int _, _, _, q | _, _, .none, .bool _, _, _, q | _, _, .none, .dict _, _, _, q => by simp [PyData.eqv] at q
  | _, _, .list _, .none, _, _, q | _, _, .list _, .str _, _, _, q | _, _, .list _, .tuple _, _, _, q | _, _, .list _, .int _, _, _, q | _, _, .list _, .bool _, _, _, q | _, _, .list _, .dict _, _, _, q => by simp [PyData.eqv] at q
  | _, _, .tuple _, .none, _, _, q | _, _, .tuple _, .str _, _, _, q | _, _, .tuple _, .list _, _, _, q | _, _, .tuple _, .int _, _, _, q | _, _, .tuple _, .bool _, _, _, q | _, _, .tuple _, .dict _, _, _, q => by simp [PyData.eqv] at q
  | 0, _, .list _, _, h, _, _ | 0, _, .tuple _, _, h, _, _ => by simp [txN] at h
  | _, 0, .list _, .list _, _, h, _ | _, 0, .tuple _, .tuple _, _, h, _ => by simp [txN] at h
  | n, _, .int _, _, h, _, _ | n, _, .bool _, _, h, _, _ | n, _, .dict _, _, h, _, _ => by cases n <;> simp [txN] at h
theorem txN_eqvAll : ∀ (n m : Nat) (ds es : List PyData), (∀ d ∈ ds, txN n d = true) → (∀ d ∈ es, txN m d = true) → PyData.eqvAll ds es = true → ds = es
  | _, _, [], [], _, _, _ => rfl
  | _, _, [], _ :: _, _, _, q => by simp [PyData.eqvAll] at q
  | _, _, _ :: _, [], _, _, q => by simp [PyData.eqvAll] at q
  | n, m, d :: ds, e :: es, h, h', q => by
    have q' : PyData.eqv d e = true ∧ PyData.eqvAll ds es = true := by simpa [PyData.eqvAll] using q
    rw [txN_eqv n m d e (h d (List.Mem.head _)) (h' e (List.Mem.head _)) q'.1, txN_eqvAll n m ds es (fun d m => h d (List.Mem.tail _ m)) (fun d m => h' d (List.Mem.tail _ m)) q'.2]
end
theorem eqv_iff {n m : Nat} {d e : PyData} (h : txN n d = true) (h' : txN m e = true) : PyData.eqv d e = true ↔ d = e :=
  ⟨txN_eqv n m d e h h', fun q => by rw [q]; exact SeqAt.eqv_refl e (txN_lay m e h').1⟩
theorem eqv_dec {n m : Nat} {d e : PyData} (h : txN n d = true) (h' : txN m e = true) {p : Prop} [Decidable p] (hp : d = e ↔ p) : PyData.eqv d e = decide p := by
  have z := (eqv_iff h h').trans hp
  by_cases c : p
  · rw [z.mpr c, decide_eq_true c]
  · rw [decide_eq_false c]
    cases q : PyData.eqv d e with
    | false => rfl
    | true => exact absurd (z.mp q) c
/-! ### texts and tuples of texts -/
def tp (xs : List Str) : PyData := .tuple (xs.map .str)
theorem str_inj {x y : Str} (h : PyData.str x = PyData.str y) : x = y := by cases h; rfl
theorem strs_inj : ∀ {xs ys : List Str}, xs.map PyData.str = ys.map PyData.str → xs = ys
  | [], [], _ => rfl
  | [], _ :: _, h => by cases h
  | _ :: _, [], h => by cases h
  | x :: xs, y :: ys, h => by
    have h' := List.cons.inj h
    rw [str_inj h'.1, strs_inj h'.2]
theorem tp_inj {xs ys : List Str} (h : tp xs = tp ys) : xs = ys := strs_inj (by injection h)
theorem tps_inj : ∀ {xs ys : List (List Str)}, xs.map tp = ys.map tp → xs = ys
  | [], [], _ => rfl
  | [], _ :: _, h => by cases h
  | _ :: _, [], h => by cases h
  | x :: xs, y :: ys, h => by
    have h' := List.cons.inj h
    rw [tp_inj h'.1, tps_inj h'.2]
def Oks (xs : List Str) : Prop := ∀ x ∈ xs, PyData.strOk x = true
theorem tx_strs {xs : List Str} (h : Oks xs) (n : Nat) : ∀ d ∈ xs.map PyData.str, txN n d = true := fun d m => by
  obtain ⟨x, hx, rfl⟩ := List.mem_map.mp m
  cases n <;> exact h x hx
theorem tx_tp {xs : List Str} (h : Oks xs) : txN 1 (tp xs) = true := by
  show (xs.map PyData.str).all (txN 0) = true
  rw [List.all_eq_true]
  exact tx_strs h 0
theorem tx_tps {n : Nat} {xss : List (List Str)} (h : ∀ xs ∈ xss, Oks xs) : ∀ d ∈ xss.map tp, txN (n + 1) d = true := fun d m => by
  obtain ⟨xs, hx, rfl⟩ := List.mem_map.mp m
  show (xs.map PyData.str).all (txN n) = true
  rw [List.all_eq_true]
  exact tx_strs (h xs hx) n
theorem tx_lst {n : Nat} {ds : List PyData} (h : ∀ d ∈ ds, txN n d = true) : txN (n + 1) (.list ds) = true := by
  show ds.all (txN n) = true
  rw [List.all_eq_true]
  exact h
theorem tx_tup {n : Nat} {ds : List PyData} (h : ∀ d ∈ ds, txN n d = true) : txN (n + 1) (.tuple ds) = true := by
  show ds.all (txN n) = true
  rw [List.all_eq_true]
  exact h
/-! ### operators -/
section
variable {X : Cx} {K : PySem.W.Frag} {d1 d2 d : PyData} {ds es : List PyData}
theorem rv_eq (h1 : SeqAt.shaped d1 = true) (h2 : SeqAt.shaped d2 = true) : RvD K (rEqD K) d1 d2 (.bool (PyData.eqv d1 d2)) := rv_sc (fun _ => .bl _) fun H x y hx hy Q q => ⟨d1, d2, hx, hy, h1, h2, q⟩
theorem rv_ne (h1 : SeqAt.shaped d1 = true) (h2 : SeqAt.shaped d2 = true) : RvD K (rNeD K) d1 d2 (.bool (!PyData.eqv d1 d2)) := rv_sc (fun _ => .bl _) fun H x y hx hy Q q => ⟨d1, d2, hx, hy, h1, h2, q⟩
/-- x in y, y a list or a tuple of data -/
def rInS (K : PySem.W.Frag) : R2 := fun x y H Q => ∃ d D ds, Dp K H x d ∧ Dp K H y D ∧ Sq D ds ∧ SeqAt.shaped d = true ∧ SeqAt.shaped D = true ∧ Q (.bl (ds.any fun z => PyData.eqv z d)) H
def rNotInS (K : PySem.W.Frag) : R2 := fun x y H Q => ∃ d D ds, Dp K H x d ∧ Dp K H y D ∧ Sq D ds ∧ SeqAt.shaped d = true ∧ SeqAt.shaped D = true ∧ Q (.bl (!ds.any fun z => PyData.eqv z d)) H
theorem lay_in {D : PyData} (s : Sq D ds) (h : SeqAt.shaped D = true) : PyData.canLayAll0 ds = true := by
  have := SeqAt.canLay_of_shaped h
  rcases s with rfl | rfl
  · simpa [PyData.canLay0] using this
  · simpa [PyData.canLay0] using this
theorem op_inS (hu : X.A.units + 65 < cLine) : OpR X (compareOp .In) (rInS X.K) := by
  intro pins s σ H x y v u Q I rx ry h
  obtain ⟨d, D, ds, hd, he, sq, sd, se, q⟩ := h
  obtain ⟨as, r1⟩ := Dp.reads I d x v hd rx
  obtain ⟨bs, r2⟩ := Dp.reads I D y u he ry
  have z := lay_in sq se
  rcases sq with rfl | rfl
  · exact SeqAt.in_list_reads r2 r1 z (SeqAt.canLay_of_shaped sd) (room_in_shaped sd hu) ⟨.bl _, H, I, rfl, q⟩
  · exact SeqAt.in_tuple_reads r2 r1 z (SeqAt.canLay_of_shaped sd) (room_in_shaped sd hu) ⟨.bl _, H, I, rfl, q⟩
theorem op_notInS (hu : X.A.units + 65 < cLine) : OpR X (compareOp .NotIn) (rNotInS X.K) := by
  intro pins s σ H x y v u Q I rx ry h
  obtain ⟨d, D, ds, hd, he, sq, sd, se, q⟩ := h
  obtain ⟨as, r1⟩ := Dp.reads I d x v hd rx
  obtain ⟨bs, r2⟩ := Dp.reads I D y u he ry
  have z := lay_in sq se
  rcases sq with rfl | rfl
  · exact SeqAt.notIn_list_reads r2 r1 z (SeqAt.canLay_of_shaped sd) (room_in_shaped sd hu) ⟨.bl _, H, I, rfl, q⟩
  · exact SeqAt.notIn_tuple_reads r2 r1 z (SeqAt.canLay_of_shaped sd) (room_in_shaped sd hu) ⟨.bl _, H, I, rfl, q⟩
theorem rv_in {D : PyData} (s : Sq D ds) (h1 : SeqAt.shaped d = true) (h2 : SeqAt.shaped D = true) : RvD K (rInS K) d D (.bool (ds.any fun z => PyData.eqv z d)) := rv_sc (fun _ => .bl _) fun H x y hx hy Q q => ⟨d, D, ds, hx, hy, s, h1, h2, q⟩
theorem rv_notIn {D : PyData} (s : Sq D ds) (h1 : SeqAt.shaped d = true) (h2 : SeqAt.shaped D = true) : RvD K (rNotInS K) d D (.bool (!ds.any fun z => PyData.eqv z d)) := rv_sc (fun _ => .bl _) fun H x y hx hy Q q => ⟨d, D, ds, hx, hy, s, h1, h2, q⟩
/-- x <= y, data of one kind -/
def rLeD (K : PySem.W.Frag) : R2 := fun x y H Q => ∃ d e, Dp K H x d ∧ Dp K H y e ∧ PySem.W.alike d e = true ∧ d ≠ .none ∧ d.depth ≤ 64 ∧ Q (.bl (!PySem.W.dataLt e d)) H
theorem op_leD (hu : X.A.units + 64 < cLine) : OpR X (compareOp .LtE) (rLeD X.K) := by
  intro pins s σ H x y v u Q I rx ry h
  obtain ⟨d, e, hd, he, al, nn, dl, q⟩ := h
  obtain ⟨as, r1⟩ := Dp.reads I d x v hd rx
  obtain ⟨bs, r2⟩ := Dp.reads I e y u he ry
  exact PySem.W.le_data r1 r2 al nn (by have := Nat.min_le_left d.depth e.depth; omega) ⟨.bl _, H, I, rfl, q⟩
theorem rv_le (al : PySem.W.alike d1 d2 = true) (nn : d1 ≠ .none) (dl : d1.depth ≤ 64) : RvD K (rLeD K) d1 d2 (.bool (!PySem.W.dataLt d2 d1)) := rv_sc (fun _ => .bl _) fun H x y hx hy Q q => ⟨d1, d2, hx, hy, al, nn, dl, q⟩
/-- list + list, wherever they stand -/
def rCatL (K : PySem.W.Frag) : R2 := fun x y H Q => ∃ l b xs zs, x = .ref l ∧ y = .ref b ∧ SqL K H l xs ∧ SqL K H b zs ∧ xs.length + zs.length ≤ sizeLine ∧ ∀ p, H p = none → Q (.ref p) (upd H p (.lst (xs ++ zs)))
theorem op_catL : OpR X (binaryOp .Add) (rCatL X.K) := by
  intro pins s σ H x y v u Q I rx ry h
  obtain ⟨l, b, xs, zs, rfl, rfl, hH, hB, hz, q⟩ := h
  cases rx
  cases ry
  obtain ⟨its, r, e, hl⟩ := I.list hH
  obtain ⟨its2, r2, e2, hl2⟩ := I.list hB
  obtain ⟨⟨cls, dd, data, sl⟩, ho, hc, n, hd⟩ := id e.isList
  obtain ⟨⟨cls2, dd2, data2, sl2⟩, ho2, hc2, n2, hd2⟩ := id e2.isList
  simp only at hc hd hc2 hd2
  subst hc hd hc2 hd2
  have ea : its.toArray ++ its2.toArray = (its ++ its2).toArray := by simp
  have z1 := r.length
  have z2 := r2.length
  refine concat_meets ⟨_, ho, rfl⟩ ⟨_, ho2, rfl⟩ noFill_list_add seq_list_add PySem.F.slot_list_add PySem.F.entry_list_add (PySem.F.args_list_add_2 _ _) (list_addW l b its.toArray its2.toArray n n2 dd dd2 sl sl2 (by simp; omega)) ⟨ho, ho2, ?_⟩
  rw [ea]
  exact ⟨.ref _, _, I.lnew (t' := s.toks) (r.append r2) (by rw [List.length_append]; omega), rfl, q _ I.fresh⟩
theorem rv_catL (hl : ds.length + es.length ≤ 100000) : RvD K (rCatL K) (.list ds) (.list es) (.list (ds ++ es)) := fun B H1 x y b hx hy Q q => by
  cases hx with
  | lst hs ha =>
    cases hy with
    | lst hs2 ha2 =>
      exact ⟨_, _, _, _, rfl, rfl, ex_l b hs, ex_l b hs2, by rw [DpAll.len ha, DpAll.len ha2]; exact sz_of hl, fun p hp => q _ _ (Ex.new hp) (.lst (sq_of (new_at hp)) (DpAll.app (dpa_up ha (le_sub b (Ex.new hp))) (dpa_up ha2 (le_sub b (Ex.new hp)))))⟩
theorem rv_catT (hl : ds.length + es.length ≤ 100000) : RvD K (rCatA K) (.tuple ds) (.tuple es) (.tuple (ds ++ es)) := fun B H1 x y b hx hy Q q => by
  cases hx with
  | tup hs ha =>
    cases hy with
    | tup hs2 ha2 =>
      refine ⟨_, _, _, _, rfl, rfl, ex_t b hs, ex_t b hs2, by rw [DpAll.len ha, DpAll.len ha2]; exact sz_of hl, fun e => ?_, fun _ e => ?_, fun _ _ p hp => ?_⟩
      · subst e
        cases ha
        exact q _ _ (Ex.refl _) (.tup (ex_t (le_sub b (Ex.refl _)) hs2) (dpa_up ha2 (le_sub b (Ex.refl _))))
      · subst e
        cases ha2
        exact q _ _ (Ex.refl _) (.tup (ex_t (le_sub b (Ex.refl _)) hs) (dpa_up (by rw [List.append_nil]; exact ha) (le_sub b (Ex.refl _))))
      · exact q _ _ (Ex.new hp) (.tup (st_of (new_at hp)) (DpAll.app (dpa_up ha (le_sub b (Ex.new hp))) (dpa_up ha2 (le_sub b (Ex.new hp)))))
/-! whole numbers -/
theorem rv_int {g : Int → Int → V} {i j : Int} (hg : ∀ H, Dp K H (g i j) d) : RvD K (rI0 g) (.int i) (.int j) d := rv_sc hg fun H x y hx hy Q q => by
  cases hx
  cases hy
  exact ⟨i, j, rfl, rfl, q⟩
/-! x[i] -/
theorem rv_ix {D : PyData} (s : Sq D ds) {i : Int} (h : atI ds i = some d) : RvD K (rIx K) D (.int i) d := fun B H1 x y b hx hy Q q => by
  cases hy
  obtain ⟨a, xs, rfl, hs, ha⟩ := sq_split hx s
  have hl := DpAll.len ha
  have : ∃ v, atI xs i = some v ∧ Dp K B v d := by
    unfold atI at h ⊢
    rw [hl]
    cases e : ixN ds.length i with
    | none => rw [e] at h; cases h
    | some j =>
      rw [e] at h
      exact DpAll.get ha h
  obtain ⟨v, hv, hd⟩ := this
  have hd' := dp_up hd (le_sub b (Ex.refl H1))
  rcases hs with hs | hs
  · exact .inl ⟨a, xs, i, v, rfl, rfl, ex_l b hs, hv, q v H1 (Ex.refl H1) hd'⟩
  · exact .inr (.inl ⟨a, xs, i, v, rfl, rfl, ex_t b hs, hv, q v H1 (Ex.refl H1) hd'⟩)
/-! ### built-ins -/
theorem one {vs : List V} {H : Hp} (h : DpAll K H vs [d]) : ∃ v, vs = [v] ∧ Dp K H v d := by
  cases h with
  | cons h1 t =>
    cases t
    exact ⟨_, rfl, h1⟩
theorem two {vs : List V} {H : Hp} (h : DpAll K H vs [d1, d2]) : ∃ v u, vs = [v, u] ∧ Dp K H v d1 ∧ Dp K H u d2 := by
  cases h with
  | cons h1 t =>
    obtain ⟨u, rfl, h2⟩ := one t
    exact ⟨_, _, rfl, h1, h2⟩
theorem rc_len {D : PyData} (s : Sq D ds) : RcD K (fun xs H Q => ∃ p ys, xs = [.ref p] ∧ (SqL K H p ys ∨ SqT K H p ys) ∧ Q (.int ys.length) H) [D] (.int ds.length) := rc_sc (fun _ => .int _) fun H vs hv Q q => by
  obtain ⟨v, rfl, h⟩ := one hv
  obtain ⟨a, xs, rfl, hs, ha⟩ := sq_split h s
  exact ⟨a, xs, rfl, hs, by rw [DpAll.len ha]; exact q⟩
theorem rc_list {D : PyData} (s : Sq D ds) : RcD K (fun xs H Q => ∃ p ys, xs = [.ref p] ∧ (SqL K H p ys ∨ SqT K H p ys) ∧ ∀ l, H l = none → Q (.ref l) (upd H l (.lst ys))) [D] (.list ds) := fun B H1 vs b hv Q q => by
  obtain ⟨v, rfl, h⟩ := one hv
  obtain ⟨a, xs, rfl, hs, ha⟩ := sq_split h s
  refine ⟨a, xs, rfl, hs.imp (ex_l b) (ex_t b), fun l hl => q _ _ (Ex.new hl) (.lst (sq_of (new_at hl)) (dpa_up ha (le_sub b (Ex.new hl))))⟩
theorem rc_tuple {D : PyData} (s : Sq D ds) : RcD K (fun xs H Q => ∃ p ys, xs = [.ref p] ∧ ((SqL K H p ys ∧ ∀ l, H l = none → Q (.ref l) (upd H l (.tup ys))) ∨ (SqT K H p ys ∧ Q (.ref p) H))) [D] (.tuple ds) := fun B H1 vs b hv Q q => by
  obtain ⟨v, rfl, h⟩ := one hv
  obtain ⟨a, xs, rfl, hs, ha⟩ := sq_split h s
  refine ⟨a, xs, rfl, ?_⟩
  rcases hs with hs | hs
  · exact .inl ⟨ex_l b hs, fun l hl => q _ _ (Ex.new hl) (.tup (st_of (new_at hl)) (dpa_up ha (le_sub b (Ex.new hl))))⟩
  · exact .inr ⟨ex_t b hs, q _ _ (Ex.refl _) (.tup (ex_t (le_sub b (Ex.refl _)) hs) (dpa_up ha (le_sub b (Ex.refl _))))⟩
theorem bools_dpa {H : Hp} : ∀ {bs : List Bool} {vs : List V}, DpAll K H vs (bs.map PyData.bool) → vs = bs.map V.bl
  | [], _, .nil => rfl
  | x :: xs, _, .cons h t => by
    cases h
    rw [bools_dpa t]
    rfl
theorem rc_all {bs : List Bool} : RcD K (rAll K) [.list (bs.map .bool)] (.bool (bs.all id)) := rc_sc (fun _ => .bl _) fun H vs hv Q q => by
  obtain ⟨v, rfl, h⟩ := one hv
  cases h with
  | lst hs ha =>
    obtain rfl := bools_dpa ha
    exact ⟨_, bs, rfl, hs, q⟩
theorem rc_any {bs : List Bool} : RcD K (rAny K) [.list (bs.map .bool)] (.bool (bs.any id)) := rc_sc (fun _ => .bl _) fun H vs hv Q q => by
  obtain ⟨v, rfl, h⟩ := one hv
  cases h with
  | lst hs ha =>
    obtain rfl := bools_dpa ha
    exact ⟨_, bs, rfl, hs, q⟩
end
end ZE

set_option Elab.async false
set_option linter.all false
set_option maxRecDepth 100000
/-! Within a def: from its own heap H0 with the base B0, of which Hk stays; objects of its own that still change. -/
namespace ZE
open PySem PySem.Spec PyProof.Rows L2 Evl
structure At (Hk B0 H0 B H : Hp) : Prop where
  wk : Wk B0 H0 B H
  ex : Ex Hk H
  dm : ∀ a, (H0 a).isSome = true → (H a).isSome = true
section
variable {K : PySem.W.Frag} {Hk B0 H0 B B2 H H2 H3 : Hp} {l p : Addr} {o : HO} {v : V} {d : PyData} {ds : List PyData}
theorem isSome_up (e : Ex H H2) {a : Addr} (h : (H a).isSome = true) : (H2 a).isSome = true := by
  obtain ⟨u, hu⟩ := Option.isSome_iff_exists.mp h
  rw [e a u hu]
  rfl
theorem At.start (b : Ex B0 H0) (k : Ex Hk H0) : At Hk B0 H0 B0 H0 := ⟨.refl b, k, fun _ h => h⟩
theorem At.b (a : At Hk B0 H0 B H) : Ex B H := a.wk.bh
theorem At.next (a : At Hk B0 H0 B H) (e : Ex H H2) : At Hk B0 H0 (sub H2 H B) H2 := ⟨a.wk.next a.dm e, a.ex.trans e, fun x h => isSome_up e (a.dm x h)⟩
/-- the heap grows, the base stays -/
theorem At.grow (a : At Hk B0 H0 B H) (e : Ex H H2) : At Hk B0 H0 B H2 := ⟨⟨a.wk.bb, a.wk.bh.trans e, a.wk.ap⟩, a.ex.trans e, fun x h => isSome_up e (a.dm x h)⟩
theorem At.new (a : At Hk B0 H0 B H) (hp : H p = none) : At Hk B0 H0 B (upd H p o) := a.grow (Ex.new hp)
theorem At.fresh (a : At Hk B0 H0 B H) (hp : H p = none) : H0 p = none := by
  cases h : H0 p with
  | none => rfl
  | some u =>
    have := a.dm p (by rw [h]; rfl)
    rw [hp] at this
    cases this
/-- an object of one's own changes -/
theorem At.mut (a : At Hk B0 H0 B H) (hb : B l = none) (hk : Hk l = none) (hs : (H l).isSome = true) : At Hk B0 H0 B (upd H l o) := by
  refine ⟨⟨a.wk.bb, Ex.mut a.wk.bh hb, a.wk.ap⟩, Ex.mut a.ex hk, fun x h => ?_⟩
  by_cases e : x = l
  · rw [e, upd_same]
    rfl
  · rw [upd_ne e]
    exact a.dm x h
theorem At.out (a : At Hk B0 H0 B H) (e : Ex H H2) (h : Dp K (sub H2 H B) v d) : Dp K (sub H2 H0 B0) v d := dp_up h fun x o z => by
  by_cases c : (H0 x).isSome = true ∧ B0 x = none
  · rw [sub_no ⟨a.dm x c.1, a.wk.ap x c.2 c.1⟩] at z
    cases z
  · rw [sub_yes c]
    exact sub_le x o z
theorem At.outR {R : Hp → V → Prop} (mo : ∀ H H' v, Ex H H' → R H v → R H' v) (a : At Hk B0 H0 B H) (e : Ex H H2) (h : R (sub H2 H B) v) : R (sub H2 H0 B0) v := mo _ _ _ (fun x o z => by
  by_cases c : (H0 x).isSome = true ∧ B0 x = none
  · rw [sub_no ⟨a.dm x c.1, a.wk.ap x c.2 c.1⟩] at z
    cases z
  · rw [sub_yes c]
    exact sub_le x o z) h
/-- the base itself, seen from the start -/
theorem At.base (a : At Hk B0 H0 B H) : Ex B (sub H H0 B0) := a.wk.sub
/-- a list of one's own, of these data -/
def Mu (K : PySem.W.Frag) (B H : Hp) (l : Addr) (ds : List PyData) : Prop := ∃ vs, H l = some (.lst vs) ∧ B l = none ∧ DpAll K B vs ds
theorem Mu.next (m : Mu K B H l ds) (b : Ex B H) (e : Ex H H2) : Mu K (sub H2 H B) H2 l ds := by
  obtain ⟨vs, h1, h2, h3⟩ := m
  exact ⟨vs, e l _ h1, sub_no ⟨by rw [h1]; rfl, h2⟩, dpa_up h3 (le_sub b e)⟩
theorem Mu.new (b : Ex B H) (hp : H p = none) {vs : List V} (h : DpAll K B vs ds) : Mu K B (upd H p (.lst vs)) p ds := by
  refine ⟨vs, upd_same, ?_, h⟩
  cases e : B p with
  | none => rfl
  | some u =>
    rw [b p u e] at hp
    cases hp
theorem Mu.set {vs : List V} {es : List PyData} (m : Mu K B H l ds) (h : DpAll K B vs es) : Mu K B (upd H l (.lst vs)) l es := by
  obtain ⟨_, _, h2, _⟩ := m
  exact ⟨vs, upd_same, h2, h⟩
theorem Mu.other {q : Addr} (m : Mu K B H l ds) (h : l ≠ q) : Mu K B (upd H q o) l ds := by
  obtain ⟨vs, h1, h2, h3⟩ := m
  exact ⟨vs, by rw [upd_ne h]; exact h1, h2, h3⟩
theorem Mu.grow (m : Mu K B H l ds) (e : Ex H H2) : Mu K B H2 l ds := by
  obtain ⟨vs, h1, h2, h3⟩ := m
  exact ⟨vs, e l _ h1, h2, h3⟩
/-- it changes no more -/
theorem Mu.freeze (m : Mu K B H l ds) (a : At Hk B0 H0 B H) (hn : H0 l = none) : ∃ B', Ex B B' ∧ At Hk B0 H0 B' H ∧ Dp K B' (.ref l) (.list ds) := by
  obtain ⟨vs, h1, h2, h3⟩ := m
  have e : Ex B (upd B l (.lst vs)) := Ex.new h2
  refine ⟨upd B l (.lst vs), e, ⟨⟨a.wk.bb.trans e, fun x o z => ?_, fun x b0 hs => ?_⟩, a.ex, a.dm⟩, .lst (sq_of upd_same) (dpa_up h3 e)⟩
  · by_cases c : x = l
    · subst c
      rw [upd_same] at z
      rw [h1]
      exact z
    · rw [upd_ne c] at z
      exact a.wk.bh x o z
  · rw [upd_ne fun z => by rw [z, hn] at hs; cases hs]
    exact a.wk.ap x b0 hs
end
/-! ### evaluations to anything that stays -/
def EvR (te : TE) (σ : L2.St) (B : Hp) (R : Hp → V → Prop) : Prop := ∀ H1, Ex B H1 → ∀ Q : VK, (∀ v H2, Ex H1 H2 → R (sub H2 H1 B) v → Q v H2) → te σ H1 Q
/-- a def that is pure: by data -/
def spD (K : PySem.W.Frag) (P : List PyData → PyData → Prop) : Sp := fun vs H Q _ => ∃ B ds d, Ex B H ∧ DpAll K B vs ds ∧ P ds d ∧ ∀ v H2, Ex H H2 → Dp K (sub H2 H B) v d → Q v H2
def spR (K : PySem.W.Frag) (P : List PyData → (Hp → V → Prop) → Prop) : Sp := fun vs H Q _ => ∃ B ds R, Ex B H ∧ DpAll K B vs ds ∧ P ds R ∧ ∀ v H2, Ex H H2 → R (sub H2 H B) v → Q v H2
section
variable {K : PySem.W.Frag} {σ : L2.St} {B : Hp} {te ta tb tl : TE} {tas : TA} {tt : TT} {d d1 d2 D0 : PyData} {ds : List PyData} {G : TG}
theorem sp_d {P : List PyData → PyData → Prop} (h : P ds d) : SpD K (spD K P) ds d := fun B H1 vs b hv Q q _ => ⟨B, ds, d, b, hv, h, q⟩
theorem er_callR {P : List PyData → (Hp → V → Prop) → Prop} {R : Hp → V → Prop} {E : XK} (mo : ∀ H H' v, Ex H H' → R H v → R H' v) (h : EvDA K tas σ B ds) (hs : P ds R) : EvR (tCall (spR K P) [] E tas) σ B R := fun H1 b Q q =>
  h H1 b _ fun vs H2 e2 hv => ⟨sub H2 H1 B, ds, R, sub_le, by rw [List.append_nil]; exact hv, hs, fun v H3 e3 hv => q v H3 (e2.trans e3) (mo _ _ _ (later e2) hv)⟩
/-! ### comprehensions, by what the items stand for -/
open Classical in
/-- [e for target in seq if test], the items mk x -/
theorem ed_lcM {α : Type} {mk : α → PyData} (inj : ∀ x y, mk x = mk y → x = y) {xs : List α} (f : α → Bool) (g : α → PyData) {P : PyData → L2.St → Hp → Prop} {vs : List Nat} (hl : EvD K tl σ B D0) (sq : Sq D0 (xs.map mk)) (few : xs.length < 40000) (tgd : TgD K G vs σ P (xs.map mk))
    (ht : ∀ x ∈ xs, ∀ σ2 B1, Ex B B1 → P (mk x) σ2 B1 → EvT tt σ2 B1 (f x)) (he : ∀ x ∈ xs, f x = true → ∀ σ2 B1, Ex B B1 → P (mk x) σ2 B1 → EvD K te σ2 B1 (g x)) (pu : ∀ d σ2 B1 B2, Ex B1 B2 → P d σ2 B1 → P d σ2 B2) :
    EvD K (tLc (iSq K tl) G tt te vs) σ B (.list ((xs.filter f).map g)) := by
  have key : ∀ x, ∃ (z : PyData → Option α), z (mk x) = some x := fun x => ⟨fun d => if h : ∃ y, mk y = d then some h.choose else none, by
    have h : ∃ y, mk y = mk x := ⟨x, rfl⟩
    show (if h : ∃ y, mk y = mk x then some h.choose else none) = some x
    rw [dif_pos h]
    exact congrArg some (inj _ _ h.choose_spec)⟩
  let un : PyData → Option α := fun d => if h : ∃ y, mk y = d then some h.choose else none
  have hun : ∀ x, un (mk x) = some x := fun x => by
    have h : ∃ y, mk y = mk x := ⟨x, rfl⟩
    show (if h : ∃ y, mk y = mk x then some h.choose else none) = some x
    rw [dif_pos h]
    exact congrArg some (inj _ _ h.choose_spec)
  let f' : PyData → Bool := fun d => match un d with | some x => f x | none => false
  let g' : PyData → PyData := fun d => match un d with | some x => g x | none => .none
  have hf : ∀ x, f' (mk x) = f x := fun x => by show (match un (mk x) with | some x => f x | none => false) = f x; rw [hun]
  have hg : ∀ x, g' (mk x) = g x := fun x => by show (match un (mk x) with | some x => g x | none => PyData.none) = g x; rw [hun]
  have main := ed_lc (K := K) (σ := σ) (B := B) (tl := tl) (D0 := D0) (ds := xs.map mk) (G := G) (tt := tt) (te := te) (P := P) (vs := vs) f' g' hl sq (by rw [List.length_map]; exact few) tgd
    (fun d m σ2 B1 e p => by obtain ⟨x, hx, rfl⟩ := List.mem_map.mp m; rw [hf]; exact ht x hx σ2 B1 e p)
    (fun d m fd σ2 B1 e p => by obtain ⟨x, hx, rfl⟩ := List.mem_map.mp m; rw [hf] at fd; rw [hg]; exact he x hx fd σ2 B1 e p) pu
  refine ed_is main ?_
  congr 1
  rw [List.filter_map, List.map_map]
  have e1 : (f' ∘ mk) = f := funext hf
  have e2 : (g' ∘ mk) = g := funext hg
  rw [e1, e2]
/-- with no test -/
theorem ed_lcA {α : Type} {mk : α → PyData} (inj : ∀ x y, mk x = mk y → x = y) {xs : List α} (g : α → PyData) {P : PyData → L2.St → Hp → Prop} {vs : List Nat} (hl : EvD K tl σ B D0) (sq : Sq D0 (xs.map mk)) (few : xs.length < 40000) (tgd : TgD K G vs σ P (xs.map mk))
    (he : ∀ x ∈ xs, ∀ σ2 B1, Ex B B1 → P (mk x) σ2 B1 → EvD K te σ2 B1 (g x)) (pu : ∀ d σ2 B1 B2, Ex B1 B2 → P d σ2 B1 → P d σ2 B2) :
    EvD K (tLc (iSq K tl) G tYes te vs) σ B (.list (xs.map g)) := by
  refine ed_is (ed_lcM (tt := tYes) inj (fun _ => true) g hl sq few tgd (fun x _ σ2 B1 _ _ => ?_) (fun x m _ => he x m) pu) ?_
  · intro H1 b Q q
    exact q H1 (Ex.refl H1)
  · congr 1
    rw [List.filter_eq_self.mpr fun _ _ => rfl]
/-- one name as the target -/
def P1 (K : PySem.W.Frag) (σ : L2.St) (vs : List Nat) (j : Nat) : PyData → L2.St → Hp → Prop := fun d σ2 B1 => ∃ v, σ2 = (wipe σ vs).set j (some v) ∧ Dp K B1 v d
theorem p1_up {vs : List Nat} {j : Nat} : ∀ d σ2 B1 B2, Ex B1 B2 → P1 K σ vs j d σ2 B1 → P1 K σ vs j d σ2 B2 := fun _ _ _ _ e ⟨v, h, hd⟩ => ⟨v, h, dp_up hd e⟩
/-- a pair of names -/
def P2 (K : PySem.W.Frag) (σ : L2.St) (vs : List Nat) (i j : Nat) : PyData → L2.St → Hp → Prop := fun d σ2 B1 => ∃ d1 d2 v u, d = .tuple [d1, d2] ∧ σ2 = ((wipe σ vs).set i (some v)).set j (some u) ∧ Dp K B1 v d1 ∧ Dp K B1 u d2
theorem p2_up {vs : List Nat} {i j : Nat} : ∀ d σ2 B1 B2, Ex B1 B2 → P2 K σ vs i j d σ2 B1 → P2 K σ vs i j d σ2 B2 := fun _ _ _ _ e ⟨a, b, v, u, h1, h2, h3, h4⟩ => ⟨a, b, v, u, h1, h2, dp_up h3 e, dp_up h4 e⟩
theorem p_str {H : Hp} {v : V} {x : Str} (h : Dp K H v (.str x)) : v = .str x := by cases h; rfl
theorem p_int {H : Hp} {v : V} {x : Int} (h : Dp K H v (.int x)) : v = .int x := by cases h; rfl
theorem p_bl {H : Hp} {v : V} {x : Bool} (h : Dp K H v (.bool x)) : v = .bl x := by cases h; rfl
/-- [e for name in seq if test], seq of texts -/
theorem ed_lcS {xs : List Str} (f : Str → Bool) (g : Str → PyData) {j : Nat} {vs : List Nat} (hl : EvD K tl σ B D0) (sq : Sq D0 (xs.map .str)) (few : xs.length < 40000) (hw : ∀ x, wipe ((wipe σ vs).set j (some x)) vs = wipe σ vs)
    (ht : ∀ x ∈ xs, ∀ B1, Ex B B1 → EvT tt ((wipe σ vs).set j (some (.str x))) B1 (f x)) (he : ∀ x ∈ xs, f x = true → ∀ B1, Ex B B1 → EvD K te ((wipe σ vs).set j (some (.str x))) B1 (g x)) :
    EvD K (tLc (iSq K tl) (gName j) tt te vs) σ B (.list ((xs.filter f).map g)) :=
  ed_lcM (P := P1 K σ vs j) (fun _ _ h => str_inj h) f g hl sq few (tg_name hw) (fun x m σ2 B1 e ⟨v, h, hd⟩ => by rw [h, p_str hd]; exact ht x m B1 e) (fun x m fx σ2 B1 e ⟨v, h, hd⟩ => by rw [h, p_str hd]; exact he x m fx B1 e) p1_up
theorem ed_lcSA {xs : List Str} (g : Str → PyData) {j : Nat} {vs : List Nat} (hl : EvD K tl σ B D0) (sq : Sq D0 (xs.map .str)) (few : xs.length < 40000) (hw : ∀ x, wipe ((wipe σ vs).set j (some x)) vs = wipe σ vs)
    (he : ∀ x ∈ xs, ∀ B1, Ex B B1 → EvD K te ((wipe σ vs).set j (some (.str x))) B1 (g x)) :
    EvD K (tLc (iSq K tl) (gName j) tYes te vs) σ B (.list (xs.map g)) :=
  ed_lcA (P := P1 K σ vs j) (fun _ _ h => str_inj h) g hl sq few (tg_name hw) (fun x m σ2 B1 e ⟨v, h, hd⟩ => by rw [h, p_str hd]; exact he x m B1 e) p1_up
end
/-! ### loops over data -/
section
variable {K : PySem.W.Frag} {σ : L2.St} {B : Hp} {te tl : TE} {D0 : PyData} {ds : List PyData} {g : TG} {tb : TS} {D : Ends}
/-- for target in seq: body. Pv B2: B2 holds the sequence -/
theorem for_sq {H : Hp} (Pv : Hp → Nat → L2.St → Hp → Prop) (hl : EvD K tl σ B D0) (sq : Sq D0 ds) (b : Ex B H) (h0 : ∀ H2, Ex H H2 → Pv (sub H2 H B) 0 σ H2) (keep : ∀ B2 i σ3 H3, Pv B2 i σ3 H3 → Ex B2 H3)
    (hs : ∀ B2 i d x σ3 H3, ds[i]? = some d → Dp K B2 x d → Pv B2 i σ3 H3 → g x σ3 H3 fun σ4 H4 => tb { D with nx := Pv B2 (i + 1), ct := Pv B2 (i + 1), bk := D.nx } σ4 H4)
    (hd : ∀ B2 σ3 H3, Pv B2 ds.length σ3 H3 → D.nx σ3 H3) : tFor (iSq K tl) g tb D σ H := by
  refine hl H b _ fun v H2 e2 hv => ?_
  obtain ⟨a, xs, rfl, hq, hx⟩ := sq_split hv sq
  have n := DpAll.len hx
  refine ⟨a, rfl, ?_⟩
  have step : ∀ i x σ3 H3, xs[i]? = some x → Pv (sub H2 H B) i σ3 H3 → g x σ3 H3 fun σ4 H4 => tb { D with nx := Pv (sub H2 H B) (i + 1), ct := Pv (sub H2 H B) (i + 1), bk := D.nx } σ4 H4 := fun i x σ3 H3 hi p => by
    obtain ⟨d, hd1, hd2⟩ := DpAll.get' hx hi
    exact hs _ i d x σ3 H3 hd1 hd2 p
  rcases hq with hq | hq
  · exact .inl ⟨xs, ex_l sub_le hq, for_list (Pv (sub H2 H B)) (h0 H2 e2) (fun i σ3 H3 _ p => ex_l (keep _ i σ3 H3 p) hq) step (fun σ3 H3 p => hd _ σ3 H3 (by rw [← n]; exact p))⟩
  · exact .inr ⟨xs, ex_t sub_le hq, for_tup (Pv (sub H2 H B)) (h0 H2 e2) (fun i σ3 H3 _ p => ex_t (keep _ i σ3 H3 p) hq) step (fun σ3 H3 p => hd _ σ3 H3 (by rw [← n]; exact p))⟩
end
end ZE

set_option Elab.async false
set_option linter.all false
set_option maxRecDepth 100000
/-! Sets of tuples of texts: made from a list, and walked in any order. -/
namespace ZS
open PySem PySem.Spec PyProof.Rows L2
/-- the tuple of the texts k stands at b -/
abbrev Tq (P : Program) (w : World) (h : Heap) (k : List Str) (b : Addr) : Prop := IsTupleKey (strKind P w) h k b
abbrev hq (P : Program) (w : World) (k : List Str) : Int := tupleKeyHash (strKind P w) k
abbrev Pr := Addr × List Str
/-- the c-th probe of a hash -/
abbrev pb (m : Nat) (z : Int) (c : Nat) : SetTable.Probe := nth m (runAt m (SetTable.bits z % (m + 1)) (SetTable.bits z)) c
theorem pb_add (m : Nat) (z : Int) (c q : Nat) : nth m (pb m z c) q = pb m z (c + q) := (nth_add m c _ q).symm
theorem pb_way (m : Nat) (z : Int) (c q : Nat) : (nth m (pb m z c) q).j = way m z (c + q) := congrArg SetTable.Probe.j (pb_add m z c q)
theorem nth_nodummy (m : Nat) : ∀ (n : Nat) (p : SetTable.Probe), p.dummy = none → (nth m p n).dummy = none
  | 0, _, e => e
  | n + 1, p, e => nth_nodummy m n (adv m p) (by unfold adv; split <;> exact e)
section
variable {P : Program} {w : World} {A : Around} {E : Value → Shared → Prop} {s : Shared}

theorem strs_in {k : List Str} {vs : List Value} (hi : ItemsAre (strKind P w) k vs) : ∀ u ∈ vs, ∃ x t, u = Value.str x t := by
  induction hi with
  | nil => exact fun u hu => nomatch hu
  | @cons k0 v0 _ _ e _ ih =>
    intro u hu
    obtain ⟨t, e0⟩ := Value.isStrOf_shape e
    cases hu with
    | head => exact ⟨k0, t, e0⟩
    | tail _ m => exact ih u m
theorem stmt_str (n : Nat) (x : Str) (t : Tok) : ofAClassStatement n (.str x t) = pure false := by cases n <;> rfl
theorem byval_str (n : Nat) (x : Str) (t : Tok) : hashByValue n (.str x t) = pure false := by cases n <;> rfl
/-- a tuple of texts is of no class statement -/
theorem stmt_tq {k : List Str} {b : Addr} {Q : Bool → Shared → Prop} (hk : Tq P w s.heap k b) (q : Q false s) : wpAny (model P w) A (ofAClassStatement 8 (.ref b)) Q E s := by
  have ty := hk.typeIs
  obtain ⟨o, its, n, g, _, dt, hi⟩ := hk
  unfold ofAClassStatement
  refine wpAny_bind (wpAny_typeOf ty ?_)
  dsimp only
  have tt : (("tuple" : String) == "tuple") = true := by decide
  simp only [tt, if_true, Bool.not_true, Bool.false_eq_true, if_false]
  try refine wpAny_bind (wpAny_pure ?_)
  try simp only [Bool.not_true, Bool.false_eq_true, if_false]
  refine wpAny_bind (wpAny_seqItems g dt ?_)
  dsimp only
  refine wpAny_bind ?_
  rw [← Array.forIn_toList]
  refine wpAny_forIn_list _ (fun rest acc s1 => (acc.1 = none ∧ s1 = s) ∧ ∀ u ∈ rest, ∃ x t, u = Value.str x t) _ ?_ ?_ _ _ ⟨⟨rfl, rfl⟩, strs_in hi⟩
  · intro u rest acc s1 inv
    obtain ⟨⟨e1, rfl⟩, all⟩ := inv
    obtain ⟨x, t, rfl⟩ := all u (List.Mem.head _)
    rw [stmt_str]
    refine wpAny_bind (wpAny_pure ?_)
    simp only [Bool.false_eq_true, if_false]
    exact wpAny_pure ⟨⟨rfl, rfl⟩, fun u' m => all u' (List.Mem.tail _ m)⟩
  · intro acc s1 inv
    obtain ⟨⟨e1, rfl⟩, _⟩ := inv
    obtain ⟨a1, a2⟩ := acc
    cases e1
    exact wpAny_pure q
/-- whether its hash is known by value does not matter -/
theorem byval_tq {k : List Str} {b : Addr} {Q : Bool → Shared → Prop} (hk : Tq P w s.heap k b) (q : ∀ c, Q c s) : wpAny (model P w) A (hashByValue 8 (.ref b)) Q E s := by
  have ty := hk.typeIs
  obtain ⟨o, its, n, g, _, dt, hi⟩ := hk
  unfold hashByValue
  refine wpAny_bind (wpAny_specialOf ty F.slot_tuple_hash.lookup ?_)
  refine wpAny_bind (wpAny_seqItems g dt ?_)
  refine wpAny_bind ?_
  show wpAny _ _ (forIn its _ _) _ _ s
  rw [← Array.forIn_toList]
  refine wpAny_forIn_list _ (fun rest acc s1 => (acc.1 = none ∧ s1 = s) ∧ ∀ u ∈ rest, ∃ x t, u = Value.str x t) _ ?_ ?_ _ _ ⟨⟨rfl, rfl⟩, strs_in hi⟩
  · intro u rest acc s1 inv
    obtain ⟨⟨e1, rfl⟩, all⟩ := inv
    obtain ⟨x, t, rfl⟩ := all u (List.Mem.head _)
    rw [byval_str]
    refine wpAny_bind (wpAny_pure ?_)
    simp only [Bool.not_false, if_true]
    exact wpAny_pure (wpAny_pure (q false))
  · intro acc s1 inv
    obtain ⟨⟨e1, rfl⟩, _⟩ := inv
    obtain ⟨a1, a2⟩ := acc
    cases e1
    exact wpAny_pure (q true)
/-- a search among tuples of texts shows nothing -/
theorem unseen {k : List Str} {b : Addr} {Q : Bool → Shared → Prop} (hk : Tq P w s.heap k b) {ys : List Value} (hy : ∀ y ∈ ys, ∃ k' c, y = Value.ref c ∧ Tq P w s.heap k' c) (q : Q false s) :
    wpAny (model P w) A (searchCouldBeSeen (.ref b) ys) Q E s := by
  unfold searchCouldBeSeen
  refine wpAny_bind ?_
  refine wpAny_forIn_list _ (fun rest acc s1 => (acc.1 = none ∧ s1 = s) ∧ ∀ y ∈ rest, ∃ k' c, y = Value.ref c ∧ Tq P w s.heap k' c) _ ?_ ?_ _ _ ⟨⟨rfl, rfl⟩, hy⟩
  · intro u rest acc s1 inv
    obtain ⟨⟨e1, rfl⟩, all⟩ := inv
    obtain ⟨k', c, rfl, hc⟩ := all u (List.Mem.head _)
    have more : ∀ y ∈ rest, ∃ k' c, y = Value.ref c ∧ Tq P w s1.heap k' c := fun y m => all y (List.Mem.tail _ m)
    dsimp only
    rcases Bool.eq_false_or_eq_true (b == c || (carriedByValue (.ref b) && carriedByValue (.ref c))) with e | e
    · exact wp_if_pos e (wpAny_pure ⟨⟨rfl, rfl⟩, more⟩)
    · refine wp_if_neg (by rw [e]; exact Bool.false_ne_true) ?_
      refine wpAny_bind (wpAny_eqIsQuiet_tuple hk ?_)
      simp only [Bool.not_true, Bool.false_eq_true, if_false]
      refine wpAny_bind (wpAny_eqIsQuiet_tuple hc ?_)
      simp only [Bool.not_true, Bool.false_eq_true, if_false]
      refine wpAny_bind (stmt_tq hk ?_)
      simp only [Bool.false_eq_true, if_false]
      refine wpAny_bind (stmt_tq hc ?_)
      simp only [Bool.false_eq_true, if_false]
      exact wpAny_pure ⟨⟨rfl, rfl⟩, more⟩
  · intro acc s1 inv
    obtain ⟨⟨e1, rfl⟩, _⟩ := inv
    obtain ⟨a1, a2⟩ := acc
    cases e1
    exact wpAny_pure q

/-- the table's rows -/
def rows (P : Program) (w : World) (L : List Pr) : List (Int × Value) := L.map fun q => (hq P w q.2, Value.ref q.1)
/-- THE INVARIANT of such a set -/
structure Hs (P : Program) (w : World) (h : Heap) (a : Addr) (L : List Pr) (es : Array (Int × Value)) (ep : Nat) (t : SetTable) : Prop where
  obj : ∃ o, h.get? a = some o ∧ o.ExactSet ∧ o.data = .set es ep t
  ent : es.toList = rows P w L
  tab : TabOk t (L.map fun q => hq P w q.2)
  uni : (L.map Prod.snd).Nodup
  here : ∀ q ∈ L, Tq P w h q.2 q.1
  led : w.params.followText "set-order" = true ∨ t.led = true
  low : L.length * 5 < t.mask * 3
  cap : L.length < 64
variable {a : Addr} {L : List Pr} {es : Array (Int × Value)} {ep : Nat} {t : SetTable}
theorem rows_len {L : List Pr} {es : Array (Int × Value)} (e : es.toList = rows P w L) : es.size = L.length := by
  rw [← Array.length_toList, e]
  exact List.length_map ..
theorem rows_at {L : List Pr} {es : Array (Int × Value)} (e : es.toList = rows P w L) {i : Nat} {q : Pr} (hL : L[i]? = some q) : es[i]? = some (hq P w q.2, Value.ref q.1) := by
  rw [← Array.getElem?_toList, e]
  unfold rows
  rw [List.getElem?_map, hL]
  rfl
theorem Hs.fits (R : Hs P w s.heap a L es ep t) : t.fits es.size = true := by
  have z1 := R.tab.sz
  have z2 := rows_len R.ent
  have z3 := R.low
  rw [List.length_map] at z1
  unfold SetTable.fits SetTable.fill
  rw [R.tab.dm]
  simp only [Array.size_empty, Nat.add_zero, Bool.and_eq_true, beq_iff_eq, decide_eq_true_eq]
  omega
theorem Hs.stays (R : Hs P w s.heap a L es ep t) : t.gaveWay ≠ true := by
  intro z
  unfold SetTable.gaveWay at z
  rw [mask_odd R.tab.mok] at z
  exact absurd z (by decide)
end
end ZS

set_option Elab.async false
set_option linter.all false
set_option maxRecDepth 100000
namespace ZS
open PySem PySem.Spec PyProof.Rows L2
section
variable {P : Program} {w : World} {A : Around} {E : Value → Shared → Prop} {s : Shared}
variable {a : Addr} {L : List Pr} {es : Array (Int × Value)} {ep : Nat} {t : SetTable}
/-- the model's text behind a candidate slot -/
def afterMet (a : Addr) (x : Value) (z : Int) (fuel : Nat) (es : Array (Int × Value)) (t : SetTable) (j i : Nat) (next : SetTable.Probe) : Sem SetFound := do
  let some (_, y) := es[i]? | unsupported "internal:set-entry"
  let alike ← holding [y] (eqBool y x)
  let (es', _, t') ← setState a
  if true && alike then return .there none
  let some same := t'.sameMemory t.moves t.mask | unsupported "set.changed-during-lookup:is-the-new-block-at-the-old-address"
  let still ← match (if same then t'.slot j else .empty) with
    | .live i' => match es'[i']? with
      | some (_, y') => do pure (if ← isSame y' y then some i' else none)
      | none => pure none
    | _ => pure none
  match still with
  | none => rule "set.search.anew"; setSearchFrom a x z true fuel none
  | some i' => if alike then return .there (some i') else setSearchFrom a x z true fuel (some next)
def seekStep (a : Addr) (x : Value) (z : Int) (fuel : Nat) (stand : Option SetTable.Probe) : Sem SetFound := do
    let (es, _, t) ← setState a
    if t.gaveWay then unsupported "set:on-a-table-that-gave-way"
    let some met := t.probe (fun i => (es[i]?.map (·.1)).getD 0) z (stand.getD (t.probeStart z)) | unsupported "internal:set-table-without-an-empty-slot"
    match met with
    | .empty j dummy =>
      match dummy with
      | none => return .free j false
      | some d =>
        if true && t.slot d != .dummy then rule "set.search.the-dummy-was-taken"; return ← setSearchFrom a x z true fuel none
        return .free d true
    | .candidate j i next =>
      if !t.led then
        if ← searchCouldBeSeen x ((es.filter (·.1 == z)).toList.map (·.2)) then unsupported "set:the-search-would-show-the-table"
      afterMet a x z fuel es t j i next
theorem seek_succ (a : Addr) (x : Value) (z : Int) (fuel : Nat) (stand : Option SetTable.Probe) : setSearchFrom a x z true (fuel + 1) stand = seekStep a x z fuel stand := rfl
/-- the goal of a search: where it stands ahead, which slot is free behind all -/
structure Seek (P : Program) (w : World) (L : List Pr) (t : SetTable) (k : List Str) (K : Nat) : Prop where
  fuel : K < 10 * SetTable.turns t.mask
  free : way t.mask (hq P w k) K ∉ t.place.toList
  full : ∀ c, c < K → way t.mask (hq P w k) c ∈ t.place.toList
theorem seek_from (R : Hs P w s.heap a L es ep t) {x : Addr} {k : List Str} (hx : Tq P w s.heap k x) (hu : A.units < cLine) {K : Nat} (G : Seek P w L t k K) {Q : SetFound → Shared → Prop}
    (yes : k ∈ L.map Prod.snd → Q (.there none) s) (no : k ∉ L.map Prod.snd → Q (.free (way t.mask (hq P w k) K) false) s) :
    ∀ (f c : Nat) (stand : Option SetTable.Probe), stand.getD (t.probeStart (hq P w k)) = pb t.mask (hq P w k) c → c ≤ K → K < f + c →
      (∀ (i : Nat) (q : Pr), L[i]? = some q → q.2 = k → ∃ d, c ≤ d ∧ d < K ∧ t.place.toList[i]? = some (way t.mask (hq P w k) d)) →
      wpAny (model P w) A (setSearchFrom a (.ref x) (hq P w k) true f stand) Q E s := by
  obtain ⟨o, ho, hex, hd⟩ := R.obj
  have hash_at : ∀ (i : Nat) (q : Pr), L[i]? = some q → (es[i]?.map (·.1)).getD 0 = hq P w q.2 := fun i q e => by
    rw [rows_at R.ent e]
    rfl
  intro f
  induction f with
  | zero =>
    intro c stand _ h1 h2
    exact absurd h2 (by omega)
  | succ f ih =>
    intro c stand st h1 h2 ahead
    rw [seek_succ]
    unfold seekStep
    refine wpAny_bind (wpAny_setState_of ho hd R.fits ?_)
    dsimp only
    refine wp_if_neg R.stays ?_
    try refine wpAny_bind (wpAny_pure ?_)
    have sp := go_spec t R.tab.ris R.tab.dm (fun i => (es[i]?.map (·.1)).getD 0) (hq P w k) (10 * SetTable.turns t.mask) (K - c) (pb t.mask (hq P w k) c)
      (nth_nodummy _ _ _ rfl) (Nat.lt_of_le_of_lt (Nat.sub_le _ _) G.fuel) (fun q hlt => (pb_way t.mask (hq P w k) c q).symm ▸ G.full (c + q) (by omega))
      (by rw [pb_way, Nat.add_sub_cancel' h1]; exact G.free)
    have from_c : ∀ (d : Nat), c ≤ d → (nth t.mask (pb t.mask (hq P w k) c) (d - c)).j = way t.mask (hq P w k) d := fun d hcd => by rw [pb_way, Nat.add_sub_cancel' hcd]
    rw [show t.probe (fun i => (es[i]?.map (·.1)).getD 0) (hq P w k) (stand.getD (t.probeStart (hq P w k))) = SetTable.probe.go t (fun i => (es[i]?.map (·.1)).getD 0) (hq P w k) (10 * SetTable.turns t.mask) (pb t.mask (hq P w k) c) by rw [st]; rfl]
    rcases sp with ⟨q, i, hlt, hi, hh, earlier, e⟩ | ⟨never, e⟩
    · rw [e]
      dsimp only
      rw [pb_way] at hi ⊢
      rw [pb_add]
      have hil : i < L.length := by
        have z1 := (List.getElem?_eq_some_iff.mp hi).1
        have z2 := R.tab.sz
        rw [Array.length_toList] at z1
        rw [List.length_map] at z2
        omega
      obtain ⟨m, hm⟩ : ∃ m, L[i]? = some m := ⟨_, List.getElem?_eq_getElem hil⟩
      have hmL : m ∈ L := List.mem_of_getElem? hm
      have body : wpAny (model P w) A (afterMet a (.ref x) (hq P w k) f es t (way t.mask (hq P w k) (c + q)) i (pb t.mask (hq P w k) (c + (q + 1)))) Q E s := by
        unfold afterMet
        rw [rows_at R.ent hm]
        dsimp only
        refine wpAny_bind (wpAny_holding (wpAny_eqBool_tuple hu (R.here m hmL) hx ?_))
        refine wpAny_bind (wpAny_setState_of ho hd R.fits ?_)
        dsimp only
        by_cases same : m.2 = k
        · rw [decide_eq_true same]
          exact wp_if_pos rfl (wpAny_pure (yes (List.mem_map.mpr ⟨m, hmL, same⟩)))
        · rw [decide_eq_false same]
          refine wp_if_neg Bool.false_ne_true ?_
          try refine wpAny_bind (wpAny_pure ?_)
          rw [sameMem]
          have live : t.slot (way t.mask (hq P w k) (c + q)) = .live i := slot_live R.tab.ris hi
          simp only [if_true, live, rows_at R.ent hm]
          refine wpAny_bind (wpAny_isSame_ref_self (wpAny_bind (wpAny_pure ?_)))
          simp only [if_true]
          refine wp_if_neg Bool.false_ne_true (ih (c + (q + 1)) _ rfl (by omega) (by omega) fun i0 q0 e0 e1 => ?_)
          obtain ⟨d, d1, d2, d3⟩ := ahead i0 q0 e0 e1
          rcases Nat.lt_trichotomy d (c + q) with lt | eq | gt
          · exact absurd ((hash_at i0 q0 e0).trans (congrArg (hq P w) e1)) (earlier (d - c) i0 (by omega) (by rw [from_c d d1]; exact d3))
          · rw [eq] at d3
            have live0 := slot_live R.tab.ris d3
            rw [live] at live0
            injection live0 with ei
            rw [← ei, hm] at e0
            exact absurd ((congrArg Prod.snd (Option.some.inj e0)).trans e1) same
          · exact ⟨d, by omega, d2, d3⟩
      rcases Bool.eq_false_or_eq_true t.led with ld | ld
      · rw [ld]
        refine wp_if_neg (by decide) ?_
        try refine wpAny_bind (wpAny_pure ?_)
        exact body
      · rw [ld]
        refine wp_if_pos (by decide) ?_
        refine wpAny_bind (unseen hx (fun y hy => ?_) ?_)
        · obtain ⟨en, h3, h4⟩ := List.mem_map.mp hy
          have h5 : en ∈ es := (Array.mem_filter.mp (Array.mem_toList_iff.mp h3)).1
          have h6 : en ∈ rows P w L := by rw [← R.ent]; exact Array.mem_toList_iff.mpr h5
          obtain ⟨q2, h7, h8⟩ := List.mem_map.mp h6
          exact ⟨q2.2, q2.1, by rw [← h4, ← h8], R.here q2 h7⟩
        · refine wp_if_neg Bool.false_ne_true ?_
          try refine wpAny_bind (wpAny_pure ?_)
          exact body
    · rw [e]
      dsimp only
      rw [pb_way, Nat.add_sub_cancel' h1]
      refine wpAny_pure (no fun hmem => ?_)
      obtain ⟨q0, h3, h4⟩ := List.mem_map.mp hmem
      obtain ⟨i0, h5, h6⟩ := List.mem_iff_getElem.mp h3
      have e0 : L[i0]? = some q0 := by rw [List.getElem?_eq_getElem h5, h6]
      obtain ⟨d, d1, d2, d3⟩ := ahead i0 q0 e0 h4
      exact never (d - c) i0 (by omega) (by rw [from_c d d1]; exact d3) ((hash_at i0 q0 e0).trans (congrArg (hq P w) h4))
theorem seek_all (R : Hs P w s.heap a L es ep t) {x : Addr} {k : List Str} (hx : Tq P w s.heap k x) (hu : A.units < cLine) {Q : SetFound → Shared → Prop} (yes : k ∈ L.map Prod.snd → Q (.there none) s)
    (no : ∀ K, Seek P w L t k K → k ∉ L.map Prod.snd → Q (.free (way t.mask (hq P w k) K) false) s) : wpAny (model P w) A (setSearch a (.ref x) (hq P w k) true) Q E s := by
  have room := R.low
  obtain ⟨K, f1, f2, f3⟩ := R.tab.first (by rw [List.length_map]; omega) (hq P w k)
  have G : Seek P w L t k K := ⟨f1, f2, f3⟩
  have small : 10 * SetTable.turns t.mask ≤ 2000 := by
    unfold SetTable.turns
    rcases R.tab.mok with e | e | e <;> omega
  unfold setSearch
  refine seek_from R hx hu G yes (no K G) 100000 0 none rfl (Nat.zero_le _) (by omega) fun i q e e1 => ?_
  have z0 : (L.map fun q => hq P w q.2)[i]? = some (hq P w k) := by
    rw [List.getElem?_map, e, ← e1]
    rfl
  have z1 : i < t.place.toList.length := by
    have z2 := (List.getElem?_eq_some_iff.mp e).1
    have z3 := R.tab.sz
    rw [Array.length_toList]
    rw [List.length_map] at z3
    omega
  have z4 := List.getElem?_eq_getElem z1
  obtain ⟨d, d1, d2⟩ := R.tab.before f2 z0 z4
  exact ⟨d, Nat.zero_le _, d1, by rw [d2]; exact z4⟩
end
end ZS

set_option Elab.async false
set_option linter.all false
set_option maxRecDepth 100000
namespace ZS
open PySem PySem.Spec PyProof.Rows L2
section
variable {P : Program} {w : World} {A : Around} {E : Value → Shared → Prop} {s : Shared}
variable {a : Addr} {L : List Pr} {es : Array (Int × Value)} {ep : Nat} {t : SetTable}
theorem tq_but {h h' : Heap} {k : List Str} {b : Addr} {o : Obj} (hb : Tq P w h k b) (ho : h.get? a = some o) (hd : o.data = .set es ep t) (sb : Heap.SameBut a h h') : Tq P w h' k b := by
  obtain ⟨u, its, n, g, c, dt, r⟩ := hb
  refine ⟨u, its, n, ?_, c, dt, r⟩
  rw [sb.2 b fun e => ?_]
  · exact g
  · rw [e, ho] at g
    rw [← Option.some.inj g, hd] at dt
    cases dt
theorem tq_more {h h' : Heap} {k : List Str} {b : Addr} (hb : Tq P w h k b) (hk : ∀ c o, h.get? c = some o → h'.get? c = some o) : Tq P w h' k b := by
  obtain ⟨u, its, n, g, r⟩ := hb
  exact ⟨u, its, n, hk _ _ g, r⟩
theorem rows_ins (L : List Pr) (p : Nat) (q : Pr) : rows P w (L.take p ++ q :: L.drop p) = (rows P w L).take p ++ (hq P w q.2, Value.ref q.1) :: (rows P w L).drop p := by
  simp only [rows, List.map_append, List.map_cons, List.map_take, List.map_drop]
theorem ins_perm {α : Type} (l : List α) (p : Nat) (q : α) : (l.take p ++ q :: l.drop p).Perm (q :: l) := by
  have e : (l.take p ++ q :: l.drop p).Perm (q :: (l.take p ++ l.drop p)) := List.perm_middle
  rwa [List.take_append_drop] at e
/-- the rows by a permutation of their places -/
theorem rows_moved (L : List Pr) (es : Array (Int × Value)) (e : es.toList = rows P w L) : ∀ (js : List Nat), (∀ j ∈ js, j < L.length) →
    js.filterMap (fun j => es[j]?) = rows P w (js.filterMap fun j => L[j]?) ∧ (js.filterMap fun j => L[j]?).map (fun q => hq P w q.2) = js.map fun j => (es.map (·.1)).getD j 0
  | [], _ => ⟨rfl, rfl⟩
  | j :: js, h => by
    have hj := h j (List.Mem.head _)
    obtain ⟨i1, i2⟩ := rows_moved L es e js fun i m => h i (List.Mem.tail _ m)
    have e0 : L[j]? = some L[j] := List.getElem?_eq_getElem hj
    have e1 := rows_at e e0
    have e2 : (es.map (·.1)).getD j 0 = hq P w L[j].2 := by
      simp [Array.getD_eq_getD_getElem?, Array.getElem?_map, e1]
    rw [List.filterMap_cons_some e1, List.filterMap_cons_some e0, List.map_cons, List.map_cons, e2, i1, i2]
    exact ⟨rfl, rfl⟩
theorem range_get {α : Type} (l : List α) : ∀ n, n ≤ l.length → (List.range n).filterMap (fun j => l[j]?) = l.take n
  | 0, _ => rfl
  | n + 1, h => by
    rw [List.range_succ, List.filterMap_append, range_get l n (Nat.le_of_succ_le h), List.filterMap_cons_some (List.getElem?_eq_getElem h), List.take_succ, List.getElem?_eq_getElem h]
    rfl
def relayStep (a : Addr) (wanted : Nat) : Sem Unit := do
  let (es, _, t) ← setState a
  if SetTable.sizeAbove wanted > sizeLine then unsupported "set:memory"
  let (es, t) ← (do
    let some (t, order) := t.relaid (es.map (·.1)) wanted | unsupported "internal:set-table-without-room"
    let es' := order.filterMap (es[·]?)
    if es'.size != es.size then unsupported "internal:set-table-lost-an-element"
    pure (es', t) : Sem (Array (Int × Value) × SetTable))
  storeSet a es t
theorem relay_is (a : Addr) (wanted : Nat) : setRelay a wanted = relayStep a wanted := rfl
/-- all of Hs but its table's room -/
structure Pre (P : Program) (w : World) (h : Heap) (a : Addr) (L : List Pr) (es : Array (Int × Value)) (ep : Nat) (t : SetTable) : Prop where
  obj : ∃ o, h.get? a = some o ∧ o.ExactSet ∧ o.data = .set es ep t
  ent : es.toList = rows P w L
  tab : TabOk t (L.map fun q => hq P w q.2)
  uni : (L.map Prod.snd).Nodup
  here : ∀ q ∈ L, Tq P w h q.2 q.1
  led : w.params.followText "set-order" = true ∨ t.led = true
  cap : L.length < 64
theorem relay_q (R : Pre P w s.heap a L es ep t) (fl : L.length ≤ t.mask) {wanted M : Nat} (hw : SetTable.sizeAbove wanted - 1 = M) (hM : MaskOk M) (hw2 : SetTable.sizeAbove wanted ≤ 128) (low : L.length * 5 < M * 3) {Q : Unit → Shared → Prop}
    (q : ∀ h' L' es' ep' t', Heap.SameBut a s.heap h' → Hs P w h' a L' es' ep' t' → L'.Perm L → Q () { s with heap := h' }) : wpAny (model P w) A (setRelay a wanted) Q E s := by
  obtain ⟨o, ho, hex, hd⟩ := R.obj
  have size := rows_len R.ent
  have fits : t.fits es.size = true := by
    have z1 := R.tab.sz
    rw [List.length_map] at z1
    unfold SetTable.fits SetTable.fill
    rw [R.tab.dm]
    simp only [Array.size_empty, Nat.add_zero, Bool.and_eq_true, beq_iff_eq, decide_eq_true_eq]
    omega
  obtain ⟨t2, order, e, pm, T, m1, m2, m3, m4⟩ := relaid_ok t (hs := es.map (·.1)) hw hM (by rw [Array.size_map, size]; omega)
  rw [Array.size_map, size] at pm
  obtain ⟨r1, r2⟩ := rows_moved L es R.ent order.toList fun j hj => List.mem_range.mp (pm.mem_iff.mp hj)
  have r3 : (order.toList.filterMap fun j => L[j]?).Perm L := by
    have z := pm.filterMap fun j => L[j]?
    rwa [range_get L _ (Nat.le_refl _), List.take_length] at z
  generalize (order.toList.filterMap fun j => L[j]?) = L2 at r1 r2 r3
  have r4 : (order.filterMap (es[·]?)).toList = rows P w L2 := by rw [Array.toList_filterMap]; exact r1
  have r5 : (order.filterMap (es[·]?)).size = es.size := by rw [rows_len r4, r3.length_eq, size]
  rw [relay_is]
  unfold relayStep
  refine wpAny_bind (wpAny_setState_of ho hd fits ?_)
  dsimp only
  refine wp_if_neg (by rw [sizeLine_eq]; omega) ?_
  try refine wpAny_bind (wpAny_pure ?_)
  rw [e]
  dsimp only
  refine wpAny_bind (wp_if_neg (by rw [r5]; simp) ?_)
  try refine wpAny_bind (wpAny_pure ?_)
  refine wpAny_pure ?_
  dsimp only
  have sb : Heap.SameBut a s.heap (s.heap.update a (Obj.putSet (order.filterMap (es[·]?)) t2)) := Heap.SameBut.update ..
  refine wpAny_storeSet_of ho hd (q _ L2 _ (ep + 1) t2 sb { obj := ⟨_, store_at ho hd, ⟨hex.1, hex.2.1, hex.2.2⟩, rfl⟩, ent := r4, tab := ?_, uni := (r3.map _).nodup_iff.mpr R.uni, here := fun q0 m0 => tq_but (R.here q0 (r3.mem_iff.mp m0)) ho hd sb, led := ?_, low := ?_, cap := ?_ } r3) (by rw [r5, size, sizeLine_eq]; have := R.cap; omega)
  · rw [r2]; exact T
  · rw [m2]; exact R.led
  · rw [r3.length_eq, m1]; exact low
  · rw [r3.length_eq]; exact R.cap
def addStep (a : Addr) (x : Value) (z : Int) (fuel : Nat) : Sem Bool := do
    let (es₀, _, t₀) ← setState a
    if byScan x es₀ then
      match ← setAddByScan a x z es₀ t₀ with
      | some added => return added
      | none => return ← setAddHashedIn a x z fuel
    let .free slot wasDummy ← setSearch a x z (adding := true) | return false
    let (es, _, t) ← setState a
    let (t, p) := t.put slot
    let byValue ← if t.plain then hashByValue 8 x else pure true
    let t := if byValue then t else { t with plain := false }
    storeSet a (SetTable.insertAt es p (z, x)) t
    if !wasDummy && t.tooFull then setRelay a (SetTable.grown (es.size + 1))
    return true
theorem add_is (a : Addr) (x : Value) (z : Int) (fuel : Nat) : setAddHashedIn a x z (fuel + 1) = addStep a x z fuel := rfl
/-- behind the look-up: the new row is laid, and the table laid anew where it is too full -/
theorem laid_q {o : Obj} (ho : s.heap.get? a = some o) (hex : o.ExactSet) (hd : o.data = .set es ep t) {es1 : Array (Int × Value)} {L1 : List Pr} {t1 : SetTable} (ent : es1.toList = rows P w L1) (tab : TabOk t1 (L1.map fun q => hq P w q.2))
    (uni : (L1.map Prod.snd).Nodup) (here : ∀ q ∈ L1, Tq P w s.heap q.2 q.1) (led : w.params.followText "set-order" = true ∨ t1.led = true) (cap : L1.length < 64) (n1 : 1 ≤ L1.length) (low : (L1.length - 1) * 5 < t1.mask * 3) {Q : Bool → Shared → Prop}
    (q : ∀ h' L' es' ep' t', Heap.SameBut a s.heap h' → Hs P w h' a L' es' ep' t' → L'.Perm L1 → Q true { s with heap := h' }) :
    wpAny (model P w) A (do
      storeSet a es1 t1
      if !false && t1.tooFull then setRelay a (SetTable.grown L1.length)
      return true) Q E s := by
  have size := rows_len ent
  refine wpAny_bind (wpAny_storeSet_of ho hd ?_ (by rw [size, sizeLine_eq]; omega))
  have sb : Heap.SameBut a s.heap (s.heap.update a (Obj.putSet es1 t1)) := Heap.SameBut.update ..
  have ho1 := store_at (es' := es1) (t' := t1) ho hd
  generalize s.heap.update a (Obj.putSet es1 t1) = h1 at sb ho1 ⊢
  have here1 : ∀ q ∈ L1, Tq P w h1 q.2 q.1 := fun q0 m0 => tq_but (here q0 m0) ho hd sb
  have len1 : t1.fill = L1.length := by
    have z := tab.sz
    rw [List.length_map] at z
    unfold SetTable.fill
    rw [tab.dm, z]
    rfl
  rcases Bool.eq_false_or_eq_true t1.tooFull with tf | tf
  · have full : L1.length * 5 ≥ t1.mask * 3 := by
      unfold SetTable.tooFull at tf
      rw [decide_eq_true_eq, len1] at tf
      exact tf
    rw [tf]
    refine wp_if_pos (by decide) (wpAny_bind ?_)
    have go : ∀ M, SetTable.sizeAbove (SetTable.grown L1.length) - 1 = M → MaskOk M → SetTable.sizeAbove (SetTable.grown L1.length) ≤ 128 → L1.length * 5 < M * 3 → L1.length ≤ t1.mask →
        wpAny (model P w) A (setRelay a (SetTable.grown L1.length)) (fun _ s' => wpAny (model P w) A (pure true) Q E s') E { s with heap := h1 } := fun M g1 g2 g3 g4 g5 => by
      refine relay_q (s := { s with heap := h1 }) ⟨⟨_, ho1, ⟨hex.1, hex.2.1, hex.2.2⟩, rfl⟩, ent, tab, uni, here1, led, cap⟩ g5 g1 g2 g3 g4 fun h' L' es' ep' t' sb' R' pm => ?_
      exact wpAny_pure (q h' L' es' ep' t' (sb.trans sb') R' pm)
    rcases tab.mok with m | m | m
    · have e5 : L1.length = 5 := by omega
      rw [e5] at go ⊢
      exact go 31 (by rw [size_20]) (.inr (.inl rfl)) (by rw [size_20]; decide) (by decide) (by omega)
    · have e5 : L1.length = 19 := by omega
      rw [e5] at go ⊢
      exact go 127 (by rw [size_76]) (.inr (.inr rfl)) (by rw [size_76]; decide) (by decide) (by omega)
    · exact absurd full (by omega)
  · rw [tf]
    refine wp_if_neg (by decide) ?_
    refine wpAny_pure (q h1 L1 es1 _ t1 sb ⟨⟨_, ho1, ⟨hex.1, hex.2.1, hex.2.2⟩, rfl⟩, ent, tab, uni, here1, led, ?_, cap⟩ (List.Perm.refl _))
    unfold SetTable.tooFull at tf
    rw [decide_eq_false_iff_not, len1] at tf
    omega
theorem add_q (R : Hs P w s.heap a L es ep t) {x : Addr} {k : List Str} (hx : Tq P w s.heap k x) (hu : A.units < cLine) (cap : L.length + 1 < 64) {Q : Bool → Shared → Prop}
    (q : ∀ b h' L' es' ep' t', Heap.SameBut a s.heap h' → Hs P w h' a L' es' ep' t' → (k ∈ L.map Prod.snd → L' = L) → (k ∉ L.map Prod.snd → L'.Perm ((x, k) :: L)) → Q b { s with heap := h' }) :
    wpAny (model P w) A (setAddHashed a (.ref x) (hq P w k)) Q E s := by
  obtain ⟨o, ho, hex, hd⟩ := R.obj
  have size := rows_len R.ent
  have room := R.low
  unfold setAddHashed
  refine wpAny_holding ?_
  rw [show (100000 : Nat) = 99999 + 1 from rfl, add_is]
  unfold addStep
  refine wpAny_bind (wpAny_setState_of ho hd R.fits ?_)
  dsimp only
  refine wp_if_neg (by simp [byScan, Value.scannable]) ?_
  try refine wpAny_bind (wpAny_pure ?_)
  refine wpAny_bind (seek_all R hx hu (fun hm => ?_) fun K G hm => ?_)
  · dsimp only
    exact wpAny_pure (q false s.heap L es ep t (Heap.SameBut.refl a s.heap) R (fun _ => rfl) fun z => absurd hm z)
  · dsimp only
    refine wpAny_bind (wpAny_setState_of ho hd R.fits ?_)
    dsimp only
    obtain ⟨p1, p2, p3, p4, p5, p6, p7, p8, p9⟩ := R.tab.put G.free G.full
    generalize t.put (way t.mask (hq P w k) K) = pt at p1 p3 p4 p5 p6 p7 p8 p9 ⊢
    obtain ⟨t1, p⟩ := pt
    dsimp only at p1 p3 p4 p5 p6 p7 p8 p9 ⊢
    rw [← p1] at p2 p3
    have pm := ins_perm L p (x, k)
    have ent : (SetTable.insertAt es p (hq P w k, Value.ref x)).toList = rows P w (L.take p ++ (x, k) :: L.drop p) := by rw [SetTable.toList_insertAt, rows_ins, R.ent]
    have e3 : (L.take p ++ (x, k) :: L.drop p).map (fun q => hq P w q.2) = (L.map fun q => hq P w q.2).take p ++ hq P w k :: (L.map fun q => hq P w q.2).drop p := by
      simp only [List.map_append, List.map_cons, List.map_take, List.map_drop]
    rw [← e3] at p3
    generalize L.take p ++ (x, k) :: L.drop p = L1 at pm ent p3
    generalize SetTable.insertAt es p (hq P w k, Value.ref x) = es1 at ent ⊢
    have len : L1.length = L.length + 1 := pm.length_eq
    have rest : ∀ t2 : SetTable, t2.place = t1.place → t2.dummies = t1.dummies → t2.mask = t1.mask → t2.led = t1.led → wpAny (model P w) A (do
        storeSet a es1 t2
        if !false && t2.tooFull then setRelay a (SetTable.grown (es.size + 1))
        return true) Q E s := fun t2 c1 c2 c3 c4 => by
      rw [size, ← len]
      refine laid_q ho hex hd ent ⟨?_, ?_, ?_, ?_, ?_, ?_⟩ ?_ ?_ ?_ ?_ ?_ ?_ fun h' L' es' ep' t' sb R' pm' => q true h' L' es' ep' t' sb R' (fun z => absurd z hm) fun _ => pm'.trans pm
      · rw [c1]; exact p3.ris
      · rw [c2]; exact p3.dm
      · rw [c1]; exact p3.sz
      · rw [c3]; exact p3.mok
      · rw [c1, c3]; exact p3.bd
      · rw [c1, c3]; exact p3.reach
      · exact (pm.map Prod.snd).nodup_iff.mpr (List.nodup_cons.mpr ⟨hm, R.uni⟩)
      · intro q0 m0
        rcases List.mem_cons.mp (pm.mem_iff.mp m0) with e | m
        · rw [e]; exact hx
        · exact R.here q0 m
      · rw [c4, p5]; exact R.led
      · omega
      · omega
      · rw [c3, p4, len]; exact room
    have both : ∀ bv : Bool, wpAny (model P w) A (do
        storeSet a es1 (if bv = true then t1 else { t1 with plain := false })
        if !false && (if bv = true then t1 else { t1 with plain := false }).tooFull then setRelay a (SetTable.grown (es.size + 1))
        return true) Q E s := fun bv => by
      cases bv with
      | true => exact rest t1 rfl rfl rfl rfl
      | false => exact rest { t1 with plain := false } rfl rfl rfl rfl
    rcases Bool.eq_false_or_eq_true t1.plain with pl | pl
    · rw [pl]
      exact wpAny_bind (byval_tq hx fun c => both c)
    · rw [pl]
      exact wpAny_bind (wpAny_pure (both true))
end
end ZS

set_option Elab.async false
set_option linter.all false
set_option maxRecDepth 100000
namespace ZS
open PySem PySem.Spec PyProof.Rows L2
section
variable {P : Program} {w : World} {A : Around} {E : Value → Shared → Prop} {s : Shared}
/-- set.update's loop, by any word of the set -/
theorem loop_any {I : Addr} {fp wr : List Addr} {G : Array GenState → Array GenState → Prop} {n : Nat} {Pv : Nat → Value → Prop} {St : Nat → Shared → Prop} {R : Result → Shared → Prop}
    (W : WalksS P w A.in1 I fp wr G n Pv St) (S : Addr) (out : S ∉ fp) (J : Nat → Heap → Prop)
    (frame : ∀ i (h h' : Heap), i ≤ n → J i h → (∀ b o, b ∉ wr → h.get? b = some o → h'.get? b = some o) → J i h')
    (step : ∀ i v (s' : Shared), i < n → Pv i v → J i s'.heap → wpAny (model P w) A.in1 (setAdd S v) (fun _ s2 => ∃ h' tk, s2 = { s' with heap := h', toks := tk } ∧ s'.toks ≤ tk ∧ Heap.SameBut S s'.heap h' ∧ J (i + 1) h') E s') :
    ∀ (k i : Nat) (s : Shared), n = i + k → St i s → J i s.heap → (∀ s', Moved (S :: wr) G s s' → J n s'.heap → R (.ok (.ret .none)) s') → (∀ e s', E e s' → R (.error e) s') →
      codeAny (model P w) A (.builtin "set.update.loop" ⟨[.ref S, .ref I], []⟩) R s := by
  have outw : S ∉ wr := fun m => out (W.sub _ m)
  have sub : ∀ b ∈ wr, b ∈ S :: wr := fun b m => List.Mem.tail _ m
  intro k
  induction k with
  | zero =>
    intro i s hn st j fin _
    obtain rfl : n = i := hn
    refine codeAny_builtin F.entry_set_update_loop ?_
    rw [Around.under_plainId F.plain_set_update_loop _]
    refine wpAny_bind (W.done s _ _ st fun s' mv => ?_)
    exact wpAny_pure (fin s' (mv.mono sub) (frame _ _ _ (Nat.le_refl _) j fun b o nb e => mv.heap b o nb e))
  | succ k ih =>
    intro i s hn st j fin bad
    have lt : i < n := by omega
    refine codeAny_builtin F.entry_set_update_loop ?_
    rw [Around.under_plainId F.plain_set_update_loop _]
    refine wpAny_bind (W.item i s _ _ lt st fun v s' pv st' mv => ?_)
    have j' := frame i _ _ (Nat.le_of_lt lt) j fun b o nb e => mv.heap b o nb e
    show wpAny _ A.in1 (holding [v] (setAdd S v) >>= _) _ _ s'
    refine wpAny_bind (wpAny_holding (wpAny_mono (step i v s' lt pv j') ?_ ?_))
    · intro _ s2 y
      obtain ⟨h', tk, rfl, le, sb, j2⟩ := y
      refine wpAny_pure ⟨plainId_quiet F.plain_set_update_loop _, ih (i + 1) _ (by omega) (W.frame _ s' _ _ st' le fun b hb o e => ?_) j2 (fun s'' mv2 j3 => ?_) bad⟩
      · rw [sb.2 b fun z => out (z ▸ hb)]
        exact e
      · refine fin s'' (Moved.trans W.gtrans ((mv.mono sub).then_heap le fun b o nb e => ?_) mv2) j3
        rw [sb.2 b fun z => nb (z ▸ List.Mem.head _)]
        exact e
    · intro e s2 y
      exact bad e s2 y
end
end ZS

set_option Elab.async false
set_option linter.all false
set_option maxRecDepth 100000
namespace ZS
open PySem PySem.Spec PyProof.Rows L2
/-- a new set, as the model lays it -/
abbrev anew (w : World) : Obj := { cls := .type "set", dict := none, data := .set #[] 0 (.fresh 0 0 (!w.params.followText "set-order")) }
/-- what set(xs) leaves -/
def Left (s : Shared) (J : Heap → Prop) (s2 : Shared) : Prop := ∃ h' tk, s2 = { s with heap := h', toks := tk } ∧ J h' ∧ ∀ b o, s.heap.get? b = some o → h'.get? b = some o
section
variable {P : Program} {w : World} {A : Around} {E : Value → Shared → Prop} {s : Shared}
/-- one element is put in -/
abbrev Step (P : Program) (w : World) (S : Addr) (Pv : Nat → Value → Prop) (n : Nat) (J : Nat → Heap → Prop) : Prop :=
  ∀ (A : Around) (E : Value → Shared → Prop) (i : Nat) (v : Value) (s' : Shared), A.units < cLine → i < n → Pv i v → J i s'.heap → wpAny (model P w) A (setAdd S v) (fun _ s2 => ∃ h' tk, s2 = { s' with heap := h', toks := tk } ∧ s'.toks ≤ tk ∧ Heap.SameBut S s'.heap h' ∧ J (i + 1) h') E s'
theorem unmoved {S I : Addr} {s0 s s' : Shared} {G : Array GenState → Array GenState → Prop} (mv : Moved [S, I] G s s') (hS : s0.heap.get? S = none) (hI : s0.heap.get? I = none) (hs : ∀ b o, s0.heap.get? b = some o → s.heap.get? b = some o) :
    ∀ b o, s0.heap.get? b = some o → s'.heap.get? b = some o := fun b o e => by
  refine mv.heap b o (fun m => ?_) (hs b o e)
  rcases List.mem_cons.mp m with z | z
  · rw [z, hS] at e
    cases e
  · rw [List.mem_singleton.mp z, hI] at e
    cases e
theorem none_from {h : Heap} {b : Addr} (le : h.objs.size ≤ b) : h.get? b = none := by
  cases q : h.get? b with
  | none => rfl
  | some o => exact absurd (Heap.lt_size q) (Nat.not_lt_of_le le)
set_option maxHeartbeats 3200000 in
/-- around the walk: what the call of the class does -/
theorem set_of {Q : Value → Shared → Prop} {J : Heap → Prop} (a : Value)
    (init : ∀ (R : PySem.Fin → Shared → Prop) (E : Value → Shared → Prop), (∀ s2, Left s J s2 → R (.done (.ret .none)) s2) → wpAny (model P w) A.in1.in1 (Builtin.«set.__init__» ⟨[.ref s.heap.objs.size, a], []⟩) R E { s with heap := s.heap.push (anew w) })
    (q : ∀ s2, Left s J s2 → Q (.ref s.heap.objs.size) s2) : wpAny (model P w) A (call (.type "set") [a]) Q E s := by
  obtain ⟨c, tl, hmro⟩ := F.called_set.mro
  have hmade := F.called_set.made
  have hsub := F.called_set.sub
  refine wpAny_call (codeAny_of_tree ?_)
  show wpAny _ _ (callAny (.type "set") _) _ _ _
  refine wpAny_pure ⟨Code.quiet_builtin _ (by decide +kernel), codeAny_builtin F.entry_type_call ?_⟩
  rw [Around.under_plain (weight_type_call_type "set" [a] []) rfl]
  have h1 := F.called_set.notType
  have h2 := F.called_set.canCreate
  have hct := F.typeCall_set_1 a
  repeat (any_goals (first | assumption | wp_step))
  refine codeAny_mono (code_set_led1 a (E := E) (Q₁ := fun obj s₁ => obj = .ref s.heap.objs.size ∧ s₁ = { s with heap := s.heap.push (anew w) }) ⟨rfl, rfl⟩) fun r s₁ hr => ?_
  cases r with
  | error e => exact hr
  | ok fl =>
    cases fl with
    | ret obj =>
      obtain ⟨rfl, rfl⟩ := hr
      have hS : (s.heap.push (anew w)).get? s.heap.objs.size = some (anew w) := Heap.get?_push_size _ rfl
      have hT : Shared.TypeIs { s with heap := s.heap.push (anew w) } (.ref s.heap.objs.size) "set" := ⟨_, hS, rfl⟩
      have hli := F.called_set.init.lookup
      have hbi := F.called_set.init.bind (.ref s.heap.objs.size)
      repeat (any_goals (first | assumption | wp_step))
      refine codeAny_mono (codeAny_call_builtin (R := wants (fun r s₂ => r = .none ∧ Left s J s₂) E) F.called_set.init.plain F.entry_set_init (check_set_init_1 hT ?_)) fun r₂ s₂ hr₂ => ?_
      · exact init _ _ fun s2 y => ⟨rfl, y⟩
      · cases r₂ with
        | error e => exact hr₂
        | ok fl₂ =>
          cases fl₂ with
          | ret r =>
            obtain ⟨rfl, hL⟩ := hr₂
            repeat (any_goals (first | assumption | wp_step))
            exact q _ hL
          | _ => exact hr₂.elim
    | _ => exact hr.elim

set_option maxHeartbeats 3200000 in
/-- set(xs) of a list -/
theorem set_list {l : Addr} {items : Array Value} {Q : Value → Shared → Prop} {J : Nat → Heap → Prop} (calm : A.handled = none) (hu : A.units + 6 < cLine) (hl : s.heap.IsList l items)
    (j0 : ∀ h', (∀ b o, (s.heap.push (anew w)).get? b = some o → h'.get? b = some o) → J 0 h')
    (frame : ∀ i (h h' : Heap), i ≤ items.size → J i h → (∀ b o, b ∉ [(s.heap.push (anew w)).objs.size] → h.get? b = some o → h'.get? b = some o) → J i h')
    (step : Step P w s.heap.objs.size (fun i v => items[i]? = some v) items.size J)
    (q : ∀ s2, Left s (J items.size) s2 → Q (.ref s.heap.objs.size) s2) : wpAny (model P w) A (call (.type "set") [.ref l]) Q E s := by
  refine set_of (J := J items.size) (.ref l) (fun R E fin => ?_) q
  obtain ⟨ol, hol, hcl, nl, hdl⟩ := hl
  obtain ⟨ocls, odict, odata, oslots⟩ := ol
  simp only at hcl hdl
  subst hcl; subst hdl
  have hol' : (s.heap.push (anew w)).get? l = some { cls := .type "list", dict := odict, data := .seq items nl, slots := oslots } := Heap.get?_push_of_some _ hol
  have hsls := F.sub_list_set
  have hslf := F.sub_list_frozenset
  have hne : (Value.type "list" == Value.type "dict") = false := by decide
  have hl1 : (s.heap.push (anew w)).IsList l items := ⟨_, hol', rfl, nl, rfl⟩
  unfold Builtin.«set.__init__» noKeywords Builtin.Frozenset.updateFrom
  generalize hPI : pyIter = PI
  wp_walk
  subst hPI
  refine wpAny_pyIter_list hl1 ?_
  refine wpAny_bind (wpAny_runValue ?_)
  have lS : l < s.heap.objs.size := Heap.lt_size hol
  have nI : l ≠ (s.heap.push (anew w)).objs.size := by
    rw [Heap.size_push]
    exact Nat.ne_of_lt (Nat.lt_succ_of_lt lS)
  have out : s.heap.objs.size ∉ [(s.heap.push (anew w)).objs.size, l] := by
    rw [Heap.size_push]
    intro m
    rcases List.mem_cons.mp m with z | z
    · exact absurd z (Nat.ne_of_lt (Nat.lt_succ_self _))
    · exact absurd (List.mem_singleton.mp z) (Nat.ne_of_gt lS)
  refine loop_any (E := E) ((Walks.list (by simp [calm]) _ l nI items).toS) s.heap.objs.size out J frame (fun i v s' lt pv j => step _ _ i v s' (by simp; omega) lt pv j) items.size 0 _ (by omega)
    ⟨⟨_, Heap.get?_push_size _ rfl, rfl, rfl⟩, hl1.push _⟩ (j0 _ fun b o e => Heap.get?_push_of_some _ e) ?_ ?_
  · intro s' mv j
    have keep := unmoved (s0 := s) mv (none_from (Nat.le_refl _)) (none_from (by rw [Heap.size_push]; exact Nat.le_succ _)) fun b o e => Heap.get?_push_of_some _ (Heap.get?_push_of_some _ e)
    obtain ⟨h', g', d', tk', os'⟩ := s'
    obtain rfl : g' = s.gens := mv.gens
    obtain rfl : d' = s.drawn := mv.drawn
    obtain rfl : os' = s.os := mv.os
    refine wpAny_pure ?_
    exact wpAny_pure (fin _ ⟨h', tk', rfl, j, keep⟩)
  · intro e s' y
    exact y

set_option maxHeartbeats 3200000 in
/-- set(xs) of a tuple -/
theorem set_tup {l : Addr} {items : Array Value} {Q : Value → Shared → Prop} {J : Nat → Heap → Prop} (calm : A.handled = none) (hu : A.units + 6 < cLine) (hl : s.heap.IsTuple l items)
    (j0 : ∀ h', (∀ b o, (s.heap.push (anew w)).get? b = some o → h'.get? b = some o) → J 0 h')
    (frame : ∀ i (h h' : Heap), i ≤ items.size → J i h → (∀ b o, b ∉ [(s.heap.push (anew w)).objs.size] → h.get? b = some o → h'.get? b = some o) → J i h')
    (step : Step P w s.heap.objs.size (fun i v => items[i]? = some v) items.size J)
    (q : ∀ s2, Left s (J items.size) s2 → Q (.ref s.heap.objs.size) s2) : wpAny (model P w) A (call (.type "set") [.ref l]) Q E s := by
  refine set_of (J := J items.size) (.ref l) (fun R E fin => ?_) q
  obtain ⟨ol, hol, hcl, nl, hdl⟩ := hl
  obtain ⟨ocls, odict, odata, oslots⟩ := ol
  simp only at hcl hdl
  subst hcl; subst hdl
  have hol' : (s.heap.push (anew w)).get? l = some { cls := .type "tuple", dict := odict, data := .seq items nl, slots := oslots } := Heap.get?_push_of_some _ hol
  have hsls := F.sub_tuple_set
  have hslf := F.sub_tuple_frozenset
  have hne : (Value.type "tuple" == Value.type "dict") = false := by decide
  have hl1 : (s.heap.push (anew w)).IsTuple l items := ⟨_, hol', rfl, nl, rfl⟩
  unfold Builtin.«set.__init__» noKeywords Builtin.Frozenset.updateFrom
  generalize hPI : pyIter = PI
  wp_walk
  subst hPI
  refine wpAny_pyIter_tuple hl1 ?_
  refine wpAny_bind (wpAny_runValue ?_)
  have lS : l < s.heap.objs.size := Heap.lt_size hol
  have nI : l ≠ (s.heap.push (anew w)).objs.size := by
    rw [Heap.size_push]
    exact Nat.ne_of_lt (Nat.lt_succ_of_lt lS)
  have out : s.heap.objs.size ∉ [(s.heap.push (anew w)).objs.size, l] := by
    rw [Heap.size_push]
    intro m
    rcases List.mem_cons.mp m with z | z
    · exact absurd z (Nat.ne_of_lt (Nat.lt_succ_self _))
    · exact absurd (List.mem_singleton.mp z) (Nat.ne_of_gt lS)
  refine loop_any (E := E) ((Walks.tuple (by simp [calm]) _ l nI items).toS) s.heap.objs.size out J frame (fun i v s' lt pv j => step _ _ i v s' (by simp; omega) lt pv j) items.size 0 _ (by omega)
    ⟨⟨_, Heap.get?_push_size _ rfl, rfl, rfl⟩, hl1.push _⟩ (j0 _ fun b o e => Heap.get?_push_of_some _ e) ?_ ?_
  · intro s' mv j
    have keep := unmoved (s0 := s) mv (none_from (Nat.le_refl _)) (none_from (by rw [Heap.size_push]; exact Nat.le_succ _)) fun b o e => Heap.get?_push_of_some _ (Heap.get?_push_of_some _ e)
    obtain ⟨h', g', d', tk', os'⟩ := s'
    obtain rfl : g' = s.gens := mv.gens
    obtain rfl : d' = s.drawn := mv.drawn
    obtain rfl : os' = s.os := mv.os
    refine wpAny_pure ?_
    exact wpAny_pure (fin _ ⟨h', tk', rfl, j, keep⟩)
  · intro e s' y
    exact y
end
end ZS

set_option Elab.async false
set_option linter.all false
set_option maxRecDepth 100000
namespace ZS
open PySem PySem.Spec PyProof.Rows L2
/-! ### sets of texts -/
def kS (e : Int × Value) : Str := match e.2 with
  | .str x _ => x
  | _ => Str.empty
def Gs (w : World) (e : Int × Value) : Prop := ∃ x tk, e.2 = Value.str x tk ∧ e.1 = hashStr w x
/-- THE INVARIANT of a set of texts -/
structure Hv (w : World) (h : Heap) (a : Addr) (es : Array (Int × Value)) (ep : Nat) (t : SetTable) : Prop where
  obj : ∃ o, h.get? a = some o ∧ o.ExactSet ∧ o.data = .set es ep t
  good : ∀ e ∈ es.toList, Gs w e
  uni : (es.toList.map kS).Nodup
  fits : t.fits es.size = true
  ris : Ris t.place.toList
  led : w.params.followText "set-order" = true ∨ t.led = true
section
variable {P : Program} {w : World} {A : Around} {E : Value → Shared → Prop} {s : Shared}
variable {a : Addr} {es : Array (Int × Value)} {ep : Nat} {t : SetTable}
theorem gs_elems {l : List (Int × Value)} (g : ∀ e ∈ l, Gs w e) : ElemsOf (strKind P w) l := fun e m => by
  obtain ⟨x, tk, e2, e1⟩ := g e m
  exact ⟨⟨x, by rw [e2]; exact decide_eq_true rfl, e1⟩, by rw [e2]; rfl⟩
theorem gs_is {e : Int × Value} (g : Gs w e) (x : Str) : (strKind P w).is x e.2 = true ↔ kS e = x := by
  obtain ⟨y, tk, e2, _⟩ := g
  unfold kS
  rw [e2]
  constructor
  · intro z
    obtain ⟨t, z⟩ := Value.isStrOf_shape (show Value.isStrOf x (Value.str y tk) = true from z)
    injection z
  · intro z
    rw [← z]
    exact decide_eq_true rfl
/-- one more row, in any place -/
theorem hv_more {g : Bool → Sem Unit} (hg : ∀ (b : Bool) (s₁ : Shared) (Q' : Unit → Shared → Prop), Q' () s₁ → wpAny (model P w) A (g b) Q' E s₁) {o : Obj} (ho : s.heap.get? a = some o) (hex : o.ExactSet) (hd : o.data = .set es ep t)
    {es1 : Array (Int × Value)} {t2 : SetTable} (good : ∀ e ∈ es1.toList, Gs w e) (uni : (es1.toList.map kS).Nodup) (small : es1.size < scanBound) (fits : t2.fits es1.size = true) (ris : Ris t2.place.toList)
    (led : w.params.followText "set-order" = true ∨ t2.led = true) {dm : Bool} {R : Option Bool → Shared → Prop}
    (q : ∀ h' es' ep' t', Heap.SameBut a s.heap h' → Hv w h' a es' ep' t' → es'.toList.Perm es1.toList → R (some true) { s with heap := h' }) :
    wpAny (model P w) A (do
      storeSet a es1 t2
      if (!dm && t2.tooFull) = true then do
        g (relayAll t2 es1 (SetTable.grown es1.size)).2.2
        storeSet a (relayAll t2 es1 (SetTable.grown es1.size)).1 (relayAll t2 es1 (SetTable.grown es1.size)).2.1
        pure (some true)
      else pure (some true)) R E s := by
  have sb := Heap.SameBut.update s.heap a (Obj.putSet es1 t2)
  have ho1 := store_at (es' := es1) (t' := t2) ho hd
  refine wpAny_bind (wpAny_storeSet_of ho hd ?_ (fits_of_scanBound small))
  split
  · have e1 := relayAll_perm t2 es1 (SetTable.grown es1.size)
    have e2 := relayAll_fits t2 es1 (SetTable.grown es1.size)
    have e3 := relayAll_ris t2 es1 (SetTable.grown es1.size)
    have e4 := relayAll_led t2 es1 (SetTable.grown es1.size)
    generalize relayAll t2 es1 (SetTable.grown es1.size) = z at e1 e2 e3 e4 ⊢
    obtain ⟨es3, t3, gave⟩ := z
    dsimp only at e1 e2 e3 e4 ⊢
    have e5 : es3.size = es1.size := by simpa using e1.length_eq
    refine wpAny_bind (hg _ _ _ (wpAny_bind (wpAny_storeSet_of ho1 rfl ?_ (fits_of_scanBound (e5 ▸ small)))))
    have ho3 := store_at (es' := es3) (t' := t3) ho1 rfl
    refine wpAny_pure (q _ es3 _ t3 (sb.trans (Heap.SameBut.update _ a _)) ⟨⟨_, ho3, hex, rfl⟩, fun e m => good e (e1.mem_iff.mp m), (e1.map kS).nodup_iff.mpr uni, e2, e3, ?_⟩ e1)
    rw [e4]
    exact led
  · exact wpAny_pure (q _ es1 _ t2 sb ⟨⟨_, ho1, hex, rfl⟩, good, uni, fits, ris, led⟩ (List.Perm.refl _))
theorem addS_q (R : Hv w s.heap a es ep t) {x : Str} {tk : Tok} (small : es.size + 1 < scanBound) {Q : Bool → Shared → Prop}
    (q : ∀ b h' es' ep' t', Heap.SameBut a s.heap h' → Hv w h' a es' ep' t' → es'.size ≤ es.size + 1 → (∀ y, y ∈ es'.toList.map kS ↔ y = x ∨ y ∈ es.toList.map kS) → Q b { s with heap := h' }) :
    wpAny (model P w) A (setAddHashed a (.str x tk) (hashStr w x)) Q E s := by
  obtain ⟨⟨o, ho, hex, hd⟩, good, uni, fits, ris, led⟩ := id R
  have isx : (strKind P w).is x (.str x tk) = true := decide_eq_true rfl
  have sc : (Value.str x tk).scannable = true := rfl
  have el : ElemsOf (strKind P w) es.toList := gs_elems good
  unfold setAddHashed setAddHashedIn
  refine wpAny_holding (wpAny_bind (wpAny_setState_of ho hd fits ?_))
  dsimp only
  rw [byScan_of sc (Nat.lt_of_succ_lt small) el]
  simp only [↓reduceIte]
  unfold setAddByScan
  refine wpAny_bind (wpAny_bind (wpAny_rule (wpAny_bind (wpAny_setScan_of (knd := strKind P w) isx ho hd fits el ?_))))
  cases f : List.findIdx? (fun e => (strKind P w).is x e.2) es.toList with
  | some j =>
    dsimp only
    obtain ⟨j1, j2, _⟩ := List.findIdx?_eq_some_iff_getElem.mp f
    have m := List.getElem_mem j1
    refine wpAny_pure (wpAny_pure (q false s.heap es ep t (Heap.SameBut.refl a s.heap) R (Nat.le_succ _) fun y => ⟨Or.inr, fun z => z.elim (fun z => ?_) id⟩))
    rw [z]
    exact List.mem_map.mpr ⟨_, m, (gs_is (good _ m) x).mp j2⟩
  | none =>
    dsimp only
    have new : x ∉ es.toList.map kS := fun m => by
      obtain ⟨e, m1, m2⟩ := List.mem_map.mp m
      have c := List.findIdx?_eq_none_iff.mp f e m1
      rw [(gs_is (good e m1) x).mpr m2] at c
      cases c
    have c1 := layNew_perm t es (hashStr w x) (.str x tk)
    have c2 := layNew_fits t es (hashStr w x) (.str x tk)
    have c3 := layNew_ris t es (hashStr w x) (.str x tk) ris
    have c4 := layNew_led t es (hashStr w x) (.str x tk)
    show wpAny _ _ (match layNew t es (hashStr w x) (.str x tk) with | (es, t, wasDummy, gave) => _) _ _ s
    generalize layNew t es (hashStr w x) (.str x tk) = z at c1 c2 c3 c4 ⊢
    obtain ⟨es1, t1, wd, gave⟩ := z
    dsimp only at c1 c2 c3 c4 ⊢
    rw [Array.toList_push] at c1
    have c5 : es1.toList.Perm ((hashStr w x, Value.str x tk) :: es.toList) := c1.trans (List.perm_append_singleton _ _)
    have c6 : (es1.toList.map kS).Perm (x :: es.toList.map kS) := c5.map kS
    have c7 : es1.size = es.size + 1 := by simpa using c5.length_eq
    have good1 : ∀ e ∈ es1.toList, Gs w e := fun e m => (List.mem_cons.mp (c5.mem_iff.mp m)).elim (fun z => z ▸ ⟨x, tk, rfl, rfl⟩) (good e)
    have uni1 : (es1.toList.map kS).Nodup := c6.nodup_iff.mpr (List.nodup_cons.mpr ⟨new, uni⟩)
    have led1 : w.params.followText "set-order" = true ∨ t1.led = true := by rw [c4]; exact led
    have small1 : es1.size < scanBound := c7 ▸ small
    have fin : ∀ h' es' ep' t', Heap.SameBut a s.heap h' → Hv w h' a es' ep' t' → es'.toList.Perm es1.toList → Q true { s with heap := h' } := fun h' es' ep' t' sb R' pm =>
      q true h' es' ep' t' sb R' (by have z : es'.size = es1.size := by simpa using pm.length_eq
                                     omega) fun y => by
        rw [(pm.map kS).mem_iff, c6.mem_iff, List.mem_cons]
    have quiet : ∀ (b : Bool) (s₁ : Shared) (Q' : Unit → Shared → Prop), Q' () s₁ → wpAny (model P w) A (match b with | true => rule "set.scan.the-table-gave-way" | false => pure ()) Q' E s₁ :=
      fun b s₁ Q' y => by cases b <;> first | exact wpAny_pure y | exact wpAny_rule y
    refine wpAny_bind (quiet _ _ _ ?_)
    rcases Bool.eq_false_or_eq_true t1.plain with pl | pl
    · rw [pl]
      refine wpAny_bind ?_
      rw [hashByValue_scannable 8 sc]
      refine wpAny_pure ?_
      refine hv_more quiet ho hex hd good1 uni1 small1 ?_ ?_ ?_ ?_
      · exact SetTable.fits_plain_off c2
      · exact c3
      · exact led1
      · intro h' es' ep' t' sb R' pm
        exact wpAny_pure (fin h' es' ep' t' sb R' pm)
    · rw [pl]
      refine wpAny_bind (wpAny_pure ?_)
      refine hv_more quiet ho hex hd good1 uni1 small1 c2 c3 led1 ?_
      intro h' es' ep' t' sb R' pm
      exact wpAny_pure (fin h' es' ep' t' sb R' pm)
end
end ZS

set_option Elab.async false
set_option linter.all false
set_option maxRecDepth 100000
/-! Strict orders, and the one rising list of given members. -/
namespace ZO
open PySem PySem.Spec PyProof.Rows
/-- a strict total order -/
structure Sto {α : Type} (lt : α → α → Bool) : Prop where
  irr : ∀ x, lt x x = false
  tr : ∀ x y z, lt x y = true → lt y z = true → lt x z = true
  tot : ∀ x y, x ≠ y → lt x y = true ∨ lt y x = true
section
variable {α : Type} [DecidableEq α] {lt : α → α → Bool}
theorem Sto.asym (O : Sto lt) {x y : α} (h : lt x y = true) : lt y x = false := by
  cases e : lt y x with
  | false => rfl
  | true =>
    have z := O.tr x y x h e
    rw [O.irr] at z
    cases z
theorem Sto.ne (O : Sto lt) {x y : α} (h : lt x y = true) : x ≠ y := fun e => by
  rw [e, O.irr] at h
  cases h
theorem Sto.of_not (O : Sto lt) {x y : α} (h : lt y x = false) (ne : x ≠ y) : lt x y = true := (O.tot x y ne).elim id fun z => by
  rw [h] at z
  cases z
/-- rising: each is below all behind it -/
abbrev Up (lt : α → α → Bool) (l : List α) : Prop := l.Pairwise fun x y => lt x y = true
theorem Up.nodup (O : Sto lt) {l : List α} (h : Up lt l) : l.Nodup := List.Pairwise.imp (fun z => O.ne z) h
/-- two rising lists with the same members are one -/
theorem up_one (O : Sto lt) : ∀ {l m : List α}, Up lt l → Up lt m → (∀ x, x ∈ l ↔ x ∈ m) → l = m
  | [], [], _, _, _ => rfl
  | [], y :: m, _, _, h => absurd ((h y).mpr (List.Mem.head _)) (by simp)
  | x :: l, [], _, _, h => absurd ((h x).mp (List.Mem.head _)) (by simp)
  | x :: l, y :: m, hl, hm, h => by
    obtain ⟨l1, l2⟩ := List.pairwise_cons.mp hl
    obtain ⟨m1, m2⟩ := List.pairwise_cons.mp hm
    have e : x = y := by
      rcases List.mem_cons.mp ((h x).mp (List.Mem.head _)) with z | z
      · exact z
      · rcases List.mem_cons.mp ((h y).mpr (List.Mem.head _)) with u | u
        · exact u.symm
        · have a := m1 x z
          rw [O.asym (l1 y u)] at a
          cases a
    subst e
    have e2 : l = m := up_one O l2 m2 fun z => by
      constructor
      · intro hz
        exact (List.mem_cons.mp ((h z).mp (List.Mem.tail _ hz))).elim (fun e => absurd e (O.ne (l1 z hz)).symm) id
      · intro hz
        exact (List.mem_cons.mp ((h z).mpr (List.Mem.tail _ hz))).elim (fun e => absurd e (O.ne (m1 z hz)).symm) id
    rw [e2]
def ins (lt : α → α → Bool) (x : α) : List α → List α
  | [] => [x]
  | y :: l => if x = y then y :: l else if lt x y = true then x :: y :: l else y :: ins lt x l
/-- the rising list of the members -/
def can (lt : α → α → Bool) (l : List α) : List α := l.foldr (ins lt) []
theorem mem_ins {x z : α} : ∀ {l : List α}, z ∈ ins lt x l ↔ z = x ∨ z ∈ l
  | [] => by simp [ins]
  | y :: l => by
    unfold ins
    by_cases e : x = y
    · rw [if_pos e]
      constructor
      · exact Or.inr
      · intro h
        rcases h with h | h
        · rw [h, e]; exact List.Mem.head _
        · exact h
    · rw [if_neg e]
      by_cases e2 : lt x y = true
      · rw [if_pos e2]
        exact List.mem_cons
      · rw [if_neg e2, List.mem_cons, mem_ins, List.mem_cons]
        constructor
        · rintro (h | h | h)
          · exact .inr (.inl h)
          · exact .inl h
          · exact .inr (.inr h)
        · rintro (h | h | h)
          · exact .inr (.inl h)
          · exact .inl h
          · exact .inr (.inr h)
theorem up_ins (O : Sto lt) (x : α) : ∀ {l : List α}, Up lt l → Up lt (ins lt x l)
  | [], _ => List.pairwise_singleton _ _
  | y :: l, h => by
    obtain ⟨h1, h2⟩ := List.pairwise_cons.mp h
    unfold ins
    by_cases e : x = y
    · rw [if_pos e]
      exact h
    · rw [if_neg e]
      by_cases e2 : lt x y = true
      · rw [if_pos e2]
        refine List.pairwise_cons.mpr ⟨fun z hz => ?_, h⟩
        rcases List.mem_cons.mp hz with e3 | hz
        · rw [e3]; exact e2
        · exact O.tr x y z e2 (h1 z hz)
      · rw [if_neg e2]
        refine List.pairwise_cons.mpr ⟨fun z hz => ?_, up_ins O x h2⟩
        rcases mem_ins.mp hz with e3 | hz
        · rw [e3]
          exact (O.tot x y e).resolve_left e2
        · exact h1 z hz
theorem mem_can {z : α} : ∀ {l : List α}, z ∈ can lt l ↔ z ∈ l
  | [] => Iff.rfl
  | x :: l => by
    show z ∈ ins lt x (can lt l) ↔ _
    rw [mem_ins, mem_can, List.mem_cons]
theorem up_can (O : Sto lt) : ∀ (l : List α), Up lt (can lt l)
  | [] => List.Pairwise.nil
  | x :: l => up_ins O x (up_can O l)
theorem can_eq (O : Sto lt) {l m : List α} (h : Up lt m) (e : ∀ x, x ∈ m ↔ x ∈ l) : m = can lt l := up_one O h (up_can O l) fun x => (e x).trans mem_can.symm
theorem can_self (O : Sto lt) {l : List α} (h : Up lt l) : can lt l = l := (can_eq O h fun _ => Iff.rfl).symm
theorem can_len (O : Sto lt) (l : List α) : (can lt l).length ≤ l.length := by
  have one : ∀ (x : α) (m : List α), (ins lt x m).length ≤ m.length + 1 := by
    intro x m
    induction m with
    | nil => exact Nat.le_refl _
    | cons y m ih =>
      unfold ins
      split
      · exact Nat.le_succ _
      · split
        · exact Nat.le_refl _
        · exact Nat.succ_le_succ ih
  induction l with
  | nil => exact Nat.le_refl _
  | cons x l ih => exact Nat.le_trans (one x _) (Nat.succ_le_succ ih)
end
/-! ### texts -/
def sLt (x y : Str) : Bool := decide (x.cps.toList < y.cps.toList)
theorem str_eq {x y : Str} (h : x.cps.toList = y.cps.toList) : x = y := by
  cases x
  cases y
  congr 1
  exact Array.toList_inj.mp h
theorem sto_s : Sto sLt where
  irr := fun x => decide_eq_false (List.lt_irrefl _)
  tr := fun x y z a b => decide_eq_true (List.lt_trans (of_decide_eq_true a) (of_decide_eq_true b))
  tot := fun x y ne => by
    have h : x.cps.toList ≠ y.cps.toList := fun e => ne (str_eq e)
    unfold sLt
    rw [decide_eq_true_eq, decide_eq_true_eq]
    by_cases a : x.cps.toList < y.cps.toList
    · exact .inl a
    · by_cases b : y.cps.toList < x.cps.toList
      · exact .inr b
      · exact absurd (List.le_antisymm (show x.cps.toList ≤ y.cps.toList from b) (show y.cps.toList ≤ x.cps.toList from a)) h
theorem up_of_sorted : ∀ {l : List Str}, sortedS l = true → l.Nodup → Up sLt l := by
  have rise : ∀ (l : List Str) (p : Str), risingS p l = true → (p :: l).Pairwise fun x y => ltCps y.cps.toList x.cps.toList = false := by
    intro l
    induction l with
    | nil => exact fun p _ => List.pairwise_singleton _ _
    | cons x l ih =>
      intro p h
      have h' : (!ltCps x.cps.toList p.cps.toList && risingS x l) = true := h
      rw [Bool.and_eq_true, Bool.not_eq_true'] at h'
      have t := ih x h'.2
      obtain ⟨t1, t2⟩ := List.pairwise_cons.mp t
      refine List.pairwise_cons.mpr ⟨fun z hz => ?_, t⟩
      rcases List.mem_cons.mp hz with e | hz
      · rw [e]; exact h'.1
      · have a := t1 z hz
        have b := h'.1
        rw [ltCps_eq, decide_eq_false_iff_not] at a b ⊢
        intro c
        by_cases e : x.cps.toList = z.cps.toList
        · rw [← e] at c
          exact b c
        · by_cases d : x.cps.toList < z.cps.toList
          · exact b (List.lt_trans d c)
          · exact e (List.le_antisymm (show x.cps.toList ≤ z.cps.toList from a) (show z.cps.toList ≤ x.cps.toList from d))
  intro l h nd
  cases l with
  | nil => exact List.Pairwise.nil
  | cons p l =>
    have a := rise l p h
    refine List.Pairwise.imp₂ (fun x y (u : ltCps y.cps.toList x.cps.toList = false) (v : x ≠ y) => ?_) a nd
    refine sto_s.of_not ?_ v
    rw [ltCps_eq] at u
    exact u
/-! ### tuples of texts -/
def tLt : List Str → List Str → Bool
  | _, [] => false
  | [], _ :: _ => true
  | x :: xs, y :: ys => if x = y then tLt xs ys else sLt x y
theorem sto_t : Sto tLt where
  irr := fun x => by
    induction x with
    | nil => rfl
    | cons x xs ih =>
      show (if x = x then tLt xs xs else sLt x x) = false
      rw [if_pos rfl]
      exact ih
  tr := fun x => by
    induction x with
    | nil =>
      intro y z a b
      cases y with
      | nil => cases a
      | cons y ys =>
        cases z with
        | nil => cases b
        | cons z zs => rfl
    | cons x xs ih =>
      intro y z a b
      cases y with
      | nil => cases a
      | cons y ys =>
        cases z with
        | nil => cases b
        | cons z zs =>
          have a : (if x = y then tLt xs ys else sLt x y) = true := a
          have b : (if y = z then tLt ys zs else sLt y z) = true := b
          show (if x = z then tLt xs zs else sLt x z) = true
          by_cases e1 : x = y
          · rw [if_pos e1] at a
            by_cases e2 : y = z
            · rw [if_pos e2] at b
              rw [if_pos (e1.trans e2)]
              exact ih _ _ a b
            · rw [if_neg e2] at b
              rw [e1, if_neg e2]
              exact b
          · rw [if_neg e1] at a
            by_cases e2 : y = z
            · rw [if_pos e2] at b
              rw [← e2, if_neg e1]
              exact a
            · rw [if_neg e2] at b
              have c := sto_s.tr x y z a b
              rw [if_neg (sto_s.ne c)]
              exact c
  tot := fun x => by
    induction x with
    | nil =>
      intro y ne
      cases y with
      | nil => exact absurd rfl ne
      | cons y ys => exact .inl rfl
    | cons x xs ih =>
      intro y ne
      cases y with
      | nil => exact .inr rfl
      | cons y ys =>
        show (if x = y then tLt xs ys else sLt x y) = true ∨ (if y = x then tLt ys xs else sLt y x) = true
        by_cases e : x = y
        · rw [if_pos e, if_pos e.symm]
          exact ih ys fun z => ne (by rw [e, z])
        · rw [if_neg e, if_neg fun z => e z.symm]
          exact sto_s.tot x y e
/-- fewer first, among as many by comparison -/
def kLt (x y : List Str) : Bool := if x.length = y.length then tLt x y else decide (x.length < y.length)
theorem sto_k : Sto kLt where
  irr := fun x => by
    unfold kLt
    rw [if_pos rfl]
    exact sto_t.irr x
  tr := fun x y z a b => by
    unfold kLt at a b ⊢
    by_cases e1 : x.length = y.length
    · rw [if_pos e1] at a
      by_cases e2 : y.length = z.length
      · rw [if_pos e2] at b
        rw [if_pos (e1.trans e2)]
        exact sto_t.tr _ _ _ a b
      · rw [if_neg e2] at b
        rw [e1, if_neg e2]
        exact b
    · rw [if_neg e1, decide_eq_true_eq] at a
      by_cases e2 : y.length = z.length
      · rw [← e2, if_neg e1]
        exact decide_eq_true a
      · rw [if_neg e2, decide_eq_true_eq] at b
        rw [if_neg (by omega)]
        exact decide_eq_true (by omega)
  tot := fun x y ne => by
    unfold kLt
    by_cases e : x.length = y.length
    · rw [if_pos e, if_pos e.symm]
      exact sto_t.tot x y ne
    · rw [if_neg e, if_neg fun z => e z.symm, decide_eq_true_eq, decide_eq_true_eq]
      omega
/-- as data compare -/
def dT (x : List Str) : PyData := .tuple (x.map .str)
theorem alike_dT : ∀ x y : List Str, PySem.W.alikeAll (x.map .str) (y.map .str) = true
  | [], _ => by simp [PySem.W.alikeAll]
  | _ :: _, [] => by simp [PySem.W.alikeAll]
  | x :: xs, y :: ys => by
    simp only [List.map_cons, PySem.W.alikeAll, PySem.W.alike, Bool.true_and]
    exact alike_dT xs ys
theorem dataLt_dT (x y : List Str) : PySem.W.dataLt (dT x) (dT y) = tLt x y := by
  unfold dT
  rw [PySem.W.dataLt_tuple]
  induction x generalizing y with
  | nil =>
    cases y with
    | nil => rfl
    | cons y ys => rfl
  | cons x xs ih =>
    cases y with
    | nil => rfl
    | cons y ys =>
      show _ = if x = y then tLt xs ys else sLt x y
      have al : PySem.W.alike (.str x) (.str y) = true := rfl
      by_cases e : x = y
      · rw [if_pos e, List.map_cons, List.map_cons, PySem.W.dataLt_all_yes al (by rw [e]; simp [PyData.eqv])]
        exact ih ys
      · rw [if_neg e, List.map_cons, List.map_cons, PySem.W.dataLt_all_no al (by simp [PyData.eqv, e]), PySem.W.dataLt_str]
        rfl
end ZO

set_option Elab.async false
set_option linter.all false
set_option maxRecDepth 100000
/-! sorted of a set of texts; sorted of a set of tuples of texts, the empty one among them. -/
namespace ZS
open PySem PySem.Spec PyProof.Rows L2 SrtO
section
variable {P : Program} {w : World} {A : Around} {E : Value → Shared → Prop} {s : Shared}
/-- sorted of a set that is walked in some order -/
theorem sorted_shell {a : Addr} {es : Array (Int × Value)} {ep : Nat} {t : SetTable} {Q : Value → Shared → Prop} {Rel : List Value → Prop} (calm : A.handled = none) (ha : SetAt s.heap a es ep t) (fits : t.fits es.size = true) (small : es.size < scanBound)
    (ris : Ris t.place.toList) (led : w.params.followText "set-order" = true ∨ t.led = true) (len : ∀ out, Rel out → out.length ≤ sizeLine)
    (sort : ∀ (s1 : Shared) (vs : List Value) (l : Addr) (A' : Around) (E : Value → Shared → Prop) (R : PySem.Fin → Shared → Prop), A'.units ≤ A.units + 2 → vs.Perm (es.toList.map fun x => x.2) → (∀ b o, s.heap.get? b = some o → b ≠ l ∧ s1.heap.get? b = some o) →
      s1.heap.get? l = some (seqObj "list" vs.toArray 0) → (∀ out : List Value, Rel out → R (.done (.ret .none)) { s1 with heap := sortedHeap s1.heap l vs out.toArray }) → wpAny (model P w) A' (Builtin.«list.sort» ⟨[.ref l], []⟩) R E s1)
    (q : ∀ s' p (out : List Value) c, (∀ b o, s.heap.get? b = some o → s'.heap.get? b = some o) → s'.gens = s.gens → s'.os = s.os → s.heap.objs.size ≤ p → s'.heap.get? p = some (seqObj "list" out.toArray c) → Rel out → Q (.ref p) s') :
    wpAny (model P w) A (call (.builtin "sorted") [.ref a]) Q E s := by
  refine Calls.call_function_entry kind_sorted plain_sorted entry_sorted (args_sorted1 _) ?_
  unfold Builtin.«sorted»
  refine wpAny_bind (m := checkCount "sorted" 1 1 _) (wpAny_pure ?_)
  refine wpAny_bind (collect_set (A := A.in1) calm ha fits small ris led fun s1 vs k1 hz g1 o1 pm => ?_)
  have hl : vs.length ≤ sizeLine := by
    rw [pm.length_eq, List.length_map, Array.length_toList, sizeLine_eq]
    unfold scanBound at small
    omega
  refine wpAny_bind (wpAny_newList ?_ hl)
  have at_l : (s1.heap.push (seqObj "list" vs.toArray 0)).get? s1.heap.objs.size = some (seqObj "list" vs.toArray 0) := Heap.get?_push_size _ rfl
  have keep : ∀ b o, s.heap.get? b = some o → b ≠ s1.heap.objs.size ∧ (s1.heap.push (seqObj "list" vs.toArray 0)).get? b = some o := fun b o e =>
    ⟨Nat.ne_of_lt (Heap.lt_size (k1 b o e)), Heap.get?_push_of_some _ (k1 b o e)⟩
  refine wpAny_bind (wpAny_holding (wpAny_call_entry slot_list_sort ⟨_, at_l, rfl⟩ entry_list_sort (sort { s1 with heap := s1.heap.push (seqObj "list" vs.toArray 0) } vs s1.heap.objs.size _ _ _ (by simp) pm keep at_l fun out rel => ⟨_, rfl, ?_⟩) (args_list_sort _)))
  obtain ⟨c, hc⟩ := sortedHeap_at (vs := vs) (out := out.toArray) at_l
  refine wpAny_pure ⟨_, rfl, q _ s1.heap.objs.size out c (fun b o e => ?_) g1 o1 hz hc rel⟩
  have lt := Heap.lt_size (k1 b o e)
  show (sortedHeap (s1.heap.push (seqObj "list" vs.toArray 0)) s1.heap.objs.size vs out.toArray).get? b = some o
  rw [sortedHeap_old (Nat.ne_of_lt lt) (by rw [size_push']; exact Nat.lt_succ_of_lt lt)]
  exact (keep b o e).2
/-- the texts of values -/
theorem strs_of_vals {vs : List Value} (h : ∀ v ∈ vs, ∃ x t, v = Value.str x t) : StrsAre vs (vs.map strOf) := strsAre_map vs h
/-- sorted of a set of texts -/
theorem sorted_texts {a : Addr} {es : Array (Int × Value)} {ep : Nat} {t : SetTable} {Q : Value → Shared → Prop} (calm : A.handled = none) (R : Hv w s.heap a es ep t) (small : es.size < 64)
    (q : ∀ s' p (out : List Value) c (xs : List Str), (∀ b o, s.heap.get? b = some o → s'.heap.get? b = some o) → s'.gens = s.gens → s'.os = s.os → s.heap.objs.size ≤ p → s'.heap.get? p = some (seqObj "list" out.toArray c) →
      StrsAre out xs → ZO.Up ZO.sLt xs → (∀ x, x ∈ xs ↔ x ∈ es.toList.map kS) → xs.length = es.size → Q (.ref p) s') :
    wpAny (model P w) A (call (.builtin "sorted") [.ref a]) Q E s := by
  obtain ⟨⟨o, ho, hex, hd⟩, good, uni, fits, ris, led⟩ := R
  refine sorted_shell (Rel := fun out => ∃ xs, StrsAre out xs ∧ ZO.Up ZO.sLt xs ∧ (∀ x, x ∈ xs ↔ x ∈ es.toList.map kS) ∧ xs.length = es.size) calm ⟨o, ho, hex.1, hd⟩ fits (by unfold scanBound; omega) ris led ?_ ?_
    fun s' p out c k g os hp hc rel => let ⟨xs, r1, r2, r3, r4⟩ := rel; q s' p out c xs k g os hp hc r1 r2 r3 r4
  · rintro out ⟨xs, r1, _, _, r4⟩
    have e : out.length = xs.length := StrsAre.len_eq r1
    rw [e, r4, sizeLine_eq]
    omega
  · intro s1 vs l A' E' R' _ pm keep at_l fin
    have tx : ∀ v ∈ vs, ∃ x tk, v = Value.str x tk := fun v hv => by
      obtain ⟨e, m, e2⟩ := List.mem_map.mp (pm.mem_iff.mp hv)
      obtain ⟨x, tk, e3, _⟩ := good e m
      exact ⟨x, tk, by rw [← e2]; exact e3⟩
    have hS := strs_of_vals tx
    have hl : vs.length = es.size := by rw [pm.length_eq, List.length_map, Array.length_toList]
    have keys : (vs.map strOf).Perm (es.toList.map kS) := by
      have z := pm.map strOf
      rw [List.map_map] at z
      rw [show es.toList.map kS = es.toList.map (strOf ∘ fun x => x.2) from List.map_congr_left fun e m => by
        obtain ⟨x, tk, e3, _⟩ := good e m
        show kS e = strOf e.2
        unfold kS
        rw [e3]
        rfl]
      exact z
    refine list_sort_treeK strKind_oneLt at_l hS.keysOf (fun v₁ v₂ rest e => keyKind_strs (by rw [← e]; exact hS)) (by rw [hl]; exact small) fun st' hp hs => ?_
    obtain ⟨ys, y1, y2, y3⟩ := sorted_out_str hS hp hs
    have y4 := y2.trans keys
    have f := fin ((arrOf st').map (·.2)).toList ⟨ys, y1, ZO.up_of_sorted y3 (y4.nodup_iff.mpr uni), fun x => y4.mem_iff, by rw [y4.length_eq, List.length_map, Array.length_toList]⟩
    rw [Array.toArray_toList] at f
    exact f

/-! ### tuples, the empty one among them -/
/-- the first item of a tuple, as sorting looks at it -/
def fo (h : Heap) (v : Value) : Option Value := match v with
  | .ref b => match h.get? b with
    | some o => match o.data with
      | .seq xs _ => xs[0]?
      | _ => none
    | none => none
  | _ => none
theorem first_tq {k : List Str} {b : Addr} {Q : Option Value → Shared → Prop} (hb : Tq P w s.heap k b) (q : Q (fo s.heap (.ref b)) s) : wpAny (model P w) A (firstOfTuple' (.ref b)) Q E s := by
  have ty := hb.typeIs
  obtain ⟨o, its, n, g, _, dt, _⟩ := hb
  rw [PySem.W.kas_first_eq]
  refine wpAny_bind (wpAny_typeOf ty ?_)
  rw [if_neg (by decide)]
  refine wpAny_bind (listItems_at g dt (wpAny_pure ?_))
  have e : fo s.heap (.ref b) = its[0]? := by
    simp only [fo, g, dt]
  rw [← e]
  exact q
theorem fo_nil {b : Addr} (hb : Tq P w s.heap [] b) : fo s.heap (.ref b) = none := by
  obtain ⟨o, its, n, g, _, dt, hi⟩ := hb
  simp only [fo, g, dt]
  have e : its.toList = [] := by
    generalize its.toList = z at hi
    cases hi
    rfl
  rw [← Array.getElem?_toList, e]
  rfl
theorem mapM_each {α β : Type} {M : Model} {f : α → Sem β} {g : α → β} : ∀ (l : List α) {Q : List β → Shared → Prop}, (∀ v ∈ l, ∀ (Q' : β → Shared → Prop), Q' (g v) s → wpAny M A (f v) Q' E s) → Q (l.map g) s → wpAny M A (l.mapM f) Q E s
  | [], _, _, h => by
    rw [List.mapM_nil]
    exact wpAny_pure h
  | x :: l, Q, hf, h => by
    rw [List.mapM_cons]
    refine wpAny_bind (hf x (.head _) _ (wpAny_bind ?_))
    exact mapM_each l (Q := fun bs s' => wpAny M A (pure (g x :: bs)) Q E s') (fun v hv => hf v (.tail _ hv)) (wpAny_pure h)
theorem kind_mixed {vs : List Value} (hv : ∀ v ∈ vs, ∃ k b, v = Value.ref b ∧ Tq P w s.heap k b) (he : ∃ b, Value.ref b ∈ vs ∧ Tq P w s.heap [] b) :
    ∃ f : Bool, ∀ (Q : SortKind → Shared → Prop) (E : Value → Shared → Prop), Q (if f = true then oneType' else general') s → wpAny (model P w) A (keyKind' vs.toArray) Q E s := by
  have no : ((vs.map (fo s.heap)).toArray.all fun x => x.isSome) = false := by
    obtain ⟨b, m, hb⟩ := he
    rw [Bool.eq_false_iff]
    intro z
    simp only [List.all_toArray, List.all_map, List.all_eq_true] at z
    have z2 := z _ m
    simp only [Function.comp, fo_nil hb] at z2
    cases z2
  refine ⟨!((vs.map (fo s.heap)).toArray[0]?.bind id).isSome, fun Q E q => ?_⟩
  rw [PyProof.Rows.kat_kind_eq, List.mapM_toArray, map_eq_pure_bind]
  refine wpAny_bind (wpAny_bind (mapM_each (g := fo s.heap) vs (fun v m Q' y => ?_) (wpAny_pure ?_)))
  · obtain ⟨k, b, rfl, hb⟩ := hv v m
    exact first_tq hb y
  · rw [if_neg (by rw [no]; exact Bool.false_ne_true)]
    rcases Bool.eq_false_or_eq_true (((vs.map (fo s.heap)).toArray[0]?.bind id).isSome) with c | c
    · rw [if_pos c]
      rw [c] at q
      exact wpAny_pure q
    · rw [if_neg (by rw [c]; exact Bool.false_ne_true)]
      rw [c] at q
      rw [oneTypeOnly'_eq, List.mapM_toArray, map_eq_pure_bind]
      refine wpAny_bind (wpAny_bind (wpAny_bind (mapM_each (g := fun _ => Value.type "tuple") vs (fun v m Q' y => ?_) (wpAny_pure ?_))))
      · obtain ⟨k, b, rfl, hb⟩ := hv v m
        exact wpAny_typeOf hb.typeIs y
      · obtain ⟨v0, r0, rfl⟩ : ∃ v0 r0, vs = v0 :: r0 := by
          cases vs with
          | nil => obtain ⟨b, m, _⟩ := he; cases m
          | cons v0 r0 => exact ⟨v0, r0, rfl⟩
        have z1 : ((v0 :: r0).map fun _ => Value.type "tuple").toArray[0]? = some (Value.type "tuple") := by simp
        have z2 : (((v0 :: r0).map fun _ => Value.type "tuple").toArray.all fun x => x == Value.type "tuple") = true := by
          simp only [List.all_toArray, List.all_map, List.all_eq_true]
          intro _ _
          rfl
        rw [z1]
        simp only [z2, if_true]
        exact wpAny_pure (wpAny_pure q)
theorem reads_strs {h : Heap} {k : List Str} {vs : List Value} (hi : ItemsAre (PySem.strKind P w) k vs) : ReadsAll h vs (k.map .str) [] := by
  induction hi with
  | nil => exact .nil
  | @cons k0 v0 ks vs0 e _ ih =>
    obtain ⟨t, e0⟩ := Value.isStrOf_shape (show Value.isStrOf k0 v0 = true from e)
    rw [e0]
    exact ReadsAll.cons (as := []) (bs := []) (.str k0 t) ih
theorem reads_tq {h : Heap} {k : List Str} {b : Addr} (hb : Tq P w h k b) : Reads h (.ref b) (ZO.dT k) [] := by
  obtain ⟨o, its, n, g, c, dt, hi⟩ := hb
  exact .tuple g c dt (reads_strs hi)
theorem depth_strs : ∀ k : List Str, PyData.depthAll (k.map .str) = 0
  | [] => by simp [PyData.depthAll]
  | x :: k => by simp [PyData.depthAll, PyData.depth, depth_strs k]
theorem lt_tq {f : Bool} {j k : List Str} {b c : Addr} {Q : Bool → Shared → Prop} (hb : Tq P w s.heap j b) (hc : Tq P w s.heap k c) (hu : A.units + 4 < cLine) (q : Q (ZO.tLt j k) s) : wpAny (model P w) A (oneLt' f (.ref b) (.ref c)) Q E s := by
  have rb := reads_tq hb
  have rc := reads_tq hc
  have al : PySem.W.alike (ZO.dT j) (ZO.dT k) = true := ZO.alike_dT j k
  have dp : min (ZO.dT j).depth (ZO.dT k).depth ≤ 1 := by
    unfold ZO.dT
    simp only [PyData.depth, depth_strs]
    omega
  rw [← ZO.dataLt_dT] at q
  cases f with
  | false => exact PySem.W.oneLt_alike (fun z => absurd z Bool.false_ne_true) rb rc al (fun z => nomatch z) (by omega) q
  | true =>
    have hb' := hb.typeIs
    obtain ⟨⟨cb, ddb, dtb, slb⟩, its, n, g, e1, e2, hi⟩ := hb
    obtain ⟨⟨cc, ddc, dtc, slc⟩, its', n', g', e1', e2', hi'⟩ := hc
    simp only at e1 e2 e1' e2'
    subst e1 e2 e1' e2'
    have r1 : ReadsAll s.heap its.toList (j.map .str) [] := reads_strs hi
    have r2 : ReadsAll s.heap its'.toList (k.map .str) [] := reads_strs hi'
    have n1 : its.size = (j.map PyData.str).length := by simpa using SeqAt.ReadsAll.length _ _ _ r1
    have n2 : its'.size = (k.map PyData.str).length := by simpa using SeqAt.ReadsAll.length _ _ _ r2
    have room : A.in1.units + min (PyData.depthAll (j.map .str)) (PyData.depthAll (k.map .str)) < cLine := by
      rw [depth_strs, depth_strs]
      simp
      omega
    have al2 := ZO.alike_dT j k
    rw [show PySem.W.dataLt (ZO.dT j) (ZO.dT k) = _ from PySem.W.dataLt_tuple _ _, ← PySem.W.firstLt_toks _ _ al2, ← n1, ← n2] at q
    rw [oneLt'_eq]
    simp only [if_true]
    refine wpAny_bind (wpAny_cRoomFor (by omega) ?_)
    refine wpAny_bind (wpAny_callSpecialIfBound?_slot (T := "tuple") hb' F.slot_tuple_lt (call_meets F.slot_tuple_lt hb' F.entry_tuple_lt (F.args_tuple_lt_2 _ _)
      (SeqAt.tuple_ltAt b c its its' n n' ddb ddc slb slc (SeqAt.pairEq (j.map .str) (k.map .str)) fun i => PySem.W.dataLt ((j.map PyData.str).getD i .none) ((k.map PyData.str).getD i .none)) ⟨g, g', fun i i1 i2 => ?_, fun i i1 i2 ne => ?_, ?_⟩))
    · have z := PySem.W.eqAt_alikeAll _ _ A.in1 s its.toList its'.toList _ _ r1 r2 al2 room i (by simpa using i1) (by simpa using i2)
      simpa using z
    · have z := PySem.W.rcLt_alikeAll _ _ A.in1 s its.toList its'.toList _ _ r1 r2 al2 room i (by simpa using i1) (by simpa using i2) ne
      simpa using z
    · exact wpAny_truthy_bool q
end
end ZS

set_option Elab.async false
set_option linter.all false
set_option maxRecDepth 100000
/-! The rules: set(texts), sorted of it; set(tuples of texts), sorted of it, sorted by key=len. -/
namespace ZS
open PySem PySem.Spec PyProof.Rows L2 SrtO
section
variable {P : Program} {w : World}
/-- what a set of texts holds behind the first i items -/
def JS (w : World) (S : Addr) (xs : List Str) (i : Nat) (h : Heap) : Prop := ∃ es ep t, Hv w h S es ep t ∧ es.size ≤ i ∧ ∀ y, y ∈ es.toList.map kS ↔ y ∈ xs.take i
theorem js_new {S : Addr} {xs : List Str} {h : Heap} (ho : h.get? S = some (anew w)) : JS w S xs 0 h :=
  ⟨#[], 0, _, ⟨⟨_, ho, ⟨rfl, rfl, rfl⟩, rfl⟩, fun e m => (by simp at m), (by simp), rfl, List.Pairwise.nil, by
    show _ ∨ (!w.params.followText "set-order") = true
    cases w.params.followText "set-order"
    · exact .inr rfl
    · exact .inl rfl⟩, Nat.le_refl _, fun y => by simp⟩
theorem js_at {S : Addr} {xs : List Str} {i : Nat} {h h' : Heap} (j : JS w S xs i h) (k : ∀ o, h.get? S = some o → h'.get? S = some o) : JS w S xs i h' := by
  obtain ⟨es, ep, t, ⟨⟨o, ho, r⟩, r2, r3, r4, r5, r6⟩, q⟩ := j
  exact ⟨es, ep, t, ⟨⟨o, k o ho, r⟩, r2, r3, r4, r5, r6⟩, q⟩
theorem take_snoc {α : Type} {l : List α} {i : Nat} {x : α} (h : l[i]? = some x) : l.take (i + 1) = l.take i ++ [x] := by
  rw [List.take_succ, h]
  rfl
theorem step_s {S : Addr} {items : Array Value} {xs : List Str} (hS : StrsAre items.toList xs) (few : items.size < 64) : Step P w S (fun i v => items[i]? = some v) items.size (JS w S xs) := by
  intro A E i v s' hu lt hv j
  obtain ⟨es, ep, t, R, sz, mem⟩ := j
  have hl : items.toList.length = xs.length := StrsAre.len_eq hS
  rw [Array.length_toList] at hl
  obtain ⟨tk, rfl⟩ := SS.strs_at hS i v (by rw [Array.getElem?_toList]; exact hv)
  have hx : xs[i]? = some (xs.getD i Str.empty) := by
    rw [List.getD_eq_getElem?_getD, List.getElem?_eq_getElem (show i < xs.length by omega)]
    rfl
  generalize xs.getD i Str.empty = x at hx
  unfold setAdd
  refine wpAny_holding (wpAny_bind ((PySem.strKind P w).pyHash (k := x) (decide_eq_true rfl) ?_))
  refine addS_q (s := { s' with toks := s'.toks + 1 }) R (by unfold scanBound; omega) fun b h' es' ep' t' sb R' sz' mem' => ⟨h', _, rfl, Nat.le_succ _, sb, es', ep', t', R', by omega, fun y => ?_⟩
  rw [mem', mem, take_snoc hx, List.mem_append, List.mem_singleton, Or.comm]
/-- what a set of tuples holds -/
def JT (P : Program) (w : World) (S : Addr) (ks : List Pr) (i : Nat) (h : Heap) : Prop := ∃ L es ep t, Hs P w h S L es ep t ∧ L.length ≤ i ∧ (∀ q ∈ L, q ∈ ks.take i) ∧ ∀ q ∈ ks.take i, q.2 ∈ L.map Prod.snd
theorem hs_new {S : Addr} {h : Heap} (ho : h.get? S = some (anew w)) : Hs P w h S [] #[] 0 (.fresh 0 0 (!w.params.followText "set-order")) where
  obj := ⟨_, ho, ⟨rfl, rfl, rfl⟩, rfl⟩
  ent := rfl
  tab := ⟨List.Pairwise.nil, rfl, rfl, .inl rfl, fun x hx => (by cases hx), fun i h j hi => (by simp at hi)⟩
  uni := List.nodup_nil
  here := fun q m => absurd m List.not_mem_nil
  led := by
    show _ ∨ (!w.params.followText "set-order") = true
    cases w.params.followText "set-order"
    · exact .inr rfl
    · exact .inl rfl
  low := by
    show 0 * 5 < 7 * 3
    decide
  cap := by
    show 0 < 64
    decide
theorem jt_new {S : Addr} {ks : List Pr} {h : Heap} (ho : h.get? S = some (anew w)) : JT P w S ks 0 h :=
  ⟨[], #[], 0, _, hs_new ho, Nat.le_refl _, fun q m => absurd m List.not_mem_nil, fun q m => absurd m (by rw [List.take_zero]; exact List.not_mem_nil)⟩
theorem step_t {S : Addr} {items : Array Value} {ks : List Pr} {h0 : Heap} (hit : items.toList = ks.map fun q => Value.ref q.1) (hk : ∀ q ∈ ks, Tq P w h0 q.2 q.1) (hS0 : h0.get? S = none) (few : ks.length < 64) :
    Step P w S (fun i v => items[i]? = some v) items.size (fun i h => (∀ b o, h0.get? b = some o → h.get? b = some o) ∧ JT P w S ks i h) := by
  intro A E i v s' hu lt hv ⟨keep, L, es, ep, t, R, sz, sub, all⟩
  have e0 : items.toList[i]? = some v := by rw [Array.getElem?_toList]; exact hv
  rw [hit, List.getElem?_map] at e0
  obtain ⟨q, hq, e1⟩ := Option.map_eq_some_iff.mp e0
  subst e1
  have hx : Tq P w s'.heap q.2 q.1 := tq_more (hk q (List.mem_of_getElem? hq)) keep
  have hi : i < ks.length := (List.getElem?_eq_some_iff.mp hq).1
  unfold setAdd
  refine wpAny_holding (wpAny_bind (wpAny_pyHash_tuple hu hx ?_))
  refine add_q (s := { s' with toks := s'.toks + (q.2.length + 1) }) R hx hu (by omega) fun b h' L' es' ep' t' sb R' c1 c2 => ⟨h', _, rfl, Nat.le_add_right _ _, sb, fun b o e => ?_, L', es', ep', t', R', ?_, ?_, ?_⟩
  · rw [sb.2 b fun z => by rw [z, hS0] at e; cases e]
    exact keep b o e
  · rcases Classical.em (q.2 ∈ L.map Prod.snd) with c | c
    · rw [c1 c]; omega
    · rw [(c2 c).length_eq]; exact Nat.succ_le_succ sz
  · rw [take_snoc hq]
    intro m hm
    rcases Classical.em (q.2 ∈ L.map Prod.snd) with c | c
    · rw [c1 c] at hm
      exact List.mem_append_left _ (sub m hm)
    · rcases List.mem_cons.mp ((c2 c).mem_iff.mp hm) with e | hm
      · rw [e]; exact List.mem_append_right _ (List.Mem.head _)
      · exact List.mem_append_left _ (sub m hm)
  · rw [take_snoc hq]
    intro m hm
    rcases Classical.em (q.2 ∈ L.map Prod.snd) with c | c
    · rw [c1 c]
      rcases List.mem_append.mp hm with z | z
      · exact all m z
      · rw [List.mem_singleton.mp z]; exact c
    · rw [((c2 c).map Prod.snd).mem_iff]
      rcases List.mem_append.mp hm with z | z
      · exact List.Mem.tail _ (all m z)
      · rw [List.mem_singleton.mp z]; exact List.Mem.head _
/-! ### what stands at the set's address -/
def SetS (w : World) (a : Addr) (xs : List Str) : HO := .ext fun h => JS w a xs xs.length h
def SetT (P : Program) (w : World) (a : Addr) (ks : List Pr) : HO := .ext fun h => ∃ L es ep t, Pre0 P w h a L es ep t ∧ (∀ q ∈ L, q ∈ ks) ∧ ∀ q ∈ ks, q.2 ∈ L.map Prod.snd
where
  /-- all but the tuples themselves -/
  Pre0 (P : Program) (w : World) (h : Heap) (a : Addr) (L : List Pr) (es : Array (Int × Value)) (ep : Nat) (t : SetTable) : Prop :=
    (∃ o, h.get? a = some o ∧ o.ExactSet ∧ o.data = .set es ep t) ∧ es.toList = rows P w L ∧ TabOk t (L.map fun q => hq P w q.2) ∧ (L.map Prod.snd).Nodup ∧ (w.params.followText "set-order" = true ∨ t.led = true) ∧ L.length * 5 < t.mask * 3 ∧ L.length < 64
theorem setS_ok {H : Hp} {h : Heap} {a : Addr} {xs : List Str} (j : JS w a xs xs.length h) : ObjOk P w H h a (SetS w a xs) := by
  have ⟨_, _, _, R, _⟩ := j
  have ⟨o, ho, _⟩ := R.obj
  exact ⟨j, ⟨o, ho⟩, fun h1 h2 y k => js_at y k⟩
theorem setT_ok {H : Hp} {h : Heap} {a : Addr} {ks : List Pr} (j : ∃ L es ep t, SetT.Pre0 P w h a L es ep t ∧ (∀ q ∈ L, q ∈ ks) ∧ ∀ q ∈ ks, q.2 ∈ L.map Prod.snd) : ObjOk P w H h a (SetT P w a ks) := by
  have ⟨_, _, _, _, ⟨⟨o, ho, _⟩, _⟩, _⟩ := j
  refine ⟨j, ⟨o, ho⟩, fun h1 h2 y k => ?_⟩
  have ⟨L, es, ep, t, ⟨⟨o, ho, r⟩, r2⟩, r3⟩ := y
  exact ⟨L, es, ep, t, ⟨⟨o, k o ho, r⟩, r2⟩, r3⟩
end
section
variable {X : Cx}
theorem Left_laid {J : Heap → Prop} {pins : List (Addr × Obj)} {σ : L2.St} {H : Hp} {s s2 : Shared} {Q : VK} (I : Inv X pins σ H s) (y : Left s J s2) (o : HO) (ok : ∀ h, J h → ObjOk X.prog X.w (upd H s.heap.objs.size o) h s.heap.objs.size o)
    (q : Q (.ref s.heap.objs.size) (upd H s.heap.objs.size o)) : EP X pins σ Q (.ref s.heap.objs.size) s2 := by
  obtain ⟨h', tk, rfl, j, k⟩ := y
  exact ⟨.ref s.heap.objs.size, _, I.laid (t' := tk) k (Nat.le_refl _) (ok h' j), rfl, q⟩
/-- set(xs), xs a list or tuple of texts -/
def rSetS (K : PySem.W.Frag) (w : World) : List V → Hp → VK → Prop := fun xs H Q => ∃ (l : Addr) (ys : List Str), xs = [V.ref l] ∧ (SqL K H l (ys.map V.str) ∨ SqT K H l (ys.map V.str)) ∧ ys.length < 64 ∧ ∀ p, H p = none → Q (.ref p) (upd H p (SetS w p ys))
theorem cr_setS (hc : X.calm = true) (hu : X.A.units + 64 < cLine) : CallR X (.type "set") (rSetS X.K X.w) := by
  intro pins s σ H xs us Q I r h
  obtain ⟨l, ys, rfl, hl, few, q⟩ := h
  rw [Vals.ref1 r]
  have new : ∀ h', (∀ b o, (s.heap.push (anew X.w)).get? b = some o → h'.get? b = some o) → JS X.w s.heap.objs.size ys 0 h' := fun h' k => js_new (k _ _ (Heap.get?_push_size _ rfl))
  have frame : ∀ i (h h' : Heap), JS X.w s.heap.objs.size ys i h → (∀ b o, b ∉ [(s.heap.push (anew X.w)).objs.size] → h.get? b = some o → h'.get? b = some o) → JS X.w s.heap.objs.size ys i h' := fun i h h' j k =>
    js_at j fun o e => k _ o (fun m => by
      have z := List.mem_singleton.mp m
      rw [Heap.size_push] at z
      exact absurd z (Nat.ne_of_lt (Nat.lt_succ_self _))) e
  rcases hl with hl | hl
  · obtain ⟨its, rv, pl, hz⟩ := I.list hl
    have hS := rv.strs
    have hn : its.length = ys.length := StrsAre.len_eq hS
    refine set_list (J := JS X.w s.heap.objs.size ys) (I.ok.hd hc) (by omega) pl.isList new (fun i h h' _ j k => frame i h h' j k) (step_s (by simpa using hS) (by simpa [hn] using few)) fun s2 y => ?_
    refine Left_laid I y (SetS X.w _ ys) (fun h j => setS_ok (by simpa [hn] using j)) (q _ (I.hok.fresh (Nat.le_refl _)))
  · obtain ⟨its, rv, pl, hz⟩ := I.tuple hl
    have hS := rv.strs
    have hn : its.length = ys.length := StrsAre.len_eq hS
    refine set_tup (J := JS X.w s.heap.objs.size ys) (I.ok.hd hc) (by omega) pl (by exact new) (fun i h h' _ j k => frame i h h' j k) (step_s (by simpa using hS) (by simpa [hn] using few)) fun s2 y => ?_
    refine Left_laid I y (SetS X.w _ ys) (fun h j => setS_ok (by simpa [hn] using j)) (q _ (I.hok.fresh (Nat.le_refl _)))
/-- set(xs), xs a list of tuples of texts -/
def rSetT (K : PySem.W.Frag) (P : Program) (w : World) : List V → Hp → VK → Prop := fun xs H Q => ∃ (l : Addr) (ks : List Pr), xs = [V.ref l] ∧ SqL K H l (ks.map fun q => V.ref q.1) ∧ (∀ q ∈ ks, SqT K H q.1 (q.2.map V.str)) ∧ ks.length < 64 ∧
  ∀ p, H p = none → Q (.ref p) (upd H p (SetT P w p ks))
theorem items_vals {P : Program} {w : World} : ∀ {k : List Str} {us : List Value}, Vals (k.map V.str) us → ItemsAre (PySem.strKind P w) k us
  | [], _, .nil => .nil
  | x :: k, _, .cons r t => by
    obtain ⟨tk, rfl⟩ := r
    exact .cons (decide_eq_true rfl) (items_vals t)
theorem vals_refs : ∀ {ks : List Pr} {us : List Value}, Vals (ks.map fun q => V.ref q.1) us → us = ks.map fun q => Value.ref q.1
  | [], _, .nil => rfl
  | q :: ks, _, .cons r t => by
    rw [vals_refs t, show _ = Value.ref q.1 from r]
    rfl
theorem refs_vals : ∀ (ks : List Pr), Vals (ks.map fun q => V.ref q.1) (ks.map fun q => Value.ref q.1)
  | [] => .nil
  | _ :: ks => .cons rfl (refs_vals ks)
theorem tq_of {pins : List (Addr × Obj)} {σ : L2.St} {H : Hp} {s : Shared} {b : Addr} {k : List Str} (I : Inv X pins σ H s) (h : SqT X.K H b (k.map V.str)) : Tq X.prog X.w s.heap k b := by
  obtain ⟨its, r, ⟨o, ho, hc, n, hd⟩, _⟩ := I.tuple h
  exact ⟨o, its.toArray, n, ho, hc, hd, by simpa using items_vals r⟩
theorem cr_setT (hc : X.calm = true) (hu : X.A.units + 64 < cLine) : CallR X (.type "set") (rSetT X.K X.prog X.w) := by
  intro pins s σ H xs us Q I r h
  obtain ⟨l, ks, rfl, hl, hk, few, q⟩ := h
  rw [Vals.ref1 r]
  obtain ⟨its, rv, pl, hz⟩ := I.list hl
  have hit := vals_refs rv
  have hn : its.length = ks.length := by rw [hit]; exact List.length_map ..
  have here : ∀ q ∈ ks, Tq X.prog X.w s.heap q.2 q.1 := fun q m => tq_of I (hk q m)
  have fresh : s.heap.get? s.heap.objs.size = none := none_from (Nat.le_refl _)
  refine set_list (J := fun i h => (∀ b o, s.heap.get? b = some o → h.get? b = some o) ∧ JT X.prog X.w s.heap.objs.size ks i h) (I.ok.hd hc) (by omega) pl.isList
    (fun h' k => ⟨fun b o e => k b o (Heap.get?_push_of_some _ e), jt_new (k _ _ (Heap.get?_push_size _ rfl))⟩) (fun i h h' _ j k => ?_) (step_t (by simpa using hit) here fresh few) fun s2 y => ?_
  · obtain ⟨j0, L, es, ep, t, R, j1, j2, j3⟩ := j
    have old : ∀ b o, s.heap.get? b = some o → h'.get? b = some o := fun b o e => k b o (fun m => by
      have z := List.mem_singleton.mp m
      rw [Heap.size_push] at z
      exact absurd (Heap.lt_size e) (by rw [z]; exact Nat.not_lt_of_le (Nat.le_succ _))) (j0 b o e)
    refine ⟨old, L, es, ep, t, { obj := ?_, ent := R.ent, tab := R.tab, uni := R.uni, here := fun q m => ?_, led := R.led, low := R.low, cap := R.cap }, j1, j2, j3⟩
    · obtain ⟨o, ho, ro⟩ := R.obj
      refine ⟨o, k _ o (fun m => ?_) ho, ro⟩
      have z := List.mem_singleton.mp m
      rw [Heap.size_push] at z
      exact absurd z (Nat.ne_of_lt (Nat.lt_succ_self _))
    · exact tq_more (here q (List.mem_of_mem_take (j2 q m))) old
  · refine Left_laid I y (SetT X.prog X.w _ ks) (fun h j => setT_ok ?_) (q _ (I.hok.fresh (Nat.le_refl _)))
    obtain ⟨_, L, es, ep, t, R, _, j2, j3⟩ := j
    have e : its.toArray.size = ks.length := by simpa using hn
    rw [e, List.take_length] at j2 j3
    exact ⟨L, es, ep, t, ⟨R.obj, R.ent, R.tab, R.uni, R.led, R.low, R.cap⟩, j2, j3⟩
/-- sorted of a set of texts: the rising list of its members -/
def rSortSS (w : World) : List V → Hp → VK → Prop := fun vs H Q => ∃ (a : Addr) (ys : List Str), vs = [V.ref a] ∧ H a = some (SetS w a ys) ∧ ys.length < 64 ∧ ∀ p, H p = none → Q (.ref p) (upd H p (.lst ((ZO.can ZO.sLt ys).map V.str)))
theorem cr_sortSS (hc : X.calm = true) : CallR X (.builtin "sorted") (rSortSS X.w) := by
  intro pins s σ H vs us Q I r h
  obtain ⟨a, ys, rfl, ha, few, q⟩ := h
  rw [Vals.ref1 r]
  obtain ⟨es, ep, t, R, sz, mem⟩ := (show JS X.w a ys ys.length s.heap from (I.hok a _ ha).1)
  rw [List.take_length] at mem
  refine sorted_texts (P := X.prog) (I.ok.hd hc) R (by omega) fun s' p out c xs k g os hp hg hS up m ln => ?_
  have e : xs = ZO.can ZO.sLt ys := ZO.can_eq ZO.sto_s up fun x => (m x).trans (mem x)
  subst e
  have hn : H p = none := I.hok.fresh hp
  have hlen : ((ZO.can ZO.sLt ys).map V.str).length ≤ sizeLine := by rw [List.length_map, ln, sizeLine_eq]; omega
  have ok : ObjOk X.prog X.w (upd H p (.lst ((ZO.can ZO.sLt ys).map V.str))) s'.heap p (.lst ((ZO.can ZO.sLt ys).map V.str)) := ⟨hlen, out, c, vals_of_strs hS, hg⟩
  exact ⟨.ref p, _, I.call' (ch := []) os (Un.laid k hp hn) (I.hok.laid k hp ok) (by rw [g]; exact I.bare) (fun _ z => nomatch z), rfl, q p hn⟩
end
end ZS

set_option Elab.async false
set_option linter.all false
set_option maxRecDepth 100000
namespace ZS
open PySem PySem.Spec PyProof.Rows L2 SrtO
section
variable {P : Program} {w : World} {A : Around} {E : Value → Shared → Prop} {s : Shared}
/-- the key of a value of the list -/
def kv (L : List Pr) : Value → List Str
  | .ref b => ((L.find? fun q => q.1 == b).map Prod.snd).getD []
  | _ => []
theorem kv_of {L : List Pr} {h : Heap} (here : ∀ q ∈ L, Tq P w h q.2 q.1) {q : Pr} (m : q ∈ L) : kv L (.ref q.1) = q.2 := by
  show ((L.find? fun r => r.1 == q.1).map Prod.snd).getD [] = q.2
  cases e : L.find? fun r => r.1 == q.1 with
  | none =>
    have z := List.find?_eq_none.mp e q m
    simp at z
  | some r =>
    have z1 := List.mem_of_find?_eq_some e
    have z2 : r.1 = q.1 := by simpa using List.find?_some e
    have a1 := here r z1
    rw [z2] at a1
    exact a1.inj (here q m)
theorem swo_k (k : Value → List Str) : Swo fun v u => ZO.tLt (k v) (k u) where
  asym := fun x y h => ZO.sto_t.asym h
  tr := fun x y z h1 h2 => by
    by_cases e1 : k x = k y
    · rw [e1]; exact h2
    · by_cases e2 : k y = k z
      · rw [← e2]; exact h1
      · exact ZO.sto_t.asym (ZO.sto_t.tr _ _ _ (ZO.sto_t.of_not h1 e1) (ZO.sto_t.of_not h2 e2))
/-- list.sort of tuples of texts, the empty one among them -/
theorem sort_mixed {l : Addr} {vs : List Value} {L : List Pr} {n : Nat} {R : PySem.Fin → Shared → Prop} (at_l : s.heap.get? l = some (seqObj "list" vs.toArray n)) (pm : vs.Perm (L.map fun q => Value.ref q.1)) (here : ∀ q ∈ L, Tq P w s.heap q.2 q.1)
    (uni : (L.map Prod.snd).Nodup) (he : [] ∈ L.map Prod.snd) (few : L.length < 64) (hu : A.units + 4 < cLine)
    (fin : ∀ ms : List Pr, (∀ m ∈ ms, m ∈ L) → ms.map Prod.snd = ZO.can ZO.tLt (L.map Prod.snd) → R (.done (.ret .none)) { s with heap := sortedHeap s.heap l vs (ms.map fun q => Value.ref q.1).toArray }) :
    wpAny (model P w) A (Builtin.«list.sort» ⟨[.ref l], []⟩) R E s := by
  have hlen : vs.length = L.length := by rw [pm.length_eq, List.length_map]
  refine list_sort_ord (swo_k (kv L)) at_l (by rw [hlen, sizeLine_eq]; omega) (fun _ h' keep => ?_) fun out so st => ?_
  · have here' : ∀ q ∈ L, Tq P w h' q.2 q.1 := fun q m => by
      obtain ⟨o, its, n', g, c, r⟩ := here q m
      refine ⟨o, its, n', keep _ _ (fun e => ?_) g, c, r⟩
      rw [e, at_l] at g
      rw [← Option.some.inj g] at c
      exact absurd (Value.type.inj c) (by decide)
    have val : ∀ v ∈ vs, ∃ q ∈ L, v = Value.ref q.1 := fun v m => by
      obtain ⟨q, mq, e⟩ := List.mem_map.mp (pm.mem_iff.mp m)
      exact ⟨q, mq, e.symm⟩
    obtain ⟨f, hf⟩ := kind_mixed (P := P) (w := w) (A := A) (s := { s with heap := h' }) (vs := vs) (fun v m => let ⟨q, mq, e⟩ := val v m; ⟨q.2, q.1, e, here' q mq⟩) (by
      obtain ⟨q, mq, e⟩ := List.mem_map.mp he
      exact ⟨q.1, pm.mem_iff.mpr (List.mem_map.mpr ⟨q, mq, rfl⟩), e ▸ here' q mq⟩)
    refine ⟨if f = true then oneType' else general', fun Q E q => hf Q E q, fun p r mp mr => ?_⟩
    obtain ⟨q1, m1, e1⟩ := val _ mp
    obtain ⟨q2, m2, e2⟩ := val _ mr
    show wpAny (model P w) A (keyLt' (if f = true then oneType' else general') p.1 r.1) (fun b s' => s' = { s with heap := h' } ∧ b = ZO.tLt (kv L p.1) (kv L r.1)) _ _
    rw [e1, e2, kv_of here' m1, kv_of here' m2]
    cases f with
    | true => exact lt_tq (f := true) (here' q1 m1) (here' q2 m2) hu ⟨rfl, rfl⟩
    | false => exact lt_tq (f := false) (here' q1 m1) (here' q2 m2) hu ⟨rfl, rfl⟩
  · have po : out.Perm (L.map fun q => Value.ref q.1) := st.perm.trans pm
    have pk : (out.map (kv L)).Perm (L.map Prod.snd) := by
      have z := po.map (kv L)
      rw [List.map_map] at z
      rw [show L.map Prod.snd = L.map (kv L ∘ fun q => Value.ref q.1) from List.map_congr_left fun q m => (kv_of here m).symm]
      exact z
    obtain ⟨ms, e, sub⟩ : ∃ ms : List Pr, out = ms.map (fun q => Value.ref q.1) ∧ ∀ m ∈ ms, m ∈ L := by
      have go : ∀ vs : List Value, (∀ v ∈ vs, ∃ q ∈ L, v = Value.ref q.1) → ∃ ms : List Pr, vs = ms.map (fun q => Value.ref q.1) ∧ ∀ m ∈ ms, m ∈ L := by
        intro vs
        induction vs with
        | nil => exact fun _ => ⟨[], rfl, fun m hm => absurd hm List.not_mem_nil⟩
        | cons v vs ih =>
          intro hv
          obtain ⟨q, mq, e⟩ := hv v (List.Mem.head _)
          obtain ⟨ms, e2, sub⟩ := ih fun u mu => hv u (List.Mem.tail _ mu)
          exact ⟨q :: ms, by rw [e, e2]; rfl, fun m hm => (List.mem_cons.mp hm).elim (fun z => z ▸ mq) (sub m)⟩
      exact go out fun v m => by
        obtain ⟨q, mq, e⟩ := List.mem_map.mp (po.mem_iff.mp m)
        exact ⟨q, mq, e.symm⟩
    have ek : out.map (kv L) = ms.map Prod.snd := by
      rw [e, List.map_map]
      exact List.map_congr_left fun q m => kv_of here (sub q m)
    have up : ZO.Up ZO.tLt (ms.map Prod.snd) := by
      rw [← ek]
      have z : (out.map (kv L)).Pairwise fun x y => ZO.tLt y x = false := List.pairwise_map.mpr so
      exact List.Pairwise.imp₂ (fun x y u v => ZO.sto_t.of_not u v) z (pk.nodup_iff.mpr uni)
    rw [e]
    refine fin ms sub (ZO.can_eq ZO.sto_t up fun x => ?_)
    rw [← ek]
    exact pk.mem_iff
end
section
variable {X : Cx}
/-- sorted of a set of tuples of texts, () among them -/
def rSortST (K : PySem.W.Frag) (P : Program) (w : World) : List V → Hp → VK → Prop := fun vs H Q => ∃ (a : Addr) (ks : List Pr), vs = [V.ref a] ∧ H a = some (SetT P w a ks) ∧ (∀ q ∈ ks, SqT K H q.1 (q.2.map V.str)) ∧ [] ∈ ks.map Prod.snd ∧
  ∀ p (ms : List Pr), (∀ m ∈ ms, m ∈ ks) → ms.map Prod.snd = ZO.can ZO.tLt (ks.map Prod.snd) → H p = none → Q (.ref p) (upd H p (.lst (ms.map fun q => V.ref q.1)))
theorem cr_sortST (hc : X.calm = true) (hu : X.A.units + 64 < cLine) : CallR X (.builtin "sorted") (rSortST X.K X.prog X.w) := by
  intro pins s σ H vs us Q I r h
  obtain ⟨a, ks, rfl, ha, hk, he, q⟩ := h
  rw [Vals.ref1 r]
  obtain ⟨L, es, ep, t, ⟨⟨o, ho, hex, hd⟩, ent, tab, uni, led, low, cap⟩, sub, all⟩ := (show ∃ L es ep t, SetT.Pre0 X.prog X.w s.heap a L es ep t ∧ (∀ q ∈ L, q ∈ ks) ∧ ∀ q ∈ ks, q.2 ∈ L.map Prod.snd from (I.hok a _ ha).1)
  have here : ∀ q ∈ L, Tq X.prog X.w s.heap q.2 q.1 := fun q m => tq_of I (hk q (sub q m))
  have R : Hs X.prog X.w s.heap a L es ep t := ⟨⟨o, ho, hex, hd⟩, ent, tab, uni, here, led, low, cap⟩
  have size := rows_len ent
  have heL : [] ∈ L.map Prod.snd := by
    obtain ⟨q0, m0, e0⟩ := List.mem_map.mp he
    have z := all q0 m0
    rwa [e0] at z
  refine sorted_shell (Rel := fun out => ∃ ms : List Pr, out = ms.map (fun q => Value.ref q.1) ∧ (∀ m ∈ ms, m ∈ L) ∧ ms.map Prod.snd = ZO.can ZO.tLt (L.map Prod.snd)) (I.ok.hd hc) ⟨o, ho, hex.1, hd⟩ R.fits (by unfold scanBound; omega) tab.ris led ?_ ?_ ?_
  · rintro out ⟨ms, rfl, _, e⟩
    have z := congrArg List.length e
    have z2 := ZO.can_len ZO.sto_t (L.map Prod.snd)
    rw [List.length_map] at z z2 ⊢
    rw [sizeLine_eq]
    omega
  · intro s1 vs l A' E' R' hun pm keep at_l fin
    rw [show es.toList.map (fun x => x.2) = L.map fun q => Value.ref q.1 by rw [ent]; unfold rows; rw [List.map_map]; rfl] at pm
    exact sort_mixed at_l pm (fun q m => tq_more (here q m) fun b u e => (keep b u e).2) uni heL cap (by omega) fun ms m1 m2 => fin _ ⟨ms, rfl, m1, m2⟩
  · rintro s' p out c k g os hp hg ⟨ms, rfl, m1, m2⟩
    have hn : H p = none := I.hok.fresh hp
    have ml : ms.length < 64 := by
      have z := congrArg List.length m2
      have z2 := ZO.can_len ZO.sto_t (L.map Prod.snd)
      rw [List.length_map] at z z2
      omega
    have ok : ObjOk X.prog X.w (upd H p (.lst (ms.map fun q => V.ref q.1))) s'.heap p (.lst (ms.map fun q => V.ref q.1)) := ⟨by rw [List.length_map, sizeLine_eq]; omega, _, c, refs_vals ms, hg⟩
    refine ⟨.ref p, _, I.call' (ch := []) os (Un.laid k hp hn) (I.hok.laid k hp ok) (by rw [g]; exact I.bare) (fun _ z => nomatch z), rfl, q p ms (fun m hm => sub m (m1 m hm)) ?_ hn⟩
    rw [m2]
    refine ZO.can_eq ZO.sto_t (ZO.up_can ZO.sto_t _) fun x => ZO.mem_can.trans ⟨fun z => ?_, fun z => ?_⟩
    · obtain ⟨q0, m0, e0⟩ := List.mem_map.mp z
      exact List.mem_map.mpr ⟨q0, sub q0 m0, e0⟩
    · obtain ⟨q0, m0, e0⟩ := List.mem_map.mp z
      exact e0 ▸ all q0 m0
/-- sorted(e, key=len), e a list of tuples of texts -/
def tSortLen (K : PySem.W.Frag) (t : TA) : TE := fun σ H Q => t σ H fun vs H1 => ∃ (l : Addr) (ks : List Pr), vs = [V.ref l] ∧ SqL K H1 l (ks.map fun q => V.ref q.1) ∧ (∀ q ∈ ks, SqT K H1 q.1 (q.2.map V.str)) ∧ ks.length < 64 ∧
  ∀ p, H1 p = none → Q (.ref p) (upd H1 p (.lst ((ks.mergeSort fun a b => decide (a.2.length ≤ b.2.length)).map fun q => V.ref q.1)))
theorem each_refs {R : Value → Pr → Prop} (h : ∀ q : Pr, R (Value.ref q.1) q) : ∀ ks : List Pr, PySem.W.EachIs R (ks.map fun q => Value.ref q.1) ks
  | [] => .nil
  | q :: ks => .cons (h q) (each_refs h ks)
theorem refs_each {out : List Value} {ks : List Pr} (e : PySem.W.EachIs (fun v (q : Pr) => v = Value.ref q.1) out ks) : out = ks.map fun q => Value.ref q.1 := by
  induction e with
  | nil => rfl
  | cons h _ ih =>
    rw [h, ih]
    rfl
theorem items_len {P : Program} {w : World} : ∀ {k : List Str} {us : List Value}, ItemsAre (PySem.strKind P w) k us → k.length = us.length
  | [], _, .nil => rfl
  | _ :: _, _, .cons _ t => congrArg (· + 1) (items_len t)
theorem pe_sortLen {e : Expr} {t : TA} {p p2 kpos pos : Pos} (hu : X.A.units + 64 < cLine) (hg : Gl X "sorted") (hm : X.mg "sorted" = none) (hg2 : Gl X "len") (hm2 : X.mg "len" = none) (ha : PA X [e] t)
    (he : backTo pos (starEach [e] X.env) = (false, eval e X.env) :: backTo pos (starEach [] X.env) := by rfl) (hpl : (backTo pos (starEach [e] X.env)).any (·.1) = false := by rfl) :
    PE X (.Call (.Name "sorted" p) [e] [⟨some "key", .Name "len" p2, kpos⟩] pos) (tSortLen X.K t) := by
  refine ⟨fun pins s σ H Q I h => ?_⟩
  refine wpAny_Call_Name_kw (ld_blt (u := .builtin "sorted") I hg hm (by decide +kernel) ?_ (by decide) (by decide))
  refine PyProof.Rows.callWith_kw (thn (ha.run pos pins s σ H _ I h) fun us s1 ⟨vs, H1, I1, r1, q1⟩ => ?_) he hpl
  obtain ⟨l, ks, rfl, hl, hk, few, q⟩ := q1
  rw [Vals.ref1 r1]
  refine wpAny_evalAll_cons (wpAny_bind (ld_blt (u := .builtin "len") I1 hg2 hm2 (by decide +kernel) (wpAny_bind (wpAny_standAt (wpAny_pure (wpAny_evalAll_nil ?_)))) (by decide) (by decide)))
  obtain ⟨its, rv, pl, hz⟩ := I1.list hl
  have hit := vals_refs rv
  have here : ∀ q ∈ ks, Tq X.prog X.w s1.heap q.2 q.1 := fun q m => tq_of I1 (hk q m)
  have hn := line63
  show wpAny (model X.prog X.w) X.A (call (.builtin "sorted") [.ref l] [(Str.ofString "key", .builtin "len")]) _ _ _
  refine PySem.W.sorted_key_data (β := Pr) (vs := its) (bs := ks) (R := fun v q => v = Value.ref q.1) (b := false) (fun q => .int q.2.length) (by simpa using pl.isList) (by rw [hit]; exact each_refs (fun _ => rfl) ks) (PySem.W.AllAlike.of fun _ _ => rfl)
    (PySem.W.Sortable.others fun _ => ⟨(fun z => nomatch z), fun _ z => nomatch z⟩) (by rw [sizeLine_eq]; omega) (fun q _ => by simp only [PyData.depth]; omega) (ksk_s1 _ _) (fun _ => ksk_l1 _ _) (fun _ => ksk_t4 _ _)
    (fun v q e m h' tk k => ?_) fun out c h' tk k _ hD hlen ho => ?_
  · subst e
    obtain ⟨o, xs, n, g, c, d, hi⟩ := tq_more (here q m) k
    have sz : xs.toList.length = q.2.length := (items_len hi).symm
    obtain ⟨_, _, _, lz⟩ := I1.tuple (hk q m)
    rw [List.length_map] at lz
    have sz2 : xs.size = q.2.length := by rw [← Array.length_toList]; exact sz
    refine len_tuple (t := q.1) (items := xs) ⟨o, g, c, n, d⟩ (by rw [sz2]; omega) ⟨h', tk + 1 + 1, rfl, fun _ _ y => y, ?_⟩
    rw [sz2]
    exact .int _ _
  · have ole : PySem.W.dataLe false (fun q : Pr => PyData.int q.2.length) = fun a b => decide (a.2.length ≤ b.2.length) := by
      rw [PySem.W.dataLe_int]
      funext a b
      simp only [Int.ofNat_le]
    rw [ole] at ho
    rw [refs_each ho] at hD
    have hp : H1 (s1.heap.objs.size + 1) = none := I1.hok.fresh (Nat.le_succ _)
    have len : (ks.mergeSort fun a b => decide (a.2.length ≤ b.2.length)).length = ks.length := List.length_mergeSort _
    have ok : ObjOk X.prog X.w (upd H1 (s1.heap.objs.size + 1) (.lst ((ks.mergeSort fun a b => decide (a.2.length ≤ b.2.length)).map fun q => V.ref q.1))) h' (s1.heap.objs.size + 1) (.lst ((ks.mergeSort fun a b => decide (a.2.length ≤ b.2.length)).map fun q => V.ref q.1)) :=
      ⟨by rw [List.length_map, len, sizeLine_eq]; omega, _, c, refs_vals _, hD⟩
    exact ⟨.ref _, _, I1.laid (t' := tk) k (Nat.le_succ _) ok, rfl, q _ hp⟩
end
end ZS

set_option Elab.async false
set_option linter.all false
set_option maxRecDepth 100000
/-! The rules with their frame said (within a comprehension it can't be read off), and data rules for the sorts. -/
namespace ZE
open PySem PySem.Spec PyProof.Rows L2 Evl ZS StX
theorem u65 {k : Nat} {A : Around} (r : Room k A) : A.units + 65 < cLine := by have := r.un; omega
section
variable {X : Cx} (K : PySem.W.Frag)
theorem xEq (hu : X.A.units + 64 < cLine) (hK : X.K = K := by rfl) : OpR X (compareOp .Eq) (rEqD K) := hK ▸ op_eqD hu
theorem xNe (hu : X.A.units + 64 < cLine) (hK : X.K = K := by rfl) : OpR X (compareOp .NotEq) (rNeD K) := hK ▸ op_neD hu
theorem xIn (hu : X.A.units + 65 < cLine) (hK : X.K = K := by rfl) : OpR X (compareOp .In) (rInS K) := hK ▸ op_inS hu
theorem xNin (hu : X.A.units + 65 < cLine) (hK : X.K = K := by rfl) : OpR X (compareOp .NotIn) (rNotInS K) := hK ▸ op_notInS hu
theorem xLe (hu : X.A.units + 64 < cLine) (hK : X.K = K := by rfl) : OpR X (compareOp .LtE) (rLeD K) := hK ▸ op_leD hu
theorem xCatL (hK : X.K = K := by rfl) : OpR X (binaryOp .Add) (rCatL K) := hK ▸ op_catL
theorem xCatT (hK : X.K = K := by rfl) : OpR X (binaryOp .Add) (rCatA K) := hK ▸ op_catA
theorem xIx (hK : X.K = K := by rfl) : IxR X (rIx K) := hK ▸ ix_seq
def rLen : List V → Hp → VK → Prop := fun xs H Q => ∃ p ys, xs = [.ref p] ∧ (SqL K H p ys ∨ SqT K H p ys) ∧ Q (.int ys.length) H
def rList : List V → Hp → VK → Prop := fun xs H Q => ∃ p ys, xs = [.ref p] ∧ (SqL K H p ys ∨ SqT K H p ys) ∧ ∀ l, H l = none → Q (.ref l) (upd H l (.lst ys))
def rTuple : List V → Hp → VK → Prop := fun xs H Q => ∃ p ys, xs = [.ref p] ∧ ((SqL K H p ys ∧ ∀ l, H l = none → Q (.ref l) (upd H l (.tup ys))) ∨ (SqT K H p ys ∧ Q (.ref p) H))
theorem xLen (hK : X.K = K := by rfl) : CallR X (.builtin "len") (rLen K) := hK ▸ call_len_seq
theorem xList (hK : X.K = K := by rfl) : CallR X (.type "list") (rList K) := hK ▸ call_list_of
theorem xTuple (hK : X.K = K := by rfl) : CallR X (.type "tuple") (rTuple K) := hK ▸ call_tuple_of
theorem xAll (hc : X.calm = true) (hK : X.K = K := by rfl) : CallR X (.builtin "all") (rAll K) := hK ▸ cr_all hc
theorem xAny (hc : X.calm = true) (hK : X.K = K := by rfl) : CallR X (.builtin "any") (rAny K) := hK ▸ cr_any hc
theorem xSeq {tg l : Expr} {tl : TE} (hl : PE X l tl) (hK : X.K = K := by rfl) : PI X tg l (iSq K tl) := hK ▸ pi_seq hl
theorem xStar {e : Expr} {es : List Expr} {te : TE} {t : TA} {p : Pos} (he : PE X e te) (hr : PA X es t) (hK : X.K = K := by rfl) (hs : starEach (.Starred e p :: es) X.env = (true, eval e X.env) :: starEach es X.env := by rfl) : PA X (.Starred e p :: es) (tStar K te t) := hK ▸ pa_star he hr hs
theorem xSetS (w : World) (hc : X.calm = true) (hu : X.A.units + 64 < cLine) (hK : X.K = K := by rfl) (hw : X.w = w := by rfl) : CallR X (.type "set") (rSetS K w) := hK ▸ hw ▸ cr_setS hc hu
theorem xSetT (P : Program) (w : World) (hc : X.calm = true) (hu : X.A.units + 64 < cLine) (hK : X.K = K := by rfl) (hw : X.w = w := by rfl) (hP : X.prog = P := by rfl) : CallR X (.type "set") (rSetT K P w) := hK ▸ hw ▸ hP ▸ cr_setT hc hu
theorem xSortSS (w : World) (hc : X.calm = true) (hw : X.w = w := by rfl) : CallR X (.builtin "sorted") (rSortSS w) := hw ▸ cr_sortSS hc
theorem xSortST (P : Program) (w : World) (hc : X.calm = true) (hu : X.A.units + 64 < cLine) (hK : X.K = K := by rfl) (hw : X.w = w := by rfl) (hP : X.prog = P := by rfl) : CallR X (.builtin "sorted") (rSortST K P w) := hK ▸ hw ▸ hP ▸ cr_sortST hc hu
end
section
variable {K : PySem.W.Frag} {σ : L2.St} {B : Hp} {te ta tl : TE} {tas : TA} {D : PyData} {ds es : List PyData} {w : World} {P : Program}
/-- (.., *e, ..) -/
theorem ea_star {t : TA} (h : EvD K te σ B D) (s : Sq D ds) (hr : EvDA K t σ B es) : EvDA K (tStar K te t) σ B (ds ++ es) := fun H1 b Q q => h H1 b _ fun v H2 e2 hv => by
  obtain ⟨a, xs, rfl, hs, ha⟩ := sq_split hv s
  refine ⟨a, xs, rfl, hs.symm.imp (ex_t sub_le) (ex_l sub_le), hr H2 (b.trans e2) _ fun ys H3 e3 hy => q _ H3 (e2.trans e3) (DpAll.app (dpa_up ha (sub_mono e3)) (dpa_up hy (sub_step e2)))⟩
/-- sorted(set(e)), e texts -/
theorem ed_sortSet {ys : List Str} (h : EvD K te σ B D) (s : Sq D (ys.map .str)) (few : ys.length < 64) : EvD K (tCB (rSortSS w) (tCons (tCB (rSetS K w) (tCons te tNil)) tNil)) σ B (.list ((ZO.can ZO.sLt ys).map .str)) := fun H1 b Q q => h H1 b _ fun v H2 e2 hv => by
  obtain ⟨a, xs, rfl, hs, ha⟩ := sq_split hv s
  obtain rfl := strs_dpa ha
  refine ⟨a, ys, rfl, hs.imp (ex_l sub_le) (ex_t sub_le), few, fun p hp => ⟨p, ys, rfl, upd_same, few, fun p2 hp2 => ?_⟩⟩
  exact q _ _ ((e2.trans (Ex.new hp)).trans (Ex.new hp2)) (.lst (sq_of (new_at2 (e2.trans (Ex.new hp)) hp2)) (dpa_strs _))
theorem tps_refs {H : Hp} : ∀ {yss : List (List Str)} {vs : List V}, DpAll K H vs (yss.map tp) → ∃ ks : List ZS.Pr, vs = ks.map (fun q => V.ref q.1) ∧ ks.map Prod.snd = yss ∧ ∀ q ∈ ks, SqT K H q.1 (q.2.map V.str)
  | [], _, .nil => ⟨[], rfl, rfl, fun _ m => nomatch m⟩
  | ys :: yss, _, .cons h t => by
    obtain ⟨ks, rfl, e, hk⟩ := tps_refs t
    cases h with
    | tup hs ha =>
      rename_i a xs
      obtain rfl := strs_dpa ha
      refine ⟨(a, ys) :: ks, rfl, by rw [List.map_cons, e], fun q m => ?_⟩
      rcases List.mem_cons.mp m with rfl | m
      · exact hs
      · exact hk q m
theorem refs_tps {H : Hp} : ∀ {ks : List ZS.Pr}, (∀ q ∈ ks, SqT K H q.1 (q.2.map V.str)) → DpAll K H (ks.map fun q => V.ref q.1) ((ks.map Prod.snd).map tp)
  | [], _ => .nil
  | q :: ks, h => .cons (.tup (h q (List.Mem.head _)) (dpa_strs _)) (refs_tps fun q m => h q (List.Mem.tail _ m))
theorem map_mergeSort {α β : Type} (f : α → β) (le : β → β → Bool) (l : List α) : (l.mergeSort fun a b => le (f a) (f b)).map f = (l.map f).mergeSort le := List.map_mergeSort fun _ _ _ _ => rfl
/-- sorted(sorted(set(e)), key=len), e a list of tuples of texts, () among them -/
theorem ed_sortSetLen {yss : List (List Str)} (h : EvD K te σ B (.list (yss.map tp))) (few : yss.length < 64) (he : [] ∈ yss) :
    EvD K (tSortLen K (tCons (tCB (rSortST K P w) (tCons (tCB (rSetT K P w) (tCons te tNil)) tNil)) tNil)) σ B (.list (((ZO.can ZO.tLt yss).mergeSort fun a b => decide (a.length ≤ b.length)).map tp)) := fun H1 b Q q => h H1 b _ fun v H2 e2 hv => by
  cases hv with
  | lst hs ha =>
    obtain ⟨ks, rfl, ek, hk⟩ := tps_refs ha
    have fk : ks.length < 64 := by rw [← ek, List.length_map] at few; exact few
    have keep : ∀ {H' : Hp}, Ex (sub H2 H1 B) H' → ∀ q ∈ ks, SqT K H' q.1 (q.2.map V.str) := fun e q m => ex_t e (hk q m)
    refine ⟨_, ks, rfl, ex_l sub_le hs, keep sub_le, fk, fun p hp => ?_⟩
    have e3 : Ex H2 (upd H2 p (ZS.SetT P w p ks)) := Ex.new hp
    refine ⟨p, ks, rfl, upd_same, keep (sub_le.trans e3), by rw [ek]; exact he, fun p2 ms sm em hp2 => ?_⟩
    have e4 := Ex.new (o := HO.lst (ms.map fun q => V.ref q.1)) hp2
    have hm : ∀ q ∈ ms, q ∈ ks := sm
    have fm : ms.length < 64 := by
      have z := congrArg List.length em
      have z2 := ZO.can_len ZO.sto_t (ks.map Prod.snd)
      rw [List.length_map] at z z2
      omega
    refine ⟨p2, ms, rfl, sq_of upd_same, fun q m => keep ((sub_le.trans e3).trans e4) q (hm q m), fm, fun p3 hp3 => ?_⟩
    have e5 := Ex.new (o := HO.lst ((ms.mergeSort fun a b => decide (a.2.length ≤ b.2.length)).map fun q => V.ref q.1)) hp3
    refine q _ _ (((e2.trans e3).trans e4).trans e5) (.lst (sq_of (new_at2 ((e2.trans e3).trans e4) hp3)) ?_)
    have z : ∀ q ∈ (ms.mergeSort fun a b => decide (a.2.length ≤ b.2.length)), SqT K (sub (upd (upd (upd H2 p (ZS.SetT P w p ks)) p2 (.lst (ms.map fun q => V.ref q.1))) p3 (.lst ((ms.mergeSort fun a b => decide (a.2.length ≤ b.2.length)).map fun q => V.ref q.1))) H1 B) q.1 (q.2.map V.str) := fun q m =>
      keep (sub_mono ((e3.trans e4).trans e5)) q (hm q (List.mem_mergeSort.mp m))
    have y := refs_tps z
    rw [map_mergeSort Prod.snd (fun (a b : List Str) => decide (a.length ≤ b.length)), em, ek] at y
    exact y
end
end ZE

set_option Elab.async false
set_option linter.all false
set_option maxRecDepth 100000
/-! Statements over data. -/
namespace ZE
open PySem PySem.Spec PyProof.Rows L2 Evl ZS StX
section
variable {K : PySem.W.Frag} {σ : L2.St} {B H : Hp} {te ta tl : TE} {tc : TT} {tas : TA} {d : PyData} {D : Ends} {t u t1 : TS} {i : Nat} {c : Bool}
theorem g_ret (h : EvD K te σ B d) (b : Ex B H) (q : ∀ v H2, Ex H H2 → Dp K (sub H2 H B) v d → D.rt v H2) : tRet te D σ H := h H b _ q
theorem g_asg (h : EvD K te σ B d) (b : Ex B H) (q : ∀ v H2, Ex H H2 → Dp K (sub H2 H B) v d → u D (σ.set i (some v)) H2) : tSeq (tAsg te (gName i)) u D σ H := h H b _ q
theorem g_asg1 (h : EvD K te σ B d) (b : Ex B H) (q : ∀ v H2, Ex H H2 → Dp K (sub H2 H B) v d → D.nx (σ.set i (some v)) H2) : tAsg te (gName i) D σ H := h H b _ q
theorem g_expr (h : EvD K te σ B d) (b : Ex B H) (q : ∀ H2, Ex H H2 → u D σ H2) : tSeq (tDrop te) u D σ H := h H b _ fun _ H2 e _ => q H2 e
theorem g_if (h : EvT tc σ B c) (b : Ex B H) (q1 : c = true → ∀ H2, Ex H H2 → t D σ H2) (q2 : c = false → ∀ H2, Ex H H2 → u D σ H2) : tIfS tc t u D σ H := h H b _ fun H2 e => by
  cases c with
  | true => exact (if_pos rfl).mpr (q1 rfl H2 e)
  | false => exact (if_neg Bool.false_ne_true).mpr (q2 rfl H2 e)
/-- if test: .. (no else), and what follows -/
theorem g_if1 (h : EvT tc σ B c) (b : Ex B H) (q1 : c = true → ∀ H2, Ex H H2 → t { D with nx := u D } σ H2) (q2 : c = false → ∀ H2, Ex H H2 → u D σ H2) : tSeq (tIfS tc t tNext) u D σ H := h H b _ fun H2 e => by
  cases c with
  | true => exact (if_pos rfl).mpr (q1 rfl H2 e)
  | false => exact (if_neg Bool.false_ne_true).mpr (q2 rfl H2 e)
end
/-! ### pairs of texts -/
def pr (p : Str × Str) : PyData := .tuple [.str p.1, .str p.2]
theorem pr_inj (p q : Str × Str) (h : pr p = pr q) : p = q := by
  obtain ⟨a, b⟩ := p
  obtain ⟨c, d⟩ := q
  have e : [PyData.str a, PyData.str b] = [PyData.str c, PyData.str d] := by injection h
  have e1 := List.cons.inj e
  have e2 := List.cons.inj e1.2
  rw [str_inj e1.1, str_inj e2.1]
theorem pr_tp (p : Str × Str) : pr p = tp [p.1, p.2] := rfl
section
variable {K : PySem.W.Frag} {σ : L2.St} {B : Hp} {te ta tl : TE} {tt : TT} {D0 : PyData}
theorem ed_lcP {xs : List (Str × Str)} (f : Str × Str → Bool) (g : Str × Str → PyData) {i j : Nat} {vs : List Nat} (hl : EvD K tl σ B D0) (sq : Sq D0 (xs.map pr)) (few : xs.length < 40000) (hw : ∀ x y, wipe (((wipe σ vs).set i (some x)).set j (some y)) vs = wipe σ vs)
    (ht : ∀ x ∈ xs, ∀ B1, Ex B B1 → EvT tt (((wipe σ vs).set i (some (.str x.1))).set j (some (.str x.2))) B1 (f x)) (he : ∀ x ∈ xs, f x = true → ∀ B1, Ex B B1 → EvD K te (((wipe σ vs).set i (some (.str x.1))).set j (some (.str x.2))) B1 (g x)) :
    EvD K (tLc (iSq K tl) (gTup K 2 (gCons (gName i) (gCons (gName j) gNil))) tt te vs) σ B (.list ((xs.filter f).map g)) := by
  have key : ∀ x σ2 B1, P2 K σ vs i j (pr x) σ2 B1 → σ2 = ((wipe σ vs).set i (some (.str x.1))).set j (some (.str x.2)) := fun x σ2 B1 ⟨d1, d2, v, u, e, h, h1, h2⟩ => by
    have e' : [PyData.str x.1, PyData.str x.2] = [d1, d2] := by injection e
    have e1 := List.cons.inj e'
    have e2 := List.cons.inj e1.2
    rw [← e1.1] at h1
    rw [← e2.1] at h2
    rw [h, p_str h1, p_str h2]
  exact ed_lcM (P := P2 K σ vs i j) pr_inj f g hl sq few (tg_pair hw fun d m => by obtain ⟨x, _, rfl⟩ := List.mem_map.mp m; exact ⟨_, _, rfl⟩) (fun x m σ2 B1 e p => by rw [key x σ2 B1 p]; exact ht x m B1 e) (fun x m fx σ2 B1 e p => by rw [key x σ2 B1 p]; exact he x m fx B1 e) p2_up
end
section
variable {K : PySem.W.Frag} {σ : L2.St} {B : Hp} {te ta tl tl1 : TE} {tt : TT} {D0 : PyData}
open Classical in
/-- what an item stands for -/
noncomputable def un {α : Type} (mk : α → PyData) (d : PyData) : Option α := if h : ∃ y, mk y = d then some h.choose else none
theorem un_mk {α : Type} {mk : α → PyData} (inj : ∀ x y, mk x = mk y → x = y) (x : α) : un mk (mk x) = some x := by
  have h : ∃ y, mk y = mk x := ⟨x, rfl⟩
  unfold un
  rw [dif_pos h]
  exact congrArg some (inj _ _ h.choose_spec)
/-- [e for name in seq for name1 in seq1 if test] -/
theorem ed_lc2N {α β : Type} [Inhabited β] {mk : α → PyData} {mk1 : β → PyData} (inj : ∀ x y, mk x = mk y → x = y) (inj1 : ∀ x y, mk1 x = mk1 y → x = y) {xs : List α} (ys : α → List β) (D1 : α → PyData) (f : α → β → Bool) (g : α → β → PyData) {j j1 : Nat} {vs vs1 : List Nat}
    (hl : EvD K tl σ B D0) (sq : Sq D0 (xs.map mk)) (few : xs.length < 200) (few1 : ∀ x ∈ xs, (ys x).length < 200) (sq1 : ∀ x ∈ xs, Sq (D1 x) ((ys x).map mk1))
    (hw : ∀ v, wipe ((wipe σ vs).set j (some v)) vs = wipe σ vs) (hw1 : ∀ v u, wipe ((wipe ((wipe σ vs).set j (some v)) vs1).set j1 (some u)) vs1 = wipe ((wipe σ vs).set j (some v)) vs1)
    (hl1 : ∀ x ∈ xs, ∀ v B1, Ex B B1 → Dp K B1 v (mk x) → EvD K tl1 ((wipe σ vs).set j (some v)) B1 (D1 x))
    (ht : ∀ x ∈ xs, ∀ y ∈ ys x, ∀ v u B1, Ex B B1 → Dp K B1 v (mk x) → Dp K B1 u (mk1 y) → EvT tt ((wipe ((wipe σ vs).set j (some v)) vs1).set j1 (some u)) B1 (f x y))
    (he : ∀ x ∈ xs, ∀ y ∈ ys x, f x y = true → ∀ v u B1, Ex B B1 → Dp K B1 v (mk x) → Dp K B1 u (mk1 y) → EvD K te ((wipe ((wipe σ vs).set j (some v)) vs1).set j1 (some u)) B1 (g x y)) :
    EvD K (tLc2 (iSq K tl) (gName j) tYes (iSq K tl1) (gName j1) tt te vs vs1) σ B (.list (xs.flatMap fun x => ((ys x).filter (f x)).map (g x))) := by
  let P := P1 K σ vs j
  let P' : PyData → PyData → L2.St → Hp → Prop := fun d d1 σ3 B1 => ∃ v u, σ3 = (wipe ((wipe σ vs).set j (some v)) vs1).set j1 (some u) ∧ Dp K B1 v d ∧ Dp K B1 u d1
  have main := ed_lc2 (K := K) (σ := σ) (B := B) (tl := tl) (tl1 := tl1) (D0 := D0) (ds := xs.map mk) (G := gName j) (G1 := gName j1) (tt := tt) (te := te) (P := P) (P1 := P') (vs := vs) (vs1 := vs1)
    (fun d => match un mk d with | some x => D1 x | none => .none) (fun d => match un mk d with | some x => (ys x).map mk1 | none => [])
    (fun d d1 => match un mk d with | some x => (match un mk1 d1 with | some y => f x y | none => false) | none => false)
    (fun d d1 => match un mk d with | some x => (match un mk1 d1 with | some y => g x y | none => .none) | none => .none)
    hl sq (by rw [List.length_map]; exact few) (tg_name hw)
    (fun d m σ2 B1 e ⟨v, h, hd⟩ => by obtain ⟨x, hx, rfl⟩ := List.mem_map.mp m; simp only [un_mk inj]; rw [h]; exact hl1 x hx v B1 e hd)
    (fun d m => by obtain ⟨x, hx, rfl⟩ := List.mem_map.mp m; simp only [un_mk inj]; exact sq1 x hx)
    (fun d m => by obtain ⟨x, hx, rfl⟩ := List.mem_map.mp m; simp only [un_mk inj, List.length_map]; exact few1 x hx)
    (fun d m σ2 B1 e w ⟨v, h, hd⟩ => by
      intro d1 m1 u H e2 hu Q q
      exact q _ (by rw [h]; exact hw1 v u) ⟨v, u, by rw [h], hd, hu⟩)
    (fun d m d1 m1 σ3 B1 e ⟨v, u, h, hd, hd1⟩ => by
      obtain ⟨x, hx, rfl⟩ := List.mem_map.mp m
      simp only [un_mk inj] at m1 ⊢
      obtain ⟨y, hy, rfl⟩ := List.mem_map.mp m1
      simp only [un_mk inj1]
      rw [h]
      exact ht x hx y hy v u B1 e hd hd1)
    (fun d m d1 m1 fd σ3 B1 e ⟨v, u, h, hd, hd1⟩ => by
      obtain ⟨x, hx, rfl⟩ := List.mem_map.mp m
      simp only [un_mk inj] at m1 fd ⊢
      obtain ⟨y, hy, rfl⟩ := List.mem_map.mp m1
      simp only [un_mk inj1] at fd ⊢
      rw [h]
      exact he x hx y hy fd v u B1 e hd hd1)
    p1_up (fun d d1 σ2 B1 B2 e ⟨v, u, h, hd, hd1⟩ => ⟨v, u, h, dp_up hd e, dp_up hd1 e⟩)
  refine ed_is main ?_
  congr 1
  rw [List.flatMap_map]
  congr 1
  funext x
  simp only [un_mk inj]
  rw [List.filter_map, List.map_map]
  congr 1
  · funext y
    show (match un mk1 (mk1 y) with | some y => g x y | none => PyData.none) = g x y
    rw [un_mk inj1]
  · congr 1
    funext y
    show (match un mk1 (mk1 y) with | some y => f x y | none => false) = f x y
    rw [un_mk inj1]
end
theorem map_bools {α : Type} {f : α → Bool} (xs : List α) : PyData.list (xs.map fun x => .bool (f x)) = .list ((xs.map f).map .bool) := by rw [List.map_map]; rfl
theorem rc_allS {K : PySem.W.Frag} {α : Type} {f : α → Bool} (xs : List α) : RcD K (rAll K) [.list (xs.map fun x => .bool (f x))] (.bool (xs.all f)) := by
  have := rc_all (K := K) (bs := xs.map f)
  rw [List.all_map, List.map_map] at this
  exact this
theorem rc_anyS {K : PySem.W.Frag} {α : Type} {f : α → Bool} (xs : List α) : RcD K (rAny K) [.list (xs.map fun x => .bool (f x))] (.bool (xs.any f)) := by
  have := rc_any (K := K) (bs := xs.map f)
  rw [List.any_map, List.map_map] at this
  exact this
theorem any_str {x : Str} {ys : List Str} (hx : PyData.strOk x = true) (hy : Oks ys) : (ys.map PyData.str).any (fun z => PyData.eqv z (.str x)) = decide (x ∈ ys) := by
  induction ys with
  | nil => rfl
  | cons y ys ih =>
    have e : PyData.eqv (.str y) (.str x) = decide (y = x) := by
      rw [show PyData.eqv (.str y) (.str x) = (y == x) by simp [PyData.eqv]]
      by_cases c : y = x
      · simp [c]
      · simp [c]
    rw [List.map_cons, List.any_cons, ih fun z m => hy z (List.Mem.tail _ m), e]
    by_cases c : y = x
    · subst c
      simp
    · have c' : ¬ x = y := fun h => c h.symm
      simp [c, c']
theorem sq_shaped {D : PyData} {n : Nat} {ds : List PyData} (s : Sq D ds) (h : ∀ d ∈ ds, txN n d = true) (hn : n ≤ 60) : SeqAt.shaped D = true := by
  rcases s with rfl | rfl
  · exact txN_shaped (tx_lst h) (by omega)
  · exact txN_shaped (tx_tup h) (by omega)
theorem str_shaped {x : Str} (h : PyData.strOk x = true) : SeqAt.shaped (.str x) = true := txN_shaped (n := 0) h (by decide)
theorem tp_shaped {xs : List Str} (h : Oks xs) : SeqAt.shaped (tp xs) = true := txN_shaped (tx_tp h) (by decide)
theorem eq_tp {xs ys : List Str} (h : Oks xs) (h' : Oks ys) : PyData.eqv (tp xs) (tp ys) = decide (xs = ys) := eqv_dec (tx_tp h) (tx_tp h') ⟨tp_inj, fun e => by rw [e]⟩
theorem eq_str {x y : Str} (h : PyData.strOk x = true) (h' : PyData.strOk y = true) : PyData.eqv (.str x) (.str y) = decide (x = y) := eqv_dec (n := 0) (m := 0) (d := .str x) (e := .str y) h h' ⟨str_inj, fun e => by rw [e]⟩
theorem any_tp {xs : List Str} {yss : List (List Str)} (hx : Oks xs) (hy : ∀ ys ∈ yss, Oks ys) : (yss.map tp).any (fun z => PyData.eqv z (tp xs)) = decide (xs ∈ yss) := by
  induction yss with
  | nil => rfl
  | cons y ys ih =>
    rw [List.map_cons, List.any_cons, ih fun z m => hy z (List.Mem.tail _ m), eq_tp (hy y (List.Mem.head _)) hx]
    by_cases c : y = xs
    · subst c
      simp
    · have c' : ¬ xs = y := fun h => c h.symm
      simp [c, c']
theorem oks_sharp : Oks ["#"] := fun x m => by
  obtain rfl : x = "#" := List.mem_singleton.mp m
  decide +kernel
theorem Oks.nil : Oks [] := fun _ m => nomatch m
theorem Oks.app {xs ys : List Str} (h : Oks xs) (h' : Oks ys) : Oks (xs ++ ys) := fun x m => (List.mem_append.mp m).elim (h x) (h' x)
theorem Oks.filter {xs : List Str} (h : Oks xs) (f : Str → Bool) : Oks (xs.filter f) := fun x m => h x (List.mem_filter.mp m).1
theorem Oks.sub {xs ys : List Str} (h : Oks ys) (s : ∀ x ∈ xs, x ∈ ys) : Oks xs := fun x m => h x (s x m)
theorem Oks.one {x : Str} (h : PyData.strOk x = true) : Oks [x] := fun y m => by rw [List.mem_singleton.mp m]; exact h
theorem xTup {X : Cx} (K : PySem.W.Frag) (n : Nat) {es : List Expr} {k : Nat} {t : TGs} {pos : Pos} (hc : X.calm = true) (h : PGs X es t) (hK : X.K = K := by rfl)
    (hn : (assignEach es X.env).length = n := by rfl) (hst : (assignEach es X.env).findIdx? (·.1) = none := by rfl) : PG X (.Tuple es k pos) (gTup K n t) := hK ▸ pg_tup hc h hn hst
/-- a def that can be called -/
structure Cal (P : Program) (w : World) (K : PySem.W.Frag) (mg : Str → Option Value) (base : Heap) (k : Nat) (g : Str) (ps : List Str) (sp : Sp) (f : Addr) (fd : FuncData) : Prop where
  m : mg g = some (.ref f)
  kp : PySem.W.keepIn K (.ref f) = true
  b : Binds K fd ps []
  G : FnOk P w K mg base CX0 k f fd ps sp
end ZE

set_option Elab.async false
set_option linter.all false
set_option maxRecDepth 100000
namespace S5
open PySem PySem.Spec PyProof.Rows L2 Evl ZE ZS StX
def top (i : Nat) : Stmt := PySem.Challenge.pw_surershares_k06_samplers.main.body.getD i (.Pass ⟨0, 0, 0, 0⟩)
/-- what the top has made -/
structure Tx (K : PySem.W.Frag) (mg : Str → Option Value) (aI : Addr) : Prop where
  mgITSELF : mg "ITSELF" = some (.ref aI)
  itself : ∀ H, Dp K H (.ref aI) (tp ["#"])
  tuple : mg "tuple" = none
  list : mg "list" = none
  all : mg "all" = none
  any : mg "any" = none
  sorted : mg "sorted" = none
  set : mg "set" = none
  len : mg "len" = none
section
variable {P : Program} {w : World} {K : PySem.W.Frag} {mg : Str → Option Value} {base : Heap} {aI : Addr}
def Bag (D : PyData) (xs : List Str) : Prop := Sq D (xs.map .str) ∧ Oks xs ∧ xs.length ≤ 20
theorem bag_tp {xs : List Str} (h : Oks xs) (l : xs.length ≤ 20) : Bag (tp xs) xs := ⟨.inr rfl, h, l⟩
/-! ### within -/
def withinF (xs ys : List Str) : Bool := decide (ys = (["#"] : List Str)) || xs.all fun x => decide (x ∈ ys)
def wP (ds : List PyData) (d : PyData) : Prop := ∃ A B xs ys, ds = [A, B] ∧ Bag A xs ∧ Bag B ys ∧ d = .bool (withinF xs ys)
/-! ### joint -/
def jointF (xs ys : List Str) : List Str := if xs = (["#"] : List Str) ∨ ys = (["#"] : List Str) then ["#"] else ZO.can ZO.sLt (xs ++ ys)
def jP (ds : List PyData) (d : PyData) : Prop := ∃ A B xs ys, ds = [A, B] ∧ Bag A xs ∧ Bag B ys ∧ d = tp (jointF xs ys)
/-! ### common -/
def commonF (xs ys : List Str) : List Str := if xs = (["#"] : List Str) then ys else xs.filter fun x => withinF [x] ys
def cP (ds : List PyData) (d : PyData) : Prop := ∃ A B xs ys, ds = [A, B] ∧ Bag A xs ∧ Bag B ys ∧ d = tp (commonF xs ys)
/-! ### all_told, is_closed -/
def Prs (D : PyData) (ps : List (Str × Str)) : Prop := Sq D (ps.map pr) ∧ (∀ p ∈ ps, PyData.strOk p.1 = true ∧ PyData.strOk p.2 = true) ∧ ps.length ≤ 100
def toldF (ps : List (Str × Str)) (x : Str) : List Str := (ps.filter fun p => decide (p.1 = x)).map Prod.snd
def atP (ds : List PyData) (d : PyData) : Prop := ∃ A ps x, ds = [A, .str x] ∧ Prs A ps ∧ PyData.strOk x = true ∧ d = tp (toldF ps x)
abbrev sAllTold : Stmt := (top 27)
abbrev NAllTold : List Str := ["pairs", "name", "one", "other"]
theorem scAllTold : FnScope NAllTold ["pairs", "name"] (defScope sAllTold) := ⟨rfl, rfl, rfl, by decide +kernel, rfl, by decide +kernel, by decide +kernel⟩
theorem ok_all_told {f : Addr} {fd : FuncData} (F : Fun K "all_told" "all_told" sAllTold f fd) (T : Tx K mg aI) : FnOk P w K mg base CX0 1 f fd ["pairs", "name"] (spD K atP) := by
  refine F.ok scAllTold (fun vs H Q E h => ?_) (fun cdv A outer s H vs Q E hr h => ?_)
  · obtain ⟨B, ds, d, b, hv, ⟨D1, xs, x, rfl, _⟩, _⟩ := h
    exact DpAll.len hv
  · obtain ⟨B, ds, d, b, hv, ⟨D1, ps, x, rfl, ⟨sx, ox, lx⟩, oy, rfl⟩, q⟩ := h
    obtain ⟨v1, v2, rfl, h1, h2⟩ := two hv
    refine ⟨_, (pss_one (ps_ret (pe_callTy (xTuple K) (by rfl) T.tuple (by decide +kernel) (pa_cons (pe_lc (own := [("one", 2), ("other", 3)]) rfl scAllTold.nd (xSeq K (pv 0)) (blkOk_by (N := NAllTold) (sc := defScope sAllTold) (by decide +kernel)) (fun _ _ _ _ _ => (xTup K 2 rfl (pgs_cons (pg_name (i := 2) scAllTold.nd rfl (by first | exact .inl rfl | exact .inr rfl)) (pgs_cons (pg_name (i := 3) scAllTold.nd rfl (by first | exact .inl rfl | exact .inr rfl)) pgs_nil)))) (fun _ _ _ _ _ => pts_one (pt_cmpR (xEq K hr.units) (pv 2) (pv 1) (nomark _))) (fun _ _ _ _ _ => (pv 3))) pa_nil)))), ?_⟩
    refine g_ret (ed_is (ed_cb (ea_consD (ed_lcP (fun p => decide (p.1 = x)) (fun p => .str p.2) (ed_var rfl h1) sx (by omega) (fun _ _ => rfl) (fun p m B1 e => ?_) fun p m _ B1 e => ed_var rfl (.str _)) ea_nilD) (rc_tuple (.inl rfl))) ?_) b q
    · exact et_of (ed_is (ed_op (ed_var rfl (.str _)) (ed_var rfl (dp_up h2 e)) (rv_eq (str_shaped (ox p m).1) (str_shaped oy))) (congrArg _ (eq_str (ox p m).1 oy)))
    · unfold tp toldF
      rw [List.map_map]
      rfl
def closedF (ps : List (Str × Str)) (xs : List Str) : Bool := ps.all fun p => !decide (p.1 ∈ xs) || decide (p.2 ∈ xs)
def icP (ds : List PyData) (d : PyData) : Prop := ∃ A D ps xs, ds = [A, D] ∧ Prs A ps ∧ Bag D xs ∧ d = .bool (closedF ps xs)
abbrev sIsClosed : Stmt := (top 29)
abbrev NIsClosed : List Str := ["pairs", "part", "one", "other"]
theorem scIsClosed : FnScope NIsClosed ["pairs", "part"] (defScope sIsClosed) := ⟨rfl, rfl, rfl, by decide +kernel, rfl, by decide +kernel, by decide +kernel⟩
theorem ok_is_closed {f : Addr} {fd : FuncData} (F : Fun K "is_closed" "is_closed" sIsClosed f fd) (T : Tx K mg aI) : FnOk P w K mg base CX0 1 f fd ["pairs", "part"] (spD K icP) := by
  refine F.ok scIsClosed (fun vs H Q E h => ?_) (fun cdv A outer s H vs Q E hr h => ?_)
  · obtain ⟨B, ds, d, b, hv, ⟨D1, _, xs, x, rfl, _⟩, _⟩ := h
    exact DpAll.len hv
  · obtain ⟨B, ds, d, b, hv, ⟨D1, D2, ps, xs, rfl, ⟨sx, ox, lx⟩, ⟨sy, oy, ly⟩, rfl⟩, q⟩ := h
    obtain ⟨v1, v2, rfl, h1, h2⟩ := two hv
    refine ⟨_, (pss_one (ps_ret (pe_callB (xAll K rfl) (by rfl) T.all (by decide +kernel) (pa_cons (pe_lc (own := [("one", 2), ("other", 3)]) rfl scIsClosed.nd (xSeq K (pv 0)) (blkOk_by (N := NIsClosed) (sc := defScope sIsClosed) (by decide +kernel)) (fun _ _ _ _ _ => (xTup K 2 rfl (pgs_cons (pg_name (i := 2) scIsClosed.nd rfl (by first | exact .inl rfl | exact .inr rfl)) (pgs_cons (pg_name (i := 3) scIsClosed.nd rfl (by first | exact .inl rfl | exact .inr rfl)) pgs_nil)))) (fun _ _ _ _ _ => pts_one (pt_cmpR (xIn K (u65 hr)) (pv 2) (pv 1) (by rfl))) (fun _ _ _ _ _ => (pe_cmpR (xIn K (u65 hr)) (pv 3) (pv 1) (by rfl)))) pa_nil)))), ?_⟩
    have hin : ∀ z, PyData.strOk z = true → ∀ B1, Ex B B1 → ∀ i σ, σ[i]? = some (some (V.str z)) → ∀ j, σ[j]? = some (some v2) → EvD K (tOp (rInS K) (tVar i) (tVar j)) σ B1 (.bool (decide (z ∈ xs))) := fun z oz B1 e i σ hi j hj =>
      ed_is (ed_op (ed_var hi (.str _)) (ed_var hj (dp_up h2 e)) (rv_in sy (str_shaped oz) (sq_shaped sy (tx_strs oy 0) (by decide)))) (congrArg _ (any_str oz oy))
    refine g_ret (ed_is (ed_cb (ea_consD (ed_lcP (fun p => decide (p.1 ∈ xs)) (fun p => .bool (decide (p.2 ∈ xs))) (ed_var rfl h1) sx (by omega) (fun _ _ => rfl) (fun p m B1 e => et_of (hin _ (ox p m).1 B1 e _ _ rfl _ rfl)) fun p m _ B1 e => hin _ (ox p m).2 B1 e _ _ rfl _ rfl) ea_nilD) (rc_allS _)) ?_) b q
    unfold closedF
    rw [List.all_filter]
end
end S5

set_option Elab.async false
set_option linter.all false
set_option maxRecDepth 100000
/-! {(a, b): v for ..}: a dict comprehension whose keys are tuples of texts and numbers. -/
namespace ZD
open PySem PySem.Spec PyProof.Rows L2 Evl
section
variable {X : Cx} {pins : List (Addr × Obj)} {σ : L2.St} {H : Hp} {s : Shared}
theorem tup_dictSet {E : Value → Shared → Prop} {D b : Addr} {kvs : List (List L2.Key × V)} {k : List L2.Key} {z : V} {r : Value} {Q : Unit → Shared → Prop} (hu : X.A.units < cLine) (I : Inv X pins σ H s) (hD : H D = some (.dT kvs)) (few : kvs.length < sizeLine) (hb : H b = some (.tup (k.map kV))) (rz : RelV z r)
    (fin : ∀ s', Inv X pins σ (upd H D (.dT (putK kvs k z))) s' → Q () s') : wpAny (model X.prog X.w) X.A (dictSet D (.ref b) r) Q E s := by
  obtain ⟨few0, nosys, rows, rel, dict⟩ := dt_of I.hok hD
  have few1 : rows.length ≤ sizeLine := by rw [← Paired.length rel]; exact few0
  have few2 : (putK kvs k z).length ≤ sizeLine := by
    have := length_putK kvs k z
    omega
  refine wpAny_dictSet_heap (hsz := few1) hu (key_of I.hok hb) dict fun h2 dict2 same => fin _ ?_
  obtain ⟨ob, es, ep, at1, at2, at3, at4, _, at5⟩ := dict2
  have keep : ∀ c ys, H c = some (.tup ys) → (upd H D (.dT (putK kvs k z))) c = some (.tup ys) := fun c ys e => by rw [upd_ne (ne_of e hD fun z => nomatch z)]; exact e
  exact d_write I (by rw [hD]; trivial) same ⟨ob, at1⟩ ⟨few2, nosys, _, (rel.put k hb rz).keeps keep, ob, es, ep, at1, at2, at3, at4, at5⟩
/-- one turn's store: the key y, the value z into the dict at D -/
def Put (D : Addr) (y z : V) (H : Hp) (N : Hp → Prop) : Prop := ∃ kvs k b, y = .ref b ∧ H b = some (.tup (k.map kV)) ∧ H D = some (.dT kvs) ∧ kvs.length < sizeLine ∧ N (upd H D (.dT (putK kvs k z)))
/-- what a walk of the comprehension asks, D the new dict -/
def Walk (J : It) (g : TG) (tt : TT) (tk tv : TE) (σ : L2.St) (vs : List Nat) (D : Addr) (H1 : Hp) (Q : Hp → Prop) : Prop := ∃ W : Nat → Nat → Hp → Prop, (∃ m, W 0 m (upd H1 D (.dT []))) ∧ ∀ i m H, W i m H →
  (J.stop i H ∧ Q H) ∨ (J.go i H ∧ ∃ N : Hp → Prop, (∀ H', N H' → ∃ m', m' < m ∧ W (i + 1) m' H') ∧ ∀ x H', J.yld i H x H' → g x (wipe σ vs) H' fun σ2 H2 => wipe σ2 vs = wipe σ vs ∧ tt σ2 H2 fun c H3 => if c = true then tk σ2 H3 fun y H4 => tv σ2 H4 fun z H5 => Put D y z H5 N else N H3)
def tDcT (wi : TI) (g : TG) (tt : TT) (tk tv : TE) (vs : List Nat) : TE := fun σ H Q => wi σ H fun J H1 => ∀ D, H1 D = none → Walk J g tt tk tv σ vs D H1 fun H2 => Q (.ref D) H2
abbrev Blk (X : Cx) (f : Cx → Prop) (scope : Scope) : Prop := ∀ (s : Shared) (H : Hp) (C : Addr) (cl : List (Str × Addr)) (fp : List Addr), f (X.blk s H scope (compEnvC scope cl C X.env) fp)
theorem pe_dcT {kx vx tg iter : Expr} {ifs : List Expr} {scope : Scope} {own : List (Str × Nat)} {pos : Pos} {wi : TI} {g : TG} {tt : TT} {tk tv : TE} (calm : X.calm = true) (nd : X.N.Nodup) (hu : X.A.units < cLine) (hi : PI X tg iter wi) (ok : BlkOk X.N X.env.scope scope own)
    (hg : Blk X (fun Y => PG Y tg g) scope) (ht : Blk X (fun Y => PTs Y ifs tt) scope) (hk : Blk X (fun Y => PE Y kx tk) scope) (hv : Blk X (fun Y => PE Y vx tv) scope) (folds : ∀ x, foldedSetIterable iter X.env x = pure x := by intro _; rfl) :
    PE X (.DictComp kx vx [⟨tg, iter, ifs, 0⟩] scope pos) (tDcT wi g tt tk tv (own.map (·.2))) := by
  constructor
  intro pins s σ H Q I h
  rw [arm_eval_DictComp]
  have frees : ∀ y ∈ scope.names, y.2 = .free → ∃ c, X.env.cells.lookup y.1 = some c := by
    intro y hy e
    exact I.ok.has _ ((ok.free y hy e).elim .inl .inr)
  refine wpAny_comprehension_free (use := none) rfl folds (closure_ok frees) ok.kind (fun y m e => by rw [ok.uniq y m, e]) ?_
  refine thn (hi.run pins s σ H _ I h) fun xv s1 h1 => thn h1 fun itv s2 ⟨it, fp, tn, J, H2, ev, I2, T, st2, fp2, q⟩ => ?_
  subst ev
  refine wpAny_newObj_type (newEnv_comp ?_)
  generalize hD : s2.heap.objs.size = D
  have free : H2 D = none := I2.hok.fresh (Nat.le_of_eq hD)
  obtain ⟨W, ⟨m0, start⟩, turn⟩ := q D free
  generalize hs3 : (Shared.mk (s2.heap.push { cls := .type "dict", data := .dict #[] }) s2.gens s2.drawn s2.toks s2.os) = s3
  have I3 : Inv X pins σ (upd H2 D (.dT [])) s3 := by
    subst hs3
    refine I2.laid (t' := s2.toks) (fun c u e => Heap.get?_push_of_some _ e) (Nat.le_of_eq hD) ?_
    subst hD
    exact dt_empty s2.heap I2.big
  have heap3 : s3.heap = s2.heap.push { cls := .type "dict", data := .dict #[] } := by subst hs3; rfl
  have low : ∀ b ∈ fp, b < s2.heap.objs.size := fun b m => (T.obj _ _ st2 b m).elim fun o e => Heap.lt_size e.1
  have fp3 : ∀ b ∈ fp, FpOk X pins (upd H2 D (.dT [])) b ∧ b < s3.heap.objs.size := by
    intro b m
    have lt := low b m
    have ne : b ≠ D := by rw [← hD]; exact Nat.ne_of_lt lt
    exact ⟨⟨by rw [upd_ne ne]; exact (fp2 b m).1, (fp2 b m).2⟩, by rw [heap3, Heap.size_push]; exact Nat.lt_succ_of_lt lt⟩
  have st3 : tn 0 s3.heap := by
    refine T.keep _ _ _ st2 fun b _ o e => ?_
    rw [heap3]
    exact Heap.get?_push_of_some _ e
  have I4 := block_start I3 ok nd fp3
  generalize hC : s3.heap.objs.size = C at I4
  generalize hcl : cellsFrom (C + 1) scope.names (cloFrom X.env.cells scope.names []) = cl at I4
  show codeAny (model X.prog X.w) X.A (.compStart (.DictComp kx vx [⟨tg, iter, ifs, 0⟩] scope pos) 0 (.ref it) (.ref D) (compEnvC scope cl C X.env)) (compPost (model X.prog X.w) X.A X.xe none (EP X pins σ Q) (.ref D) C) _
  have G := hg s3 (upd H2 D (.dT [])) C cl fp
  have TT := ht s3 (upd H2 D (.dT [])) C cl fp
  have KK := hk s3 (upd H2 D (.dT [])) C cl fp
  have VV := hv s3 (upd H2 D (.dT [])) C cl fp
  generalize hH3 : upd H2 D (.dT []) = H3 at I3 I4 start fp3 G TT KK VV
  have loc : (compEnvC scope cl C X.env).locals = C := rfl
  generalize compEnvC scope cl C X.env = ce at I4 loc G TT KK VV ⊢
  generalize hs4 : (Shared.mk (pushCells (s3.heap.push { cls := .type "dict", data := .dict #[] }) scope.names) s3.gens s3.drawn s3.toks s3.os) = s4 at I4 ⊢
  have st4 : tn 0 s4.heap := by
    subst hs4
    exact T.keep _ _ _ st3 fun b _ o e => pushCells_keeps _ _ _ _ (Heap.get?_push_of_some _ e)
  have no3 : ∀ b ∈ fp, H3 b = none := fun b m => (fp3 b m).1.1
  have fpok : ∀ {σ' : L2.St} {H' : Hp} {s' : Shared}, Inv (X.blk s3 H3 scope ce fp) [] σ' H' s' → (∀ b ∈ fp, H' b = none) → ∀ b ∈ fp, FpOk (X.blk s3 H3 scope ce fp) [] H' b := by
    intro σ' H' s' I' no b m
    exact ⟨no b m, (I'.ok.exf b m).1, I'.ok.exfs b m, .inl m, fun x c e => (I'.ok.exf b m).2 x c e, fun p hp => by simp at hp⟩
  suffices run : codeAny (model X.prog X.w) X.A (.compLoop (.DictComp kx vx [⟨tg, iter, ifs, 0⟩] scope pos) 0 (.ref it) (.ref D) ce) (compPost (model X.prog X.w) X.A X.xe none (EP X pins σ Q) (.ref D) C) s4 from codeAny_compStart_dict run (T.self X.A 0 _ _ _ st4 run)
  -- turn by turn
  refine compLoop_anyD (fun n s' => ∃ i H', Inv (X.blk s3 H3 scope ce fp) [] (wipe σ (own.map (·.2))) H' s' ∧ tn i s'.heap ∧ (∀ b ∈ fp, H' b = none) ∧ W i n H') ?_ m0 ⟨0, H3, I4, st4, no3, start⟩
  intro n s5 ⟨i, H5, I5, st5, no5, w5⟩
  cases turn i n H5 w5 with
  | inl fini =>
    obtain ⟨stop, fin⟩ := fini
    refine thnF (T.done (X.blk s3 H3 scope ce fp) rfl rfl rfl calm i [] s5 _ H5 (fun _ _ => False) I5 (fpok I5 no5) st5 stop) fun r s6 ⟨hr, I6⟩ => ?_
    subst hr
    have outer : Inv X pins σ H5 s6 := I3.call' (ch := fp) I6.os I6.base I6.hok I6.bare fun b m => by
      obtain ⟨_, a1, a2, a3, a4, a5⟩ := (fp3 b m).1
      exact ⟨a3, a1, a4, a5⟩
    have noC : H5 C = none := by
      have z := I6.free
      rw [show (X.blk s3 H3 scope ce fp).env.locals = C from loc] at z
      exact z
    obtain ⟨m, ns, _⟩ := I6.loc
    have ns' : s6.heap.Ns C m := by
      rw [← loc]
      exact ns
    have fC : FpOk X pins H5 C := I3.fpOk (Nat.le_of_eq hC) noC
    refine ⟨m, ns', fun h2 same => ?_⟩
    obtain ⟨c0, c1, c2, c3, c4, c5⟩ := fC
    exact ⟨.ref D, H5, outer.turned (t' := s6.toks) (fun b o nb e => (same.2 b nb).trans e) c0 c1 c3 c4 c5, rfl, fin⟩
  | inr more =>
    obtain ⟨go, N, down, step⟩ := more
    refine thnF (T.item (X.blk s3 H3 scope ce fp) rfl rfl rfl calm i [] s5 _ H5 (fun _ _ => False) I5 (fpok I5 no5) st5 go) fun r s6 ⟨u, hr, h6⟩ => ?_
    subst hr
    refine thnF h6 fun _ s7 ⟨x, H7, I7, r7, y7, st7, no7⟩ => ?_
    have P7 := I7.pinned (fpok I7 no7) (T.obj _ _ st7)
    refine thnF (G.run _ s7 _ H7 x u _ P7 r7 (step x H7 y7)) fun _ s8 ⟨σ8, H8, I8, w8, q8⟩ => ?_
    refine thnF (TT.run _ s8 σ8 H8 _ I8 q8) fun c s9 ⟨H9, I9, q9⟩ => ?_
    -- what a turn leaves
    have fin : ∀ {s' : Shared} {H' : Hp}, Inv (X.blk s3 H3 scope ce fp) ([] ++ pinsAt fp s7.heap) σ8 H' s' → N H' → ∃ m, m < n ∧ ∃ i H', Inv (X.blk s3 H3 scope ce fp) [] (wipe σ (own.map (·.2))) H' s' ∧ tn i s'.heap ∧ (∀ b ∈ fp, H' b = none) ∧ W i m H' := by
      intro s' H' I' nx
      obtain ⟨m', less, w'⟩ := down H' nx
      have pinned : ∀ b ∈ fp, ∀ o, s7.heap.get? b = some o → s'.heap.get? b = some o ∧ H' b = none := by
        intro b m o e
        have z := I'.pin (b, o) (List.mem_append_right _ (List.mem_append_right _ (mem_pinsAt m e)))
        exact ⟨z.1, z.2.1⟩
      refine ⟨m', less, i + 1, H', (I'.unpinned (pins := [])).weak (by rw [← w8, wipe_length]) (fun j v e => ?_), T.keep _ _ _ st7 fun b m o e => (pinned b m o e).1, fun b m => ?_, w'⟩
      · rw [← w8] at e
        exact (wipe_some e).1
      · obtain ⟨o, e, _⟩ := T.obj _ _ st7 b m
        exact (pinned b m o e).2
    cases c with
    | false =>
      rw [if_neg Bool.false_ne_true] at q9 ⊢
      exact fin I9 q9
    | true =>
      rw [if_pos rfl] at q9 ⊢
      refine thnF (KK.run _ s9 σ8 H9 _ I9 q9) fun ku s10 ⟨y, H10, I10, r10, q10⟩ => ?_
      refine thnF (VV.run _ s10 σ8 H10 _ I10 q10) fun vu s11 ⟨z, H11, I11, r11, kvs, k, b, ey, hb, hD11, few, nx⟩ => ?_
      subst ey
      obtain rfl : ku = Value.ref b := r10
      exact tup_dictSet (X := X.blk s3 H3 scope ce fp) hu I11 hD11 few hb r11 fun s12 I12 => fin I12 nx
end
end ZD

set_option Elab.async false
set_option linter.all false
set_option maxRecDepth 100000
/-! A dict of pairs of texts as a relation. -/
namespace ZD
open PySem PySem.Spec PyProof.Rows L2 Evl ZE
abbrev Rel := Str → Str → Bool
abbrev k2 (a b : Str) : List L2.Key := [Sum.inr a, Sum.inr b]
def FdR (kvs : List (List L2.Key × V)) (R : Rel) : Prop := ∀ a b, (valV kvs (k2 a b)).isSome = R a b
def Fd (H : Hp) (p : Addr) (R : Rel) (n : Nat) : Prop := ∃ kvs, H p = some (.dT kvs) ∧ kvs.length ≤ n ∧ FdR kvs R
def addR (R : Rel) (a b : Str) : Rel := fun x y => decide (x = a ∧ y = b) || R x y
theorem k2_inj {a b x y : Str} : k2 x y = k2 a b ↔ x = a ∧ y = b := by
  constructor
  · intro h
    have h1 := List.cons.inj h
    have h2 := List.cons.inj h1.2
    exact ⟨Sum.inr.inj h1.1, Sum.inr.inj h2.1⟩
  · rintro ⟨rfl, rfl⟩
    rfl
theorem FdR.put {kvs : List (List L2.Key × V)} {R : Rel} (h : FdR kvs R) (a b : Str) (v : V) : FdR (putK kvs (k2 a b) v) (addR R a b) := fun x y => by
  rw [valV_put]
  unfold addR
  by_cases c : x = a ∧ y = b
  · rw [if_pos (k2_inj.mpr c), decide_eq_true c]
    rfl
  · rw [if_neg fun z => c (k2_inj.mp z), decide_eq_false c, h x y]
    rfl
section
variable {K : PySem.W.Frag} {σ : L2.St} {B : Hp} {te tl tk tv : TE} {tt : TT} {D0 : PyData} {ds : List PyData} {G g : TG}
/-- (x, y) in the dict -/
theorem et_found {i j l : Nat} {a b : Str} {p : Addr} {R : Rel} {n : Nat} (hi : σ[i]? = some (some (V.str a))) (hj : σ[j]? = some (some (V.str b))) (hl : σ[l]? = some (some (V.ref p))) (h : Fd B p R n) :
    EvT (tB (tDIn (tTup (tCons (tVar i) (tCons (tVar j) tNil))) (tVar l))) σ B (R a b) := fun H1 e Q q => by
  obtain ⟨kvs, hp, _, hr⟩ := h
  refine ⟨_, hi, _, hj, by show 2 ≤ sizeLine; decide, fun t ht => ?_⟩
  have e2 : Ex H1 (upd H1 t (.tup [V.str a, V.str b])) := Ex.new ht
  exact ⟨.ref p, hl, p, _, rfl, DGet.t (k := k2 a b) (e2 p _ (e p _ hp)) upd_same, _, rfl, by rw [hr a b]; exact q _ e2⟩
/-- the dict: [x, y] = True -/
theorem s_found {i j l : Nat} {a b : Str} {p : Addr} {R : Rel} {n : Nat} {H : Hp} {D : Ends} (hi : σ[i]? = some (some (V.str a))) (hj : σ[j]? = some (some (V.str b))) (hl : σ[l]? = some (some (V.ref p))) (h : Fd H p R n) (few : n < 100000)
    (q : ∀ H2, (∀ c o, H c = some o → c ≠ p → H2 c = some o) → Fd H2 p (addR R a b) (n + 1) → D.nx σ H2) : sDPut (tVar l) (tTup (tCons (tVar i) (tCons (tVar j) tNil))) (tC (.bl true)) D σ H := by
  obtain ⟨kvs, hp, hn, hr⟩ := h
  refine ⟨.ref p, hl, _, hi, _, hj, by show 2 ≤ sizeLine; decide, fun t ht => ?_⟩
  have e2 : Ex H (upd H t (.tup [V.str a, V.str b])) := Ex.new ht
  refine ⟨p, _, rfl, DPut.t (k := k2 a b) (e2 p _ hp) upd_same (sz_lt (by omega)), q _ (fun c o hc ne => ?_) ⟨_, upd_same, ?_, hr.put a b _⟩⟩
  · rw [upd_ne ne]
    exact e2 c o hc
  · have := length_putK kvs (k2 a b) (V.bl true)
    omega
theorem Fd.up {H H2 : Hp} {p : Addr} {R : Rel} {n : Nat} (h : Fd H p R n) (e : Ex H H2) : Fd H2 p R n := by
  obtain ⟨kvs, hp, r⟩ := h
  exact ⟨kvs, e p _ hp, r⟩
theorem Fd.le {H : Hp} {p : Addr} {R : Rel} {n m : Nat} (h : Fd H p R n) (l : n ≤ m) : Fd H p R m := by
  obtain ⟨kvs, hp, h1, r⟩ := h
  exact ⟨kvs, hp, by omega, r⟩
theorem walk_seq {a : Addr} {xs : List V} {J : It} {B : Hp} (hJ : (J = Itl K a ∧ ∀ H', Ex B H' → SqL K H' a xs) ∨ (J = Itt K a ∧ ∀ H', Ex B H' → SqT K H' a xs)) {vs : List Nat} {H1 : Hp} {D : Addr} {Qd : Hp → Prop} (Pv : Nat → Hp → Prop) (h0 : Pv 0 (upd H1 D (.dT []))) (hl : ∀ i H, Pv i H → Ex B H)
    (hs : ∀ i x H, xs[i]? = some x → Pv i H → g x (wipe σ vs) H fun σ2 H2 => wipe σ2 vs = wipe σ vs ∧ tt σ2 H2 fun c H3 => if c = true then tk σ2 H3 fun y H4 => tv σ2 H4 fun z H5 => Put D y z H5 (Pv (i + 1)) else Pv (i + 1) H3)
    (hd : ∀ H, Pv xs.length H → Qd H) : Walk J g tt tk tv σ vs D H1 Qd := by
  refine ⟨fun i m H => m = xs.length - i ∧ i ≤ xs.length ∧ Pv i H, ⟨xs.length, by simp, Nat.zero_le _, h0⟩, ?_⟩
  rintro i m H ⟨rfl, hi, p⟩
  by_cases lt : i < xs.length
  · refine .inr ⟨?_, Pv (i + 1), fun H' p' => ⟨xs.length - (i + 1), by omega, rfl, lt, p'⟩, fun x H' y => ?_⟩
    · rcases hJ with ⟨rfl, hJ⟩ | ⟨rfl, hJ⟩
      · exact ⟨xs, xs[i], hJ H (hl i H p), by simp [lt]⟩
      · exact ⟨xs, xs[i], hJ H (hl i H p), by simp [lt]⟩
    · rcases hJ with ⟨rfl, hJ⟩ | ⟨rfl, hJ⟩
      · obtain ⟨e, y⟩ := y
        subst e
        exact hs i x _ (y xs (hJ _ (hl i _ p))) p
      · obtain ⟨e, y⟩ := y
        subst e
        exact hs i x _ (y xs (hJ _ (hl i _ p))) p
  · have e : i = xs.length := by omega
    subst e
    refine .inl ⟨?_, hd H p⟩
    rcases hJ with ⟨rfl, hJ⟩ | ⟨rfl, hJ⟩
    · exact ⟨xs, hJ H (hl _ H p), Nat.le_refl _⟩
    · exact ⟨xs, hJ H (hl _ H p), Nat.le_refl _⟩
def memR (ps : List (Str × Str)) : Rel := fun a b => decide ((a, b) ∈ ps)
/-- {(a, b): True for a, b in seq} -/
theorem found_new {ps : List (Str × Str)} {i j : Nat} {vs : List Nat} (hl : EvD K tl σ B D0) (sq : Sq D0 (ps.map pr)) (few : ps.length < 1000) (hi : i ∈ vs) (hj : j ∈ vs) (hij : i ≠ j) (li : i < σ.length) (lj : j < σ.length)
    (hw : ∀ x y, wipe (((wipe σ vs).set i (some x)).set j (some y)) vs = wipe σ vs) {H1 : Hp} (b : Ex B H1) {Q : VK} (q : ∀ p H2, H1 p = none → Ex H1 H2 → Fd H2 p (memR ps) ps.length → Q (.ref p) H2) :
    tDcT (iSq K tl) (gTup K 2 (gCons (gName i) (gCons (gName j) gNil))) tYes (tTup (tCons (tVar i) (tCons (tVar j) tNil))) (tC (.bl true)) vs σ H1 Q := by
  refine hl H1 b _ fun v H2 e2 hv => ?_
  obtain ⟨a, xs, rfl, hs, hx⟩ := sq_split hv sq
  have main : ∀ J : It, ((J = Itl K a ∧ ∀ H', Ex (sub H2 H1 B) H' → SqL K H' a xs) ∨ (J = Itt K a ∧ ∀ H', Ex (sub H2 H1 B) H' → SqT K H' a xs)) → ∀ D, H2 D = none → Walk J (gTup K 2 (gCons (gName i) (gCons (gName j) gNil))) tYes (tTup (tCons (tVar i) (tCons (tVar j) tNil))) (tC (.bl true)) σ vs D H2 fun H3 => Q (.ref D) H3 := by
    intro J hJ D hD
    have dn : sub H2 H1 B D = none := by
      unfold sub
      split
      · rfl
      · exact hD
    refine walk_seq hJ (fun n H => Ex H2 H ∧ Fd H D (memR (ps.take n)) n) ⟨Ex.new hD, [], upd_same, Nat.le_refl _, fun a b => rfl⟩ (fun n H p => sub_le.trans p.1) (fun n x H hn p => ?_) fun H p => ?_
    · obtain ⟨p1, p2⟩ := p
      obtain ⟨d, hd, hxd⟩ := DpAll.get' hx hn
      rw [List.getElem?_map] at hd
      obtain ⟨⟨c1, c2⟩, hc, rfl⟩ := Option.map_eq_some_iff.mp hd
      have hxd' := dp_up hxd (sub_le.trans p1)
      cases hxd' with
      | tup hs ha =>
        cases ha with
        | cons h1 t =>
          cases h1
          cases t with
          | cons h2 t =>
            cases h2
            cases t
            refine ⟨_, _, rfl, hs, rfl, _, _, rfl, _, _, rfl, rfl, hw _ _, ?_⟩
            have wl := wipe_length σ vs
            refine yes_go ?_
            refine ⟨_, by rw [List.getElem?_set_ne (by omega), List.getElem?_set_self (by omega)], _, by rw [List.getElem?_set_self (by rw [List.length_set]; omega)], by show 2 ≤ sizeLine; decide, fun t ht => ?_⟩
            have e3 : Ex H (upd H t (.tup [V.str c1, V.str c2])) := Ex.new ht
            obtain ⟨kvs, hp, hn2, hr⟩ := p2
            have lt : n < ps.length := (List.getElem?_eq_some_iff.mp hc).1
            refine ⟨kvs, k2 c1 c2, t, rfl, upd_same, e3 D _ hp, sz_lt (by omega), Ex.mut (p1.trans e3) hD, _, upd_same, ?_, fun x y => ?_⟩
            · have := length_putK kvs (k2 c1 c2) (V.bl true)
              omega
            · rw [hr.put c1 c2 _ x y]
              unfold addR memR
              rw [List.take_succ, hc]
              show (decide (x = c1 ∧ y = c2) || decide ((x, y) ∈ ps.take n)) = decide ((x, y) ∈ ps.take n ++ [(c1, c2)])
              rw [← Bool.decide_or]
              refine decide_eq_decide.mpr ?_
              rw [List.mem_append, List.mem_singleton, Prod.mk.injEq]
              exact Or.comm
    · rw [DpAll.len hx, List.length_map, List.take_length] at p
      exact q D H (fresh_back e2 hD) (e2.trans p.1) p.2
  refine ⟨a, rfl, ?_⟩
  rcases hs with hs | hs
  · exact .inl ⟨xs, ex_l sub_le hs, main _ (.inl ⟨rfl, fun H' e => ex_l e hs⟩)⟩
  · exact .inr ⟨xs, ex_t sub_le hs, main _ (.inr ⟨rfl, fun H' e => ex_t e hs⟩)⟩
end
/-- found = {(a, b): True for a, b in seq} -/
theorem s_foundNew {K : PySem.W.Frag} {σ : L2.St} {B : Hp} {tl : TE} {D0 : PyData} {ps : List (Str × Str)} {i j l : Nat} {vs : List Nat} {u : TS} {D : Ends} {H1 : Hp} (b : Ex B H1) (hl : EvD K tl σ B D0) (sq : Sq D0 (ps.map pr)) (few : ps.length < 1000) (hi : i ∈ vs) (hj : j ∈ vs) (hij : i ≠ j) (li : i < σ.length) (lj : j < σ.length)
    (hw : ∀ x y, wipe (((wipe σ vs).set i (some x)).set j (some y)) vs = wipe σ vs) (q : ∀ p H2, H1 p = none → Ex H1 H2 → Fd H2 p (memR ps) ps.length → u D (σ.set l (some (.ref p))) H2) :
    tSeq (tAsg (tDcT (iSq K tl) (gTup K 2 (gCons (gName i) (gCons (gName j) gNil))) tYes (tTup (tCons (tVar i) (tCons (tVar j) tNil))) (tC (.bl true)) vs) (gName l)) u D σ H1 :=
  found_new (Q := fun v H2 => gName l v σ H2 fun σ2 H3 => u D σ2 H3) hl sq few hi hj hij li lj hw b q
/-! ### objects of one's own that change -/
section
variable {K : PySem.W.Frag} {Hk B0 H0 B H H2 : Hp} {p : Addr} {o : HO}
theorem _root_.ZE.At.chg (a : At Hk B0 H0 B H) (hb : B p = none) (hk : Hk p = none) (keep : ∀ c o, H c = some o → c ≠ p → H2 c = some o) (hs : (H2 p).isSome = true) : At Hk B0 H0 B H2 := by
  have up : ∀ {A : Hp}, Ex A H → A p = none → Ex A H2 := fun e n c u hc => keep c u (e c u hc) fun z => by rw [z, n] at hc; cases hc
  refine ⟨⟨a.wk.bb, up a.wk.bh hb, a.wk.ap⟩, up a.ex hk, fun c h => ?_⟩
  by_cases z : c = p
  · rw [z]
    exact hs
  · obtain ⟨u, hu⟩ := Option.isSome_iff_exists.mp (a.dm c h)
    rw [keep c u hu z]
    rfl
theorem _root_.ZE.At.hold (a : At Hk B0 H0 B H) (hb : B p = none) (hn : H0 p = none) (hp : H p = some o) : At Hk B0 H0 (upd B p o) H ∧ Ex B (upd B p o) := by
  have e : Ex B (upd B p o) := Ex.new hb
  refine ⟨⟨⟨a.wk.bb.trans e, fun x u z => ?_, fun x b0 hs => ?_⟩, a.ex, a.dm⟩, e⟩
  · by_cases c : x = p
    · rw [c, upd_same] at z
      rw [c, hp]
      exact z
    · rw [upd_ne c] at z
      exact a.wk.bh x u z
  · rw [upd_ne fun z => by rw [z, hn] at hs; cases hs]
    exact a.wk.ap x b0 hs
/-- a smaller base -/
theorem _root_.ZE.At.less {B2 : Hp} (a : At Hk B0 H0 B H) (e : Ex B2 B) (b0 : Ex B0 B2) : At Hk B0 H0 B2 H := ⟨⟨b0, e.trans a.wk.bh, fun x n hs => fresh_back e (a.wk.ap x n hs)⟩, a.ex, a.dm⟩
theorem sub_none {B1 : Hp} (e : Ex H H2) (hp : (H p).isSome = true) (hb : B1 p = none) : sub H2 H B1 p = none := sub_no ⟨hp, hb⟩
end
/-! ### going over them again and again -/
def stepR (m a : Str) (R : Rel) (b : Str) : Rel := if R a m = true ∧ R m b = true then addR R a b else R
def rowR (names : List Str) (m : Str) (R : Rel) (a : Str) : Rel := names.foldl (stepR m a) R
def midR (names : List Str) (R : Rel) (m : Str) : Rel := names.foldl (rowR names m) R
def fwR (names : List Str) (R : Rel) : Rel := names.foldl (midR names) R
theorem foldl_snoc {α β : Type} {l : List α} {i : Nat} {x : α} (f : β → α → β) (b : β) (h : l[i]? = some x) : (l.take (i + 1)).foldl f b = f ((l.take i).foldl f b) x := by
  rw [List.take_succ, h, List.foldl_append]
  rfl
end ZD

set_option Elab.async false
set_option linter.all false
set_option maxRecDepth 100000
/-! isinstance by data; fields and methods with their frame said. -/
namespace ZE
open PySem PySem.Spec PyProof.Rows L2 Evl ZS StX
def tyN : PyData → String
  | .none => "NoneType"
  | .bool _ => "bool"
  | .int _ => "int"
  | .str _ => "str"
  | .list _ => "list"
  | .tuple _ => "tuple"
  | .dict _ => "dict"
section
variable {K : PySem.W.Frag} {H : Hp} {v : V} {d : PyData}
theorem ty_dp (h : Dp K H v d) : TyX K H v (.type (tyN d)) := by
  cases h with
  | non => exact .base .non
  | bl b => exact .base (.bl b)
  | int i => exact .base (.int i)
  | str x => exact .base (.str x)
  | lst hs ha =>
    rcases hs with (h | ⟨o, h⟩) | ⟨o, its, n, hk, hc, hd, hs, hz, r⟩
    · exact .base (.lst h)
    · exact .base (.frz h)
    · exact .kList hk hc
  | tup hs ha =>
    rcases hs with (h | ⟨o, h⟩) | ⟨o, its, n, hk, hc, hd, hz, r⟩
    · exact .base (.tup h)
    · exact .fTuple h
    · exact .kTuple hk hc
theorem kit_two {t a b : String} {x y : Bool} (h1 : kitB t a = some x) (h2 : kitB t b = some y) : PySem.W.kitAny K (.type t) [.type a, .type b] = some (x || y) := by
  refine kitAny_cons (kit_ty h1) (fun e => ?_) fun e => by rw [e]; rfl
  rw [e, Bool.false_or]
  refine kitAny_cons (kit_ty h2) (fun e2 => ?_) fun e2 => e2
  rw [e2]
  rfl
end
section
variable {X : Cx} (K : PySem.W.Frag)
theorem xIsi (hK : X.K = K := by rfl) : CallR X (.builtin "isinstance") (rIsi K) := hK ▸ call_isi
theorem xIsiT (hK : X.K = K := by rfl) : CallR X (.builtin "isinstance") (rIsiT K) := hK ▸ call_isiT
theorem xFld {e : Expr} {f : Str} {pos : Pos} {ta : TE} (he : PE X e ta) (hb : attributeBase e f X.env (eval e X.env) = eval e X.env) (hK : X.K = K := by rfl) : PE X (.Attribute e f pos) (tFld K ta f) := hK ▸ pe_fld he hb
end
section
variable {K : PySem.W.Frag} {σ : L2.St} {B : Hp} {te ta tb : TE} {d : PyData}
/-- isinstance(e, (a, b)) -/
theorem ed_isi2 {a b : String} {x y : Bool} (h : EvD K te σ B d) (h1 : kitB (tyN d) a = some x) (h2 : kitB (tyN d) b = some y) : EvD K (tCB (rIsiT K) (tCons te (tCons (tTup (tCons (tC (.ty a)) (tCons (tC (.ty b)) tNil))) tNil))) σ B (.bool (x || y)) := fun H1 e Q q => h H1 e _ fun v H2 e2 hv =>
  ⟨by show 2 ≤ sizeLine; decide, fun p hp => ⟨v, p, _, .type (tyN d), _, x || y, rfl, upd_same, .cons (.ty _) (.cons (.ty _) .nil), ty_dp (dp_up hv (sub_le.trans (Ex.new hp))), kit_two h1 h2, q _ _ (e2.trans (Ex.new hp)) (.bl _)⟩⟩
theorem ed_isi1 {a : String} {x : Bool} (h : EvD K te σ B d) (h1 : kitB (tyN d) a = some x) : EvD K (tCB (rIsi K) (tCons te (tCons (tC (.ty a)) tNil))) σ B (.bool x) := fun H1 e Q q => h H1 e _ fun v H2 e2 hv =>
  ⟨v, .ty a, .type (tyN d), .type a, x, rfl, .ty _, ty_dp (dp_up hv sub_le), kit_ty h1, q _ _ e2 (.bl _)⟩
end
end ZE

set_option Elab.async false
set_option linter.all false
set_option maxRecDepth 100000
/-! Objects with fields; dicts with texts as keys. -/
namespace ZE
open PySem PySem.Spec PyProof.Rows L2 Evl ZS StX
/-- data lean on sequences alone -/
def seqO : HO → Prop
  | .lst _ | .tup _ | .frz _ _ => True
  | _ => False
section
variable {K : PySem.W.Frag} {B B2 : Hp}
theorem rd_keep {a : Addr} {u : HO} (k : ∀ a o, B a = some o → seqO o → B2 a = some o) (s : seqO u) (h : Rd B a u) : Rd B2 a u := by
  rcases h with h | ⟨o, h⟩
  · exact .inl (k a _ h s)
  · exact .inr ⟨o, k a _ h trivial⟩
mutual
theorem dp_keep (k : ∀ a o, B a = some o → seqO o → B2 a = some o) : ∀ (d : PyData) (v : V), Dp K B v d → Dp K B2 v d
  | .none, _, h => by cases h; exact .non
  | .bool b, _, h => by cases h; exact .bl b
  | .int i, _, h => by cases h; exact .int i
  | .str x, _, h => by cases h; exact .str x
  | .list ds, _, h => by
    cases h with
    | lst hs ha => exact .lst (hs.imp (rd_keep k trivial) id) (dpa_keep k ds _ ha)
  | .tuple ds, _, h => by
    cases h with
    | tup hs ha => exact .tup (hs.imp (rd_keep k trivial) id) (dpa_keep k ds _ ha)
  | .dict _, _, h => by cases h
theorem dpa_keep (k : ∀ a o, B a = some o → seqO o → B2 a = some o) : ∀ (ds : List PyData) (vs : List V), DpAll K B vs ds → DpAll K B2 vs ds
  | [], _, h => by cases h; exact .nil
  | d :: ds, _, h => by
    cases h with
    | cons h1 h2 => exact .cons (dp_keep k d _ h1) (dpa_keep k ds _ h2)
end
/-- without the object at p, that is no sequence -/
theorem dp_less {H H2 : Hp} {p : Addr} {o : HO} {v : V} {d : PyData} (h : Dp K (sub H2 H (upd B p o)) v d) (n : ¬ seqO o) (e : Ex H H2) (hp : H p = some o) : Dp K (sub H2 H B) v d := by
  refine dp_keep (fun a u ha s => ?_) d v h
  by_cases c : a = p
  · subst c
    have : u = o := by
      have z := sub_le a u ha
      rw [e a o hp] at z
      exact (Option.some.inj z).symm
    subst this
    exact absurd s n
  · by_cases z : (H a).isSome = true ∧ B a = none
    · rw [sub_no ⟨z.1, by rw [upd_ne c]; exact z.2⟩] at ha
      cases ha
    · rw [sub_yes z]
      exact sub_le a u ha
end
section
variable {K : PySem.W.Frag} {σ : L2.St} {B H : Hp} {te tv tl : TE} {d D0 : PyData} {D : Ends} {u : TS} {i : Nat} {p C dx : Addr} {fs : List (Str × V)} {f : Str} {v : V}
/-- o.f -/
theorem ed_fld (hi : σ[i]? = some (some (V.ref p))) (hp : B p = some (.ins C dx fs)) (c : Cls K C) (n : NoAttr K C f) (l : fs.lookup f = some v) (h : Dp K B v d) : EvD K (tFld K (tVar i) f) σ B d := fun H1 e Q q =>
  ⟨.ref p, hi, p, C, dx, fs, v, rfl, e p _ hp, c, n, l, q v H1 (Ex.refl H1) (dp_up h (le_sub e (Ex.refl H1)))⟩
/-- o.f = e -/
theorem g_fld (h : EvD K tv σ B d) (b : Ex B H) (hi : σ[i]? = some (some (V.ref p))) (hp : H p = some (.ins C dx fs)) (c : Cls K C) (n : NoAttr K C f) (few : fs.length < 1000)
    (q : ∀ v H2, Ex H H2 → Dp K (sub H2 H B) v d → u D σ (upd H2 p (.ins C dx (putF f v fs)))) : tSeq (sFld K (tVar i) tv f) u D σ H := h H b _ fun v H2 e hv => ⟨.ref p, hi, p, C, dx, fs, rfl, e p _ hp, c, n, few, q v H2 e hv⟩
theorem g_fld1 (h : EvD K tv σ B d) (b : Ex B H) (hi : σ[i]? = some (some (V.ref p))) (hp : H p = some (.ins C dx fs)) (c : Cls K C) (n : NoAttr K C f) (few : fs.length < 1000)
    (q : ∀ v H2, Ex H H2 → Dp K (sub H2 H B) v d → D.nx σ (upd H2 p (.ins C dx (putF f v fs)))) : sFld K (tVar i) tv f D σ H := h H b _ fun v H2 e hv => ⟨.ref p, hi, p, C, dx, fs, rfl, e p _ hp, c, n, few, q v H2 e hv⟩
theorem putF_le (f : Str) (v : V) : ∀ fs : List (Str × V), (putF f v fs).length ≤ fs.length + 1
  | [] => Nat.le_refl _
  | (g, w) :: r => by
    unfold putF
    split
    · exact Nat.le_succ _
    · exact Nat.succ_le_succ (putF_le f v r)
/-- without p -/
def del (B : Hp) (p : Addr) : Hp := fun a => if a = p then none else B a
theorem del_at {B : Hp} {p : Addr} : del B p p = none := if_pos rfl
theorem del_ne {B : Hp} {p a : Addr} (h : a ≠ p) : del B p a = B a := if_neg h
theorem del_le {B : Hp} {p : Addr} : Ex (del B p) B := fun a o h => by
  unfold del at h
  split at h
  · cases h
  · exact h
theorem del_keep {B : Hp} {p : Addr} {C dx : Addr} {fs : List (Str × V)} (hp : B p = some (.ins C dx fs)) : ∀ a o, B a = some o → seqO o → del B p a = some o := fun a o h s => by
  by_cases c : a = p
  · subst c
    rw [hp] at h
    cases h
    cases s
  · rw [del_ne c]
    exact h
theorem le_del {A B : Hp} {p : Addr} (e : Ex A B) (n : A p = none) : Ex A (del B p) := fun a o h => by
  rw [del_ne fun z => by rw [z, n] at h; cases h]
  exact e a o h
/-- a base between -/
theorem At.mid {Hk B0 H0 B B' H H2 : Hp} (a : At Hk B0 H0 B H) (e : Ex H H2) (x : Ex B B') (y : Ex B' (sub H2 H B)) : At Hk B0 H0 B' H2 := (a.next e).less y (a.wk.bb.trans x)
/-! ### dicts by texts -/
def TdR (K : PySem.W.Frag) (B : Hp) (kvs : List (L2.Key × V)) (F : Str → Option PyData) : Prop := ∀ x, match F x with
  | some d => ∃ v, valV kvs (Sum.inr x) = some v ∧ Dp K B v d
  | none => valV kvs (Sum.inr x) = none
theorem TdR.up {B2 : Hp} {kvs : List (L2.Key × V)} {F : Str → Option PyData} (h : TdR K B kvs F) (e : Ex B B2) : TdR K B2 kvs F := fun x => by
  have z := h x
  cases q : F x with
  | none => rw [q] at z; exact z
  | some d =>
    rw [q] at z
    obtain ⟨v, h1, h2⟩ := z
    exact ⟨v, h1, dp_up h2 e⟩
def setF (F : Str → Option PyData) (x : Str) (d : PyData) : Str → Option PyData := fun y => if y = x then some d else F y
theorem TdR.put {kvs : List (L2.Key × V)} {F : Str → Option PyData} (h : TdR K B kvs F) (x : Str) {v : V} {d : PyData} (hv : Dp K B v d) : TdR K B (putK kvs (Sum.inr x) v) (setF F x d) := fun y => by
  unfold setF
  rw [valV_put]
  by_cases c : y = x
  · rw [if_pos c, if_pos (by rw [c])]
    exact ⟨v, rfl, hv⟩
  · rw [if_neg c, if_neg fun z => c (Sum.inr.inj z)]
    exact h y
theorem TdR.at {kvs : List (L2.Key × V)} {F : Str → Option PyData} (h : TdR K B kvs F) {x : Str} {d : PyData} (e : F x = some d) : ∃ v, valV kvs (Sum.inr x) = some v ∧ Dp K B v d := by
  have z := h x
  rw [e] at z
  exact z
theorem TdR.keep {B2 : Hp} {kvs : List (L2.Key × V)} {F : Str → Option PyData} (h : TdR K B kvs F) (k : ∀ a o, B a = some o → seqO o → B2 a = some o) : TdR K B2 kvs F := fun x => by
  have z := h x
  cases q : F x with
  | none => rw [q] at z; exact z
  | some d =>
    rw [q] at z
    obtain ⟨v, h1, h2⟩ := z
    exact ⟨v, h1, dp_keep k _ _ h2⟩
/-- a dict of one's own that may change: at most n keys -/
def MuD (K : PySem.W.Frag) (B H : Hp) (p : Addr) (n : Nat) (F : Str → Option PyData) : Prop := ∃ kvs, H p = some (.dK kvs) ∧ B p = none ∧ kvs.length ≤ n ∧ TdR K B kvs F
/-- within a dict comprehension: the dict at D, what is known in a base without it -/
def CmD (K : PySem.W.Frag) (H1 B B2 H2 : Hp) (D : Addr) (n : Nat) (F : Str → Option PyData) (H : Hp) : Prop := ∃ kvs Bi, Ex B2 Bi ∧ Ex Bi H ∧ Ex Bi (sub H H1 B) ∧ Bi D = none ∧ Ex H2 H ∧ H D = some (.dK kvs) ∧ kvs.length ≤ n ∧ TdR K Bi kvs F
def mapF (g : Str → PyData) (xs : List Str) : Str → Option PyData := fun x => if x ∈ xs then some (g x) else none
theorem mapF_snoc {g : Str → PyData} {xs : List Str} {i : Nat} {x : Str} (h : xs[i]? = some x) : setF (mapF g (xs.take i)) x (g x) = mapF g (xs.take (i + 1)) := by
  funext y
  unfold setF mapF
  rw [List.take_succ, h]
  show _ = if y ∈ xs.take i ++ [x] then _ else _
  by_cases c : y = x
  · subst c
    rw [if_pos rfl, if_pos (List.mem_append_right _ (List.mem_singleton.mpr rfl))]
  · by_cases z : y ∈ xs.take i
    · rw [if_neg c, if_pos z, if_pos (List.mem_append_left _ z)]
    · rw [if_neg c, if_neg z, if_neg fun w => (List.mem_append.mp w).elim z fun w => c (List.mem_singleton.mp w)]
/-- {x: e for x in seq}, seq of texts -/
theorem dc_new {xs : List Str} (g : Str → PyData) {j : Nat} {vs : List Nat} (hl : EvD K tl σ B D0) (sq : Sq D0 (xs.map .str)) (few : xs.length < 1000) (lj : j < σ.length) (hw : ∀ v, wipe ((wipe σ vs).set j (some v)) vs = wipe σ vs)
    (he : ∀ x ∈ xs, ∀ B1, Ex B B1 → EvD K tv ((wipe σ vs).set j (some (.str x))) B1 (g x)) {H1 : Hp} (b : Ex B H1) {Q : VK}
    (q : ∀ p H2 B', H1 p = none → Ex H1 H2 → Ex B B' → Ex B' H2 → Ex B' (sub H2 H1 B) → MuD K B' H2 p xs.length (mapF g xs) → Q (.ref p) H2) : tDc (iSq K tl) (gName j) tYes (tVar j) tv vs σ H1 Q := by
  refine hl H1 b _ fun v H2 e2 hv => ?_
  obtain ⟨a, ys, rfl, hs, hx⟩ := sq_split hv sq
  have n := DpAll.len hx
  rw [List.length_map] at n
  have main : ∀ J : It, ((J = Itl K a ∧ ∀ H', Ex (sub H2 H1 B) H' → SqL K H' a ys) ∨ (J = Itt K a ∧ ∀ H', Ex (sub H2 H1 B) H' → SqT K H' a ys)) → ∀ D, H2 D = none → ∃ W : Nat → Nat → Hp → Prop, (∃ m, W 0 m (upd H2 D (.dK []))) ∧ ∀ i m H, W i m H →
      (J.stop i H ∧ Q (.ref D) H) ∨ (J.go i H ∧ ∃ Nx : Hp → Prop, (∀ H', Nx H' → ∃ m', m' < m ∧ W (i + 1) m' H') ∧ ∀ x H', J.yld i H x H' → gName j x (wipe σ vs) H' fun σ2 H2 => wipe σ2 vs = wipe σ vs ∧ tYes σ2 H2 fun b H3 =>
        if b = true then tVar j σ2 H3 fun y H4 => tv σ2 H4 fun z H5 => ∃ kvs k, y = kV k ∧ H5 D = some (.dK kvs) ∧ kvs.length < sizeLine ∧ Nx (upd H5 D (.dK (putK kvs k z))) else Nx H3) := by
    intro J hJ D hD
    have h1D : H1 D = none := fresh_back e2 hD
    have dB : sub H2 H1 B D = none := by
      unfold sub
      split
      · rfl
      · exact hD
    have e3 : Ex H2 (upd H2 D (.dK [])) := Ex.new hD
    refine ⟨fun i m H => m = ys.length - i ∧ i ≤ ys.length ∧ CmD K H1 B (sub H2 H1 B) H2 D i (mapF g (xs.take i)) H, ⟨ys.length, by simp, Nat.zero_le _, [], sub H2 H1 B, Ex.refl _, sub_le.trans e3, sub_mono e3, dB, e3, upd_same, Nat.le_refl _, fun x => ?_⟩, ?_⟩
    · unfold mapF
      rw [List.take_zero, if_neg (List.not_mem_nil)]
      rfl
    · rintro i m H ⟨rfl, hi, c⟩
      obtain ⟨kvs, Bi, c1, c2, c3, c4, c5, c6, c7, c8⟩ := c
      by_cases lt : i < ys.length
      · refine .inr ⟨?_, fun H' => CmD K H1 B (sub H2 H1 B) H2 D (i + 1) (mapF g (xs.take (i + 1))) H', fun H' p' => ⟨ys.length - (i + 1), by omega, rfl, lt, p'⟩, fun x H' y => ?_⟩
        · rcases hJ with ⟨rfl, hJ⟩ | ⟨rfl, hJ⟩
          · exact ⟨ys, ys[i], hJ H (c1.trans c2), by simp [lt]⟩
          · exact ⟨ys, ys[i], hJ H (c1.trans c2), by simp [lt]⟩
        · obtain ⟨rfl, hxi⟩ : H' = H ∧ ys[i]? = some x := by
            rcases hJ with ⟨rfl, hJ⟩ | ⟨rfl, hJ⟩
            · obtain ⟨e, y⟩ := y
              exact ⟨e, y ys (hJ H (c1.trans c2))⟩
            · obtain ⟨e, y⟩ := y
              exact ⟨e, y ys (hJ H (c1.trans c2))⟩
          obtain ⟨d, hd, hxd⟩ := DpAll.get' hx hxi
          rw [List.getElem?_map] at hd
          obtain ⟨t, ht, rfl⟩ := Option.map_eq_some_iff.mp hd
          obtain rfl := p_str hxd
          have mt : t ∈ xs := List.mem_of_getElem? ht
          refine ⟨hw _, yes_go ⟨_, by rw [List.getElem?_set_self (by rw [wipe_length]; exact lj)], ?_⟩⟩
          have bBi : Ex B Bi := (le_sub b e2).trans c1
          refine he t mt Bi bBi H' c2 _ fun z H5 e5 hz => ?_
          have e05 := c5.trans e5
          refine ⟨kvs, Sum.inr t, rfl, e5 D _ c6, sz_lt (by omega), putK kvs (Sum.inr t) z, sub H5 H' Bi, c1.trans (le_sub c2 e5), Ex.mut sub_le (sub_no ⟨by rw [c6]; rfl, c4⟩), fun a o ha => ?_, sub_no ⟨by rw [c6]; rfl, c4⟩, Ex.mut e05 hD, upd_same, ?_, ?_⟩
          · have hne : a ≠ D := fun z => by rw [z, sub_no ⟨by rw [c6]; rfl, c4⟩] at ha; cases ha
            by_cases cc : (H1 a).isSome = true ∧ B a = none
            · exfalso
              have bn : Bi a = none := by
                cases q : Bi a with
                | none => rfl
                | some w =>
                  have z := c3 a w q
                  rw [sub_no cc] at z
                  cases z
              rw [sub_no ⟨isSome_up (e2.trans c5) cc.1, bn⟩] at ha
              cases ha
            · rw [sub_yes cc, upd_ne hne]
              exact sub_le a o ha
          · have := length_putK kvs (Sum.inr t : L2.Key) z
            omega
          · rw [← mapF_snoc ht]
            exact (c8.up (le_sub c2 e5)).put t hz
      · have e : i = ys.length := by omega
        subst e
        refine .inl ⟨?_, ?_⟩
        · rcases hJ with ⟨rfl, hJ⟩ | ⟨rfl, hJ⟩
          · exact ⟨ys, hJ H (c1.trans c2), Nat.le_refl _⟩
          · exact ⟨ys, hJ H (c1.trans c2), Nat.le_refl _⟩
        · rw [n, List.take_length] at c8
          rw [n] at c7
          exact q D H Bi h1D (e2.trans c5) ((le_sub b e2).trans c1) c2 c3 ⟨kvs, c6, c4, c7, c8⟩
  refine ⟨a, rfl, ?_⟩
  rcases hs with hs | hs
  · exact .inl ⟨ys, ex_l sub_le hs, main _ (.inl ⟨rfl, fun H' e => ex_l e hs⟩)⟩
  · exact .inr ⟨ys, ex_t sub_le hs, main _ (.inr ⟨rfl, fun H' e => ex_t e hs⟩)⟩
/-- o.f = {x: e for x in seq} -/
theorem s_fldDc {xs : List Str} (g : Str → PyData) {j l : Nat} {vs : List Nat} (b : Ex B H) (hl : EvD K tl σ B D0) (sq : Sq D0 (xs.map .str)) (few : xs.length < 1000) (lj : j < σ.length) (hw : ∀ v, wipe ((wipe σ vs).set j (some v)) vs = wipe σ vs)
    (he : ∀ x ∈ xs, ∀ B1, Ex B B1 → EvD K tv ((wipe σ vs).set j (some (.str x))) B1 (g x)) (hi : σ[l]? = some (some (V.ref p))) (hp : H p = some (.ins C dx fs)) (c : Cls K C) (n : NoAttr K C f) (fewf : fs.length < 1000)
    (q : ∀ t H2 B', H t = none → Ex H H2 → Ex B B' → Ex B' H2 → Ex B' (sub H2 H B) → MuD K B' H2 t xs.length (mapF g xs) → u D σ (upd H2 p (.ins C dx (putF f (.ref t) fs)))) : tSeq (sFld K (tVar l) (tDc (iSq K tl) (gName j) tYes (tVar j) tv vs) f) u D σ H :=
  dc_new (Q := fun y H1 => tVar l σ H1 fun x H2 => ∃ a C dx fs, x = .ref a ∧ H2 a = some (.ins C dx fs) ∧ Cls K C ∧ NoAttr K C f ∧ fs.length < 1000 ∧ u D σ (upd H2 a (.ins C dx (putF f y fs)))) g hl sq few lj hw he b
    fun t H2 B' ht e bb bh bs m => ⟨.ref p, hi, p, C, dx, fs, rfl, e p _ hp, c, n, fewf, q t H2 B' ht e bb bh bs m⟩
end
end ZE
namespace ZE
open PySem PySem.Spec PyProof.Rows L2 Evl ZS StX
/-- a dict that serves as a set of texts -/
def Rs (H : Hp) (p : Addr) (S : List Str) (n : Nat) : Prop := ∃ kvs, H p = some (.dK kvs) ∧ kvs.length ≤ n ∧ ∀ x, (valV kvs (Sum.inr x)).isSome = decide (x ∈ S)
section
variable {K : PySem.W.Frag} {σ : L2.St} {B H : Hp} {i j l : Nat} {x : Str} {p : Addr} {S : List Str} {n : Nat}
theorem Rs.up {H2 : Hp} (h : Rs H p S n) (e : Ex H H2) : Rs H2 p S n := by
  obtain ⟨kvs, hp, r⟩ := h
  exact ⟨kvs, e p _ hp, r⟩
theorem Rs.some (h : Rs H p S n) : (H p).isSome = true := by
  obtain ⟨kvs, hp, r⟩ := h
  rw [hp]
  rfl
theorem et_reached (hi : σ[i]? = some (some (V.str x))) (hl : σ[l]? = some (some (V.ref p))) (h : Rs B p S n) : EvT (tB (tDIn (tVar i) (tVar l))) σ B (decide (x ∈ S)) := fun H1 e Q q => by
  obtain ⟨kvs, hp, _, hr⟩ := h
  exact ⟨.str x, hi, .ref p, hl, p, _, rfl, DGet.k (k := Sum.inr x) (e p _ hp), _, rfl, by rw [hr x]; exact q _ (Ex.refl H1)⟩
theorem s_reached {D : Ends} (hi : σ[i]? = some (some (V.str x))) (hl : σ[l]? = some (some (V.ref p))) (h : Rs H p S n) (few : n < 100000)
    (q : ∀ H2, (∀ c o, H c = some o → c ≠ p → H2 c = some o) → Rs H2 p (S ++ [x]) (n + 1) → D.nx σ H2) : sDPut (tVar l) (tVar i) (tC (.bl true)) D σ H := by
  obtain ⟨kvs, hp, hn, hr⟩ := h
  refine ⟨.ref p, hl, _, hi, p, _, rfl, DPut.k (k := Sum.inr x) hp (sz_lt (by omega)), q _ (fun c o hc ne => by rw [upd_ne ne]; exact hc) ⟨_, upd_same, ?_, fun y => ?_⟩⟩
  · have := length_putK kvs (Sum.inr x : L2.Key) (V.bl true)
    omega
  · rw [valV_put]
    by_cases c : y = x
    · subst c
      rw [if_pos rfl, decide_eq_true (List.mem_append_right _ (List.mem_singleton.mpr rfl))]
      rfl
    · rw [if_neg fun z => c (Sum.inr.inj z), hr y]
      refine decide_eq_decide.mpr ⟨fun z => List.mem_append_left _ z, fun z => (List.mem_append.mp z).elim id fun w => absurd (List.mem_singleton.mp w) c⟩
end
end ZE

set_option Elab.async false
set_option linter.all false
set_option maxRecDepth 100000
/-! The urn: a list of three numbers that draws change. -/
namespace ZE
open PySem PySem.Spec PyProof.Rows L2 Evl ZS StX
/-- 0 ≤ x, 0 ≤ y < 2^62, 0 ≤ z ≤ n -/
def Urn (H : Hp) (u : Addr) (n : Nat) : Prop := ∃ x y z : Int, H u = some (.lst [.int x, .int y, .int z]) ∧ 0 ≤ x ∧ 0 ≤ y ∧ y < 2 ^ 62 ∧ 0 ≤ z ∧ z ≤ n
theorem Urn.some {H : Hp} {u : Addr} {n : Nat} (h : Urn H u n) : (H u).isSome = true := by
  obtain ⟨x, y, z, h, _⟩ := h
  rw [h]
  rfl
theorem Urn.up {H H2 : Hp} {u : Addr} {n : Nat} (h : Urn H u n) (e : Ex H H2) : Urn H2 u n := by
  obtain ⟨x, y, z, h, r⟩ := h
  exact ⟨x, y, z, e u _ h, r⟩
theorem Urn.le {H : Hp} {u : Addr} {n m : Nat} (h : Urn H u n) (l : n ≤ m) : Urn H u m := by
  obtain ⟨x, y, z, h, h1, h2, h3, h4, h5⟩ := h
  exact ⟨x, y, z, h, h1, h2, h3, h4, by omega⟩
/-- a def whose first argument is the urn: it draws at most c times and returns one of R -/
def spU (K : PySem.W.Frag) (Pm : List PyData → (PyData → Prop) → Nat → Prop) : Sp := fun vs H Q _ => ∃ B u ws ds R c n, vs = V.ref u :: ws ∧ Ex B H ∧ B u = none ∧ DpAll K B ws ds ∧ Urn H u n ∧ n + c ≤ 100000 ∧ Pm ds R c ∧ ∀ d v H2, R d → Ex (del H u) H2 → Dp K (sub H2 H B) v d → Urn H2 u (n + c) → Q v H2
section
variable {K : PySem.W.Frag} {σ : L2.St} {B H : Hp} {te ta tb : TE} {tas : TA} {d d1 d2 : PyData} {ds : List PyData} {u : Addr} {i n c : Nat} {R : PyData → Prop} {E : XK} {D : Ends}
theorem u_call {Pm : List PyData → (PyData → Prop) → Nat → Prop} (hi : σ[i]? = some (some (V.ref u))) (h : EvDA K tas σ B ds) (hp : Pm ds R c) (b : Ex B H) (bu : B u = none) (un : Urn H u n) (few : n + c ≤ 100000) {Q : VK}
    (q : ∀ d v H2, R d → Ex (del H u) H2 → Dp K (sub H2 H B) v d → Urn H2 u (n + c) → Q v H2) : tCall (spU K Pm) [] E (tCons (tVar i) tas) σ H Q :=
  ⟨.ref u, hi, h H b _ fun vs H1 e1 hv => ⟨sub H1 H B, u, vs ++ [], ds, R, c, n, rfl, sub_le, sub_none' e1 un bu, by rw [List.append_nil]; exact hv, un.up e1, few, hp, fun d v H2 hr e2 hd hu => q d v H2 hr (fun a o ha => e2 a o (by
    have ne : a ≠ u := fun z => by rw [z, del_at] at ha; cases ha
    rw [del_ne ne] at ha ⊢
    exact e1 a o ha)) (dp_up hd (later' e1 un)) hu⟩⟩
where
  sub_none' {H1 : Hp} (e1 : Ex H H1) (un : Urn H u n) (bu : B u = none) : sub H1 H B u = none := sub_no ⟨un.some, bu⟩
  later' {H1 H2 : Hp} (e1 : Ex H H1) (un : Urn H u n) : Ex (sub H2 H1 (sub H1 H B)) (sub H2 H B) := later e1
/-- the heap around a draw -/
theorem At.urn {Hk B0 H0 H2 : Hp} (a : At Hk B0 H0 B H) (hk : Hk u = none) (bu : B u = none) (e : Ex (del H u) H2) (s : (H2 u).isSome = true) : At Hk B0 H0 (sub H2 H B) H2 := by
  have up : ∀ {A : Hp}, Ex A H → A u = none → Ex A H2 := fun {A} h n x o hx => e x o (by rw [del_ne fun z => by rw [z, n] at hx; cases hx]; exact h x o hx)
  refine ⟨⟨fun x o hx => ?_, sub_le, fun x n hs => sub_no ⟨a.dm x hs, a.wk.ap x n hs⟩⟩, up a.ex hk, fun x hx => ?_⟩
  · have z := a.wk.bb x o hx
    rw [sub_yes fun w => by rw [z] at w; cases w.2]
    exact up a.b bu x o z
  · by_cases c : x = u
    · rw [c]
      exact s
    · obtain ⟨o, ho⟩ := Option.isSome_iff_exists.mp (a.dm x hx)
      rw [e x o (by rw [del_ne c]; exact ho)]
      rfl
theorem urn_base {H2 : Hp} (b : Ex B H) (bu : B u = none) (e : Ex (del H u) H2) : Ex B (sub H2 H B) := fun x o hx => by
  rw [sub_yes fun w => by rw [hx] at w; cases w.2]
  exact e x o (by rw [del_ne fun z => by rw [z, bu] at hx; cases hx]; exact b x o hx)
theorem urn_out {H2 : Hp} (un : Urn H u n) (bu : B u = none) : sub H2 H B u = none := sub_no ⟨un.some, bu⟩
theorem del_ex {H H2 : Hp} (e : Ex H H2) : Ex (del H u) (del H2 u) := fun x o h => by
  have ne : x ≠ u := fun z => by rw [z, del_at] at h; cases h
  rw [del_ne ne] at h ⊢
  exact e x o h
theorem del_trans {H H1 H2 : Hp} (e : Ex (del H u) H1) (e2 : Ex (del H1 u) H2) : Ex (del H u) H2 := fun x o h => by
  have ne : x ≠ u := fun z => by rw [z, del_at] at h; cases h
  exact e2 x o (by rw [del_ne ne]; exact e x o h)
/-! ### numbers -/
theorem rv_I {C : Int → Int → Prop} {g : Int → Int → V} {i j : Int} (hc : C i j) (hg : ∀ H, Dp K H (g i j) d) : RvD K (rI C g) (.int i) (.int j) d := rv_sc hg fun H x y hx hy Q q => by
  cases hx
  cases hy
  exact ⟨i, j, rfl, rfl, hc, q⟩
theorem rc_int {i : Int} : RcD K (fun xs H Q => (∃ i, xs = [.int i] ∧ Q (.int i) H) ∨ ∃ k, xs = [.bl k] ∧ Q (.int (if k then 1 else 0)) H) [.int i] (.int i) := rc_sc (fun _ => .int _) fun H vs hv Q q => by
  obtain ⟨v, rfl, h⟩ := one hv
  cases h
  exact .inl ⟨i, rfl, q⟩
theorem rc_intB {b : Bool} : RcD K (fun xs H Q => (∃ i, xs = [.int i] ∧ Q (.int i) H) ∨ ∃ k, xs = [.bl k] ∧ Q (.int (if k then 1 else 0)) H) [.bool b] (.int (if b then 1 else 0)) := rc_sc (fun _ => .int _) fun H vs hv Q q => by
  obtain ⟨v, rfl, h⟩ := one hv
  cases h
  exact .inr ⟨b, rfl, q⟩
theorem rc_abs {i : Int} : RcD K (fun xs H Q => ∃ i, xs = [.int i] ∧ Q (.int (if i < 0 then -i else i)) H) [.int i] (.int (if i < 0 then -i else i)) := rc_sc (fun _ => .int _) fun H vs hv Q q => by
  obtain ⟨v, rfl, h⟩ := one hv
  cases h
  exact ⟨i, rfl, q⟩
theorem rc_str {x : Str} : RcD K (fun xs H Q => ∃ a, xs = [.str a] ∧ Q (.str a) H) [.str x] (.str x) := rc_sc (fun _ => .str _) fun H vs hv Q q => by
  obtain ⟨v, rfl, h⟩ := one hv
  cases h
  exact ⟨x, rfl, q⟩
/-- u[k] = e, a number at the place k of a list of one's own -/
theorem g_set {t : TS} {p : Addr} {xs : List V} {k : Int} {j : Nat} {v : Int} (h : EvD K te σ B (.int v)) (b : Ex B H) (hi : σ[i]? = some (some (V.ref p))) (hk : EvD K ta σ B (.int k)) (hp : H p = some (.lst xs)) (hj : ixN xs.length k = some j)
    (q : ∀ H2, Ex H H2 → t D σ (upd H2 p (.lst (xs.set j (.int v))))) : tSeq (tAsg te (gSub (tVar i) ta rSetL)) t D σ H := h H b _ fun x H1 e1 hx => by
  obtain rfl := p_int hx
  exact ⟨.ref p, hi, hk H1 (b.trans e1) _ fun y H2 e2 hy => by
    obtain rfl := p_int hy
    exact ⟨p, xs, k, j, rfl, rfl, e2 p _ (e1 p _ hp), hj, q H2 (e1.trans e2)⟩⟩
/-! loops by numbers -/
theorem for_rng {g : TG} {tb : TS} {N : Nat} (Pv : Nat → L2.St → Hp → Prop) (h : EvDA K tas σ B [.int (N : Int)]) (b : Ex B H) (few : N < 100000) (h0 : ∀ H2, Ex H H2 → Pv 0 σ H2) (hs : ∀ i σ3 H3, i < N → Pv i σ3 H3 → g (.int (i : Int)) σ3 H3 fun σ4 H4 => tb { D with nx := Pv (i + 1), ct := Pv (i + 1), bk := D.nx } σ4 H4)
    (hd : ∀ σ3 H3, Pv N σ3 H3 → D.nx σ3 H3) : tFor (iRng1 tas) g tb D σ H := h H b _ fun vs H2 e hv => by
  obtain ⟨v, rfl, h1⟩ := one hv
  obtain rfl := p_int h1
  refine ⟨(N : Int), rfl, by omega, by omega, ?_⟩
  refine for_range (lo := 0) (n := (N : Int).toNat) Pv (h0 H2 e) (fun i σ3 H3 hi p => ?_) (fun σ3 H3 p => hd σ3 H3 (by rw [Int.toNat_natCast] at p; exact p))
  rw [Int.toNat_natCast] at hi
  rw [Int.zero_add]
  exact hs i σ3 H3 hi p
/-- a number as an index -/
theorem atI_some {α : Type} {xs : List α} {r : Nat} (h : r < xs.length) : atI xs (r : Int) = some xs[r] := atI_nat (List.getElem?_eq_getElem h)
/-- l.append(e), l of one's own -/
theorem mu_append {l : Addr} {es : List PyData} {v : V} (m : Mu K B H l es) (few : es.length < 100000) (hv : Dp K B v d) {Q : VK} (q : ∀ ws, Mu K B (upd H l (.lst ws)) l (es ++ [d]) → Q .non (upd H l (.lst ws))) : rAppend (.ref l) [v] H Q := by
  obtain ⟨vs, h1, h2, h3⟩ := m
  have n := DpAll.len h3
  exact ⟨l, vs, v, rfl, rfl, h1, sz_lt (by omega), q _ ⟨_, upd_same, h2, DpAll.app h3 (.cons hv .nil)⟩⟩
theorem mu_ty {l : Addr} {es : List PyData} (m : Mu K B H l es) : tyV K "list" (.ref l) H := by
  obtain ⟨vs, h1, _⟩ := m
  exact .inl ⟨rfl, vs, sq_of h1⟩
theorem DpAll.erase : ∀ {vs : List V} {ds : List PyData} (k : Nat), DpAll K B vs ds → DpAll K B (vs.eraseIdx k) (ds.eraseIdx k)
  | _, _, _, .nil => .nil
  | _, _, 0, .cons _ t => t
  | _, _, k + 1, .cons h t => .cons h (DpAll.erase k t)
/-- l.pop(r) -/
theorem mu_pop {l : Addr} {es : List PyData} {r : Nat} (m : Mu K B H l es) (hr : r < es.length) (few : es.length < 100000) {Q : VK} (q : ∀ v ws, Dp K B v es[r] → Mu K B (upd H l (.lst ws)) l (es.eraseIdx r) → Q v (upd H l (.lst ws))) : rPopAt (.ref l) [.int (r : Int)] H Q := by
  obtain ⟨vs, h1, h2, h3⟩ := m
  have n := DpAll.len h3
  obtain ⟨v, hv, hd⟩ := DpAll.get h3 (List.getElem?_eq_getElem hr)
  refine ⟨l, vs, r, r, v, rfl, rfl, h1, by omega, by omega, ?_, hv, q v _ hd ⟨_, upd_same, h2, DpAll.erase r h3⟩⟩
  have : ixN vs.length (r : Int) = some r := by
    unfold ixN
    rw [if_pos (by omega), if_pos (by omega)]
    simp
  exact (ixN_seq this).1
/-- for a, b in enumerate(list): body -/
theorem for_en {tb : TS} {i1 i2 : Nat} {es : List PyData} (Pv : Hp → Nat → L2.St → Hp → Prop) (h : EvDA K tas σ B [.list es]) (b : Ex B H) (h0 : ∀ H2, Ex H H2 → Pv (sub H2 H B) 0 σ H2) (keep : ∀ B2 i σ3 H3, Pv B2 i σ3 H3 → Ex B2 H3)
    (hs : ∀ B2 i d x σ3 H3 T, es[i]? = some d → Dp K B2 x d → Pv B2 i σ3 H3 → H3 T = none → tb { D with nx := Pv B2 (i + 1), ct := Pv B2 (i + 1), bk := D.nx } ((σ3.set i1 (some (.int (i : Int)))).set i2 (some x)) (upd H3 T (.tup [.int (i : Int), x])))
    (hd : ∀ B2 σ3 H3, Pv B2 es.length σ3 H3 → D.nx σ3 H3) : tFor (iEnum K tas) (gTup K 2 (gCons (gName i1) (gCons (gName i2) gNil))) tb D σ H := h H b _ fun vs H2 e hv => by
  obtain ⟨v, rfl, h1⟩ := one hv
  cases h1 with
  | lst hq ha =>
    rename_i a xs
    have n := DpAll.len ha
    refine ⟨a, xs, rfl, ex_l sub_le hq, ?_⟩
    refine ⟨fun i m σ3 H3 => m = xs.length - i ∧ i ≤ xs.length ∧ Pv (sub H2 H B) i σ3 H3, ⟨xs.length, by simp, Nat.zero_le _, h0 H2 e⟩, ?_⟩
    rintro i m σ3 H3 ⟨rfl, hi, p⟩
    have here := ex_l (keep _ i σ3 H3 p) hq
    by_cases lt : i < xs.length
    · refine .inr ⟨⟨xs, xs[i], here, by simp [lt]⟩, Pv (sub H2 H B) (i + 1), fun σ' H' p' => ⟨xs.length - (i + 1), by omega, rfl, lt, p'⟩, fun x H' y => ?_⟩
      obtain ⟨T, x, rfl, ht, rfl, hx⟩ := y
      obtain ⟨d, hd1, hd2⟩ := DpAll.get' ha (hx xs here)
      exact ⟨T, _, rfl, st_of upd_same, rfl, _, _, rfl, _, _, rfl, rfl, hs _ i d x σ3 H3 T hd1 hd2 p ht⟩
    · have ei : i = xs.length := by omega
      subst ei
      exact .inl ⟨⟨xs, here, Nat.le_refl _⟩, hd _ σ3 H3 (by rw [← n]; exact p)⟩
theorem Mu.move {H2 : Hp} {l : Addr} {es : List PyData} (m : Mu K B H l es) (e : ∀ o, H l = some o → H2 l = some o) : Mu K B H2 l es := by
  obtain ⟨vs, h1, h2, h3⟩ := m
  exact ⟨vs, e _ h1, h2, h3⟩
theorem Mu.isS {l : Addr} {es : List PyData} (m : Mu K B H l es) : (H l).isSome = true := by
  obtain ⟨vs, h1, _⟩ := m
  rw [h1]
  rfl
/-- a list of one's own as data, for a while -/
theorem Mu.hold {Hk B0 H0 : Hp} {l : Addr} {es : List PyData} (m : Mu K B H l es) (a : At Hk B0 H0 B H) (hn : H0 l = none) : ∃ B', Ex B B' ∧ At Hk B0 H0 B' H ∧ Dp K B' (.ref l) (.list es) ∧ ∀ c, c ≠ l → B' c = B c := by
  obtain ⟨vs, h1, h2, h3⟩ := m
  have h := ZE.At.hold a h2 hn h1
  exact ⟨_, h.2, h.1, .lst (sq_of upd_same) (dpa_up h3 h.2), fun c n => upd_ne n⟩
theorem Urn.move {H2 : Hp} {n : Nat} (h : Urn H u n) (e : H2 u = H u) : Urn H2 u n := by
  obtain ⟨x, y, z, h, r⟩ := h
  exact ⟨x, y, z, by rw [e]; exact h, r⟩
theorem erase_perm {α : Type} : ∀ (l : List α) (r : Nat) (h : r < l.length), (l[r] :: l.eraseIdx r).Perm l
  | [], _, h => absurd h (Nat.not_lt_zero _)
  | x :: xs, 0, _ => List.Perm.refl _
  | x :: xs, r + 1, h => (List.Perm.swap x _ _).trans ((erase_perm xs r (Nat.lt_of_succ_lt_succ h)).cons x)
theorem erase_map {α β : Type} (f : α → β) : ∀ (l : List α) (r : Nat), (l.map f).eraseIdx r = (l.eraseIdx r).map f
  | [], _ => rfl
  | x :: xs, 0 => rfl
  | x :: xs, r + 1 => congrArg (f x :: ·) (erase_map f xs r)
/-! slices of lists -/
theorem cut_drop (xs : List V) (k : Nat) : cutV xs (some (k : Int)) none = xs.drop k := by
  unfold cutV
  rw [HT.sIx_nat, HT.sIx_none]
  rw [List.take_of_length_le (by rw [List.length_drop]; omega)]
  by_cases c : k ≤ xs.length
  · rw [Nat.min_eq_left c]
  · rw [Nat.min_eq_right (by omega), List.drop_length, List.drop_eq_nil_of_le (by omega)]
theorem cut_take (xs : List V) (k : Nat) : cutV xs none (some (k : Int)) = xs.take k := by
  unfold cutV
  rw [HT.sIx_nat, HT.sIx_none, List.drop_zero, Nat.sub_zero]
  by_cases c : k ≤ xs.length
  · rw [Nat.min_eq_left c]
  · rw [Nat.min_eq_right (by omega), List.take_length, List.take_of_length_le (by omega)]
theorem cut_mid (xs : List V) (i k : Nat) (h : i ≤ k) : cutV xs (some (i : Int)) (some (k : Int)) = (xs.take k).drop i := by
  unfold cutV
  rw [HT.sIx_nat, HT.sIx_nat, List.drop_take]
  by_cases c : k ≤ xs.length
  · rw [Nat.min_eq_left c, Nat.min_eq_left (by omega)]
  · rw [Nat.min_eq_right (show xs.length ≤ k by omega)]
    by_cases c2 : i ≤ xs.length
    · rw [Nat.min_eq_left c2, List.take_of_length_le (by rw [List.length_drop]; omega), List.take_of_length_le (by rw [List.length_drop]; omega)]
    · rw [Nat.min_eq_right (by omega), List.drop_length, List.drop_eq_nil_of_le (by omega)]
      simp
/-- xs[k:] -/
theorem ed_drop {k : Nat} (h : EvD K te σ B (.list ds)) (hk : EvD K ta σ B (.int (k : Int))) : EvD K (tSl (rSlL K) te (tPart ta) tNoPart) σ B (.list (ds.drop k)) := fun H1 b Q q => h H1 b _ fun v H2 e2 hv => hk H2 (b.trans e2) _ fun x H3 e3 hx => by
  obtain rfl := p_int hx
  cases hv with
  | lst hq ha => exact ⟨k, rfl, _, _, rfl, ex_l (sub_le.trans e3) hq, fun p hp => q _ _ ((e2.trans e3).trans (Ex.new hp)) (.lst (sq_of (new_at2 (e2.trans e3) hp)) (by rw [cut_drop]; exact DpAll.drop k (dpa_up ha (sub_mono (e3.trans (Ex.new hp))))))⟩
/-- xs[:k] -/
theorem ed_take {k : Nat} (h : EvD K te σ B (.list ds)) (hk : EvD K ta σ B (.int (k : Int))) : EvD K (tSl (rSlL K) te tNoPart (tPart ta)) σ B (.list (ds.take k)) := fun H1 b Q q => h H1 b _ fun v H2 e2 hv => hk H2 (b.trans e2) _ fun x H3 e3 hx => by
  obtain rfl := p_int hx
  cases hv with
  | lst hq ha => exact ⟨k, rfl, _, _, rfl, ex_l (sub_le.trans e3) hq, fun p hp => q _ _ ((e2.trans e3).trans (Ex.new hp)) (.lst (sq_of (new_at2 (e2.trans e3) hp)) (by rw [cut_take]; exact DpAll.take k (dpa_up ha (sub_mono (e3.trans (Ex.new hp))))))⟩
/-- xs[i:k] -/
theorem ed_mid {k j : Nat} (hjk : j ≤ k) (h : EvD K te σ B (.list ds)) (hj : EvD K tb σ B (.int (j : Int))) (hk : EvD K ta σ B (.int (k : Int))) : EvD K (tSl (rSlL K) te (tPart tb) (tPart ta)) σ B (.list ((ds.take k).drop j)) := fun H1 b Q q => h H1 b _ fun v H2 e2 hv => hj H2 (b.trans e2) _ fun y H3 e3 hy => by
  obtain rfl := p_int hy
  refine ⟨j, rfl, hk H3 ((b.trans e2).trans e3) _ fun x H4 e4 hx => ?_⟩
  obtain rfl := p_int hx
  cases hv with
  | lst hq ha => exact ⟨k, rfl, _, _, rfl, ex_l (sub_le.trans (e3.trans e4)) hq, fun p hp => q _ _ (((e2.trans e3).trans e4).trans (Ex.new hp)) (.lst (sq_of (new_at2 ((e2.trans e3).trans e4) hp)) (by rw [cut_mid _ _ _ hjk]; exact DpAll.drop j (DpAll.take k (dpa_up ha (sub_mono ((e3.trans e4).trans (Ex.new hp)))))))⟩
theorem int_shaped (i : Int) : SeqAt.shaped (.int i) = true := by
  unfold SeqAt.shaped
  simp [PyData.canLay0, PyData.depth]
theorem bool_shaped (i : Bool) : SeqAt.shaped (.bool i) = true := by
  unfold SeqAt.shaped
  simp [PyData.canLay0, PyData.depth]
theorem eqv_int (i j : Int) : PyData.eqv (.int i) (.int j) = decide (i = j) := by
  rw [show PyData.eqv (.int i) (.int j) = (i == j) by simp [PyData.eqv]]
  by_cases c : i = j
  · simp [c]
  · simp [c]
theorem eqv_bool (i j : Bool) : PyData.eqv (.bool i) (.bool j) = (i == j) := by simp [PyData.eqv]
/-! readings from the left, where a draw stands within -/
theorem l_asg {t : TS} {i : Nat} (h : te σ H fun v H1 => t D (σ.set i (some v)) H1) : tSeq (tAsg te (gName i)) t D σ H := h
theorem l_cb1 {r : List V → Hp → VK → Prop} {Q : VK} (h : te σ H fun v H1 => r [v] H1 Q) : tCB r (tCons te tNil) σ H Q := h
theorem l_lc {G : TG} {tt : TT} {tl : TE} {vs : List Nat} {Q : VK} (h : tl σ H fun x H1 => tLc (iSq K (tC x)) G tt te vs σ H1 Q) : tLc (iSq K tl) G tt te vs σ H Q := h
theorem l_cut {v : V} {i : Nat} {g : Int → Int → V} {k : Int} {Q : VK} (hi : σ[i]? = some (some v)) (h : tb σ H fun y H1 => rI0 g (.int k) y H1 fun x H2 => ∃ j, x = .int j ∧ rSlL K v none (some j) H2 Q) : tSl (rSlL K) (tVar i) tNoPart (tPart (tOp (rI0 g) (tC (.int k)) tb)) σ H Q := ⟨v, hi, h⟩
theorem l_par3 {t : TS} {i j l : Nat} {tc : TE} (h : ta σ H fun x H1 => tb σ H1 fun y H2 => tc σ H2 fun z H3 => ∃ u v w, [x, y, z] = [u, v, w] ∧ t D (((σ.set i (some u)).set j (some v)).set l (some w)) H3) : tSeq (tPar3 i j l (tCons ta (tCons tb (tCons tc tNil)))) t D σ H := h
theorem l_nil {Q : VK} (h : ∀ m, H m = none → Q (.ref m) (upd H m (.lst []))) : tLst tNil σ H Q := ⟨by show 0 ≤ sizeLine; decide, h⟩
theorem ed_tC {v : V} (h : Dp K B v d) : EvD K (tC v) σ B d := fun H1 b Q q => q v H1 (Ex.refl H1) (dp_up h (le_sub b (Ex.refl H1)))
theorem Mu.nb {l : Addr} {es : List PyData} (m : Mu K B H l es) : B l = none := let ⟨_, _, z, _⟩ := m; z
/-- the heap around a draw, the base kept -/
theorem At.urn' {Hk B0 H0 H2 : Hp} (a : At Hk B0 H0 B H) (hk : Hk u = none) (bu : B u = none) (e : Ex (del H u) H2) (s : (H2 u).isSome = true) : At Hk B0 H0 B H2 := (a.urn hk bu e s).less (urn_base a.b bu e) a.wk.bb
theorem keep_del {H2 : Hp} (e : Ex (del H u) H2) {c : Addr} (nc : c ≠ u) : ∀ o, H c = some o → H2 c = some o := fun o ho => e c o (by rw [del_ne nc]; exact ho)
theorem rc_listN {D : PyData} (s : Sq D ds) : RcD K (rList K) [D] (.list ds) := rc_list s
theorem rc_tupleN {D : PyData} (s : Sq D ds) : RcD K (rTuple K) [D] (.tuple ds) := rc_tuple s
theorem l_if {tc : TT} {t1 t2 : TS} (h : tc σ H fun b H1 => if b = true then t1 D σ H1 else t2 D σ H1) : tIfS tc t1 t2 D σ H := h
theorem l_and {t1 t2 : TT} {c : Bool} {Q : Bool → Hp → Prop} (h : EvT t1 σ B c) (b : Ex B H) (q0 : c = false → ∀ H2, Ex H H2 → Q false H2) (q1 : c = true → ∀ H2, Ex H H2 → t2 σ H2 Q) : tAnd t1 t2 σ H Q := h H b _ fun H2 e => by
  cases c with
  | true => exact (if_pos rfl).mpr (q1 rfl H2 e)
  | false => exact (if_neg Bool.false_ne_true).mpr (q0 rfl H2 e)
theorem l_testEq {k : Int} {Q : Bool → Hp → Prop} (h : ta σ H fun x H1 => rEqD K x (.int k) H1 fun y H2 => ∃ b, y = .bl b ∧ Q b H2) : tTest (tOp (rEqD K) ta (tC (.int k))) σ H Q := h
theorem l_append {i : Nat} {l : Addr} {es : List PyData} (hi : σ[i]? = some (some (V.ref l))) (m : Mu K B H l es) (b : Ex B H) (few : es.length < 100000) (h : EvD K te σ B d)
    (q : ∀ H2 ws, Ex H H2 → Mu K (sub H2 H B) (upd H2 l (.lst ws)) l (es ++ [d]) → D.nx σ (upd H2 l (.lst ws))) : tDrop (tBM K "list" rAppend (tVar i) (tCons te tNil)) D σ H :=
  ⟨.ref l, hi, mu_ty m, h H b _ fun v H2 e hv => mu_append (Q := fun _ H3 => D.nx σ H3) (m.next b e) few hv fun ws m2 => q H2 ws e m2⟩
end
end ZE

set_option Elab.async false
set_option linter.all false
set_option maxRecDepth 100000
/-! dict([(text, data), ..]); dicts of one's own that change. -/
namespace ZE
open PySem PySem.Spec PyProof.Rows L2 Evl ZS StX
def rDictP (K : PySem.W.Frag) : List V → Hp → VK → Prop := fun xs H Q => ∃ (a : Addr) (ps : List Addr) (kvs : List (L2.Key × V)), xs = [.ref a] ∧ SqL K H a (ps.map V.ref) ∧ Paired (fun p kv => SqT K H p [kV kv.1, kv.2]) ps kvs ∧ ∀ p, H p = none → Q (.ref p) (upd H p (.dK (mergeK [] kvs)))
theorem xDictP {X : Cx} (K : PySem.W.Frag) (hc : X.calm = true) (hK : X.K = K := by rfl) : CallR X (.type "dict") (rDictP K) := hK ▸ call_dictP hc
section
variable {K : PySem.W.Frag} {σ : L2.St} {B H : Hp} {te : TE} {g : Str → PyData}
theorem rows_of : ∀ {xs : List Str} {vs : List V}, DpAll K H vs (xs.map fun x => .tuple [.str x, g x]) → ∃ (ps : List Addr) (kvs : List (L2.Key × V)), vs = ps.map V.ref ∧ Paired (fun p kv => SqT K H p [kV kv.1, kv.2]) ps kvs ∧ Paired (fun x kv => kv.1 = Sum.inr x ∧ Dp K H kv.2 (g x)) xs kvs
  | [], _, .nil => ⟨[], [], rfl, .nil, .nil⟩
  | x :: xs, _, .cons h t => by
    obtain ⟨ps, kvs, rfl, h1, h2⟩ := rows_of t
    cases h with
    | tup hs ha =>
      rename_i a ws
      cases ha with
      | cons hx ht =>
        cases hx
        cases ht with
        | cons hd hn =>
          cases hn
          exact ⟨a :: ps, (Sum.inr x, _) :: kvs, rfl, .cons hs h1, .cons ⟨rfl, hd⟩ h2⟩
theorem merge_td : ∀ {xs : List Str} {kvs acc : List (L2.Key × V)} {F : Str → Option PyData}, Paired (fun x kv => kv.1 = Sum.inr x ∧ Dp K B kv.2 (g x)) xs kvs → TdR K B acc F → TdR K B (mergeK acc kvs) (fun y => if y ∈ xs then some (g y) else F y)
  | _, _, _, F, .nil, h => h
  | _, _, acc, F, .cons (a := x) (b := kv) (l₁ := xs) (l₂ := kvs) ⟨h1, h2⟩ t, h => by
    have z := merge_td t (h.put x h2)
    have e : mergeK acc (kv :: kvs) = mergeK (putK acc (Sum.inr x) kv.2) kvs := by rw [← h1]; rfl
    rw [e]
    have eqF : (fun y => if y ∈ xs then some (g y) else setF F x (g x) y) = fun y => if y ∈ x :: xs then some (g y) else F y := funext fun y => by
      unfold setF
      by_cases c : y ∈ xs
      · rw [if_pos c, if_pos (List.mem_cons_of_mem _ c)]
      · rw [if_neg c]
        by_cases c2 : y = x
        · subst c2
          rw [if_pos rfl, if_pos (show y ∈ y :: xs from List.Mem.head _)]
        · rw [if_neg c2, if_neg fun m => (List.mem_cons.mp m).elim c2 c]
    rw [eqF] at z
    exact z
theorem paired_len {α β : Type} {R : α → β → Prop} : ∀ {as : List α} {bs : List β}, Paired R as bs → as.length = bs.length
  | _, _, .nil => rfl
  | _, _, .cons _ t => congrArg (· + 1) (paired_len t)
theorem merge_len : ∀ (kvs acc : List (L2.Key × V)), (mergeK acc kvs).length ≤ acc.length + kvs.length
  | [], _ => Nat.le_refl _
  | kv :: kvs, acc => by
    have z := merge_len kvs (putK acc kv.1 kv.2)
    have z2 := length_putK acc kv.1 kv.2
    show (mergeK (putK acc kv.1 kv.2) kvs).length ≤ _
    rw [List.length_cons]
    omega
/-- dict([(x, e) ..]) -/
theorem d_new {xs : List Str} (h : EvD K te σ B (.list (xs.map fun x => .tuple [.str x, g x]))) (b : Ex B H) {Q : VK}
    (q : ∀ p H2 B', H p = none → Ex H H2 → Ex B B' → Ex B' H2 → Ex B' (sub H2 H B) → MuD K B' H2 p xs.length (mapF g xs) → Q (.ref p) H2) : tCB (rDictP K) (tCons te tNil) σ H Q := h H b _ fun v H2 e2 hv => by
  cases hv with
  | lst hs ha =>
    obtain ⟨ps, kvs, rfl, h1, h2⟩ := rows_of ha
    refine ⟨_, ps, kvs, rfl, ex_l sub_le hs, Paired.mapP h1 fun _ _ z => ex_t sub_le z, fun p hp => ?_⟩
    have n : sub H2 H B p = none := by
      unfold sub
      split
      · rfl
      · exact hp
    refine q p _ (sub H2 H B) (fresh_back e2 hp) (e2.trans (Ex.new hp)) (le_sub b e2) (sub_le.trans (Ex.new hp)) (sub_mono (Ex.new hp)) ⟨_, upd_same, n, ?_, ?_⟩
    · have z := merge_len kvs []
      rw [← paired_len h2] at z
      simpa using z
    · have z := merge_td (acc := []) (F := fun _ => none) h2 (fun _ => rfl)
      exact z
/-- d[x] -/
theorem ed_dget {i j : Nat} {t : Addr} {x : Str} {kvs : List (L2.Key × V)} {F : Str → Option PyData} {d : PyData} (hi : σ[i]? = some (some (V.ref t))) (hj : σ[j]? = some (some (V.str x))) (ht : B t = some (.dK kvs)) (td : TdR K B kvs F) (hx : F x = some d) : EvD K (tDGet (tVar i) (tVar j)) σ B d := fun H1 b Q q => by
  obtain ⟨v, hv, dv⟩ := td.at hx
  exact ⟨.ref t, hi, .str x, hj, t, v, rfl, by rw [← hv]; exact DGet.k (k := Sum.inr x) (b t _ ht), q v H1 (Ex.refl H1) (dp_up dv (le_sub b (Ex.refl H1)))⟩
theorem MuD.next {H2 : Hp} {p : Addr} {n : Nat} {F : Str → Option PyData} (m : MuD K B H p n F) (b : Ex B H) (e : Ex H H2) : MuD K (sub H2 H B) H2 p n F := by
  obtain ⟨kvs, h1, h2, h3, h4⟩ := m
  exact ⟨kvs, e p _ h1, sub_no ⟨by rw [h1]; rfl, h2⟩, h3, h4.up (le_sub b e)⟩
theorem MuD.isS {p : Addr} {n : Nat} {F : Str → Option PyData} (m : MuD K B H p n F) : (H p).isSome = true := by
  obtain ⟨kvs, h1, _⟩ := m
  rw [h1]
  rfl
theorem MuD.nb {p : Addr} {n : Nat} {F : Str → Option PyData} (m : MuD K B H p n F) : B p = none := let ⟨_, _, z, _⟩ := m; z
theorem MuD.grow {H2 : Hp} {p : Addr} {n : Nat} {F : Str → Option PyData} (m : MuD K B H p n F) (e : Ex H H2) : MuD K B H2 p n F := by
  obtain ⟨kvs, h1, h2, h3, h4⟩ := m
  exact ⟨kvs, e p _ h1, h2, h3, h4⟩
/-- as data, for a while -/
theorem MuD.hold {Hk B0 H0 : Hp} {p : Addr} {n : Nat} {F : Str → Option PyData} (m : MuD K B H p n F) (a : At Hk B0 H0 B H) (hn : H0 p = none) : ∃ kvs, H p = some (.dK kvs) ∧ Ex B (upd B p (.dK kvs)) ∧ At Hk B0 H0 (upd B p (.dK kvs)) H ∧ TdR K (upd B p (.dK kvs)) kvs F := by
  obtain ⟨kvs, h1, h2, h3, h4⟩ := m
  have h := ZE.At.hold a h2 hn h1
  exact ⟨kvs, h1, h.2, h.1, h4.up h.2⟩
/-- d[x] = e -/
theorem s_tdput {D : Ends} {i j : Nat} {t : Addr} {x : Str} {kvs : List (L2.Key × V)} {F : Str → Option PyData} {d : PyData} {n : Nat} (hi : σ[i]? = some (some (V.ref t))) (hj : σ[j]? = some (some (V.str x))) (m : MuD K B H t n F) (hk : H t = some (.dK kvs)) (b : Ex B H) (few : n < 100000)
    (h : EvD K te σ (upd B t (.dK kvs)) d) (q : ∀ H2 kvs2, Ex H H2 → MuD K (sub H2 H B) (upd H2 t (.dK kvs2)) t (n + 1) (setF F x d) → D.nx σ (upd H2 t (.dK kvs2))) : sDPut (tVar i) (tVar j) te D σ H := by
  have m' := m
  obtain ⟨kvs', h1, h2, h3, h4⟩ := m
  obtain rfl : kvs' = kvs := by
    rw [hk] at h1
    cases h1
    rfl
  have bb : Ex (upd B t (.dK kvs')) H := fun a o e => by
    by_cases c : a = t
    · rw [c, upd_same] at e
      rw [c, hk]
      exact e
    · rw [upd_ne c] at e
      exact b a o e
  refine h H bb _ fun v H2 e2 hv => ⟨.ref t, hi, .str x, hj, t, _, rfl, DPut.k (k := Sum.inr x) (e2 t _ hk) (sz_lt (by omega)), ?_⟩
  have hv' := dp_less hv (fun z => z) e2 hk
  refine q H2 _ e2 ⟨_, upd_same, sub_no ⟨by rw [hk]; rfl, h2⟩, ?_, (h4.up (le_sub b e2)).put x hv'⟩
  have := length_putK kvs' (Sum.inr x : L2.Key) v
  omega
/-- for target in seq: body, the base chosen once the sequence is there -/
theorem for_sqE {tl : TE} {D0 : PyData} {ds : List PyData} {g : TG} {tb : TS} {D : Ends} (hl : EvD K tl σ B D0) (sq : Sq D0 ds) (b : Ex B H)
    (k : ∀ v H2, Ex H H2 → Dp K (sub H2 H B) v D0 → ∃ (B2 : Hp) (Pv : Nat → L2.St → Hp → Prop), Dp K B2 v D0 ∧ Pv 0 σ H2 ∧ (∀ i σ3 H3, Pv i σ3 H3 → Ex B2 H3) ∧
      (∀ i d x σ3 H3, ds[i]? = some d → Dp K B2 x d → Pv i σ3 H3 → g x σ3 H3 fun σ4 H4 => tb { D with nx := Pv (i + 1), ct := Pv (i + 1), bk := D.nx } σ4 H4) ∧ ∀ σ3 H3, Pv ds.length σ3 H3 → D.nx σ3 H3) : tFor (iSq K tl) g tb D σ H := by
  refine hl H b _ fun v H2 e2 hv => ?_
  obtain ⟨B2, Pv, hv2, h0, keep, hs, hd⟩ := k v H2 e2 hv
  obtain ⟨a, xs, rfl, hq, hx⟩ := sq_split hv2 sq
  have n := DpAll.len hx
  refine ⟨a, rfl, ?_⟩
  have step : ∀ i x σ3 H3, xs[i]? = some x → Pv i σ3 H3 → g x σ3 H3 fun σ4 H4 => tb { D with nx := Pv (i + 1), ct := Pv (i + 1), bk := D.nx } σ4 H4 := fun i x σ3 H3 hi p => by
    obtain ⟨d, hd1, hd2⟩ := DpAll.get' hx hi
    exact hs i d x σ3 H3 hd1 hd2 p
  rcases hq with hq | hq
  · exact .inl ⟨xs, ex_l (keep 0 σ H2 h0) hq, for_list Pv h0 (fun i σ3 H3 _ p => ex_l (keep i σ3 H3 p) hq) step (fun σ3 H3 p => hd σ3 H3 (by rw [← n]; exact p))⟩
  · exact .inr ⟨xs, ex_t (keep 0 σ H2 h0) hq, for_tup Pv h0 (fun i σ3 H3 _ p => ex_t (keep i σ3 H3 p) hq) step (fun σ3 H3 p => hd σ3 H3 (by rw [← n]; exact p))⟩
theorem setF_map {g g2 : Str → PyData} {xs : List Str} {x : Str} {d : PyData} (hx : x ∈ xs) (h1 : g2 x = d) (h2 : ∀ y, y ≠ x → g2 y = g y) : setF (mapF g xs) x d = mapF g2 xs := by
  funext y
  unfold setF mapF
  by_cases c : y = x
  · subst c
    rw [if_pos rfl, if_pos hx, h1]
  · rw [if_neg c, h2 y c]
theorem MuD.as {p : Addr} {n : Nat} {F F2 : Str → Option PyData} (m : MuD K B H p n F) (e : F = F2) : MuD K B H p n F2 := e ▸ m
theorem MuD.le {p : Addr} {n n2 : Nat} {F : Str → Option PyData} (m : MuD K B H p n F) (l : n ≤ n2) : MuD K B H p n2 F := by
  obtain ⟨kvs, h1, h2, h3, h4⟩ := m
  exact ⟨kvs, h1, h2, by omega, h4⟩
/-- a dict that is returned -/
def dictR (K : PySem.W.Frag) (F : Str → Option PyData) : Hp → V → Prop := fun H v => ∃ t kvs, v = .ref t ∧ H t = some (.dK kvs) ∧ TdR K H kvs F
theorem dictR_up {F : Str → Option PyData} : ∀ H H' v, Ex H H' → dictR K F H v → dictR K F H' v := fun _ _ _ e ⟨t, kvs, a, b, c⟩ => ⟨t, kvs, a, e t _ b, c.up e⟩
/-- how long a list is, of so many texts -/
theorem len_count : ∀ (xs l : List Str) (M : Nat), (∀ b ∈ l, b ∈ xs) → (∀ b, l.count b ≤ M) → l.length ≤ xs.length * M
  | [], l, M, h, _ => by
    cases l with
    | nil => simp
    | cons b l => exact absurd (h b (List.Mem.head _)) (List.not_mem_nil)
  | x :: xs, l, M, h, hc => by
    have z := len_count xs (l.filter fun b => !decide (b = x)) M (fun b m => by
      have m' := List.mem_filter.mp m
      have nb : b ≠ x := by simpa using m'.2
      exact (List.mem_cons.mp (h b m'.1)).resolve_left nb) (fun b => Nat.le_trans (List.Sublist.count_le b (List.filter_sublist)) (hc b))
    have e : l.length = l.count x + (l.filter fun b => !decide (b = x)).length := by
      clear z h hc
      induction l with
      | nil => rfl
      | cons b l ih =>
        by_cases c : b = x
        · subst c
          rw [List.count_cons_self, List.filter_cons_of_neg (by simp), List.length_cons, ih]
          omega
        · rw [List.count_cons_of_ne c, List.filter_cons_of_pos (by simp [c]), List.length_cons, List.length_cons, ih]
          omega
    have z2 := hc x
    rw [List.length_cons, Nat.succ_mul]
    omega
/-- a, b = x, x a pair -/
theorem l_unpack {t : TS} {D : Ends} {i j k : Nat} {v : V} {d1 d2 : PyData} (hk : σ[k]? = some (some v)) (hv : Dp K B v (.tuple [d1, d2])) (b : Ex B H) (q : ∀ x y, Dp K B x d1 → Dp K B y d2 → t D ((σ.set i (some x)).set j (some y)) H) :
    tSeq (tAsg (tVar k) (gTup K 2 (gCons (gName i) (gCons (gName j) gNil)))) t D σ H := by
  cases hv with
  | tup hs ha =>
    cases ha with
    | cons h1 ht =>
      cases ht with
      | cons h2 hn =>
        cases hn
        exact ⟨_, hk, _, _, rfl, ex_t b hs, rfl, _, _, rfl, _, _, rfl, rfl, q _ _ h1 h2⟩
theorem l_ret {D : Ends} (h : te σ H D.rt) : tRet te D σ H := h
/-- a, b = (x, y), made as a tuple -/
theorem l_tup2 {t : TS} {D : Ends} {i j : Nat} {ta tb : TE} (h : ta σ H fun x H1 => tb σ H1 fun y H2 => [x, y].length ≤ sizeLine ∧ ∀ p, H2 p = none → gTup K 2 (gCons (gName i) (gCons (gName j) gNil)) (.ref p) σ (upd H2 p (.tup [x, y])) fun σ2 H3 => t D σ2 H3) : tSeq (tAsg (tTup (tCons ta (tCons tb tNil))) (gTup K 2 (gCons (gName i) (gCons (gName j) gNil)))) t D σ H := h
theorem e_tup2 {t : TS} {D : Ends} {i j : Nat} {x y : V} (q : ∀ p, H p = none → t D ((σ.set i (some x)).set j (some y)) (upd H p (.tup [x, y]))) : [x, y].length ≤ sizeLine ∧ ∀ p, H p = none → gTup K 2 (gCons (gName i) (gCons (gName j) gNil)) (.ref p) σ (upd H p (.tup [x, y])) fun σ2 H3 => t D σ2 H3 :=
  ⟨by show 2 ≤ sizeLine; decide, fun p hp => ⟨_, _, rfl, st_of upd_same, rfl, _, _, rfl, _, _, rfl, rfl, q p hp⟩⟩
/-- a, b = x, y -/
theorem g_par {t : TS} {D : Ends} {i j : Nat} {ta : TA} {d1 d2 : PyData} (h : EvDA K ta σ B [d1, d2]) (b : Ex B H) (q : ∀ v u H2, Ex H H2 → Dp K (sub H2 H B) v d1 → Dp K (sub H2 H B) u d2 → t D ((σ.set i (some v)).set j (some u)) H2) : tSeq (tPar i j ta) t D σ H := h H b _ fun vs H2 e hv => by
  obtain ⟨v, u, rfl, h1, h2⟩ := two hv
  exact ⟨v, u, rfl, q v u H2 e h1 h2⟩
end
end ZE

set_option Elab.async false
set_option linter.all false
set_option maxRecDepth 100000
/-! [e for a, b in zip(x, y)], x and y of the same data. -/
namespace ZE
open PySem PySem.Spec PyProof.Rows L2 Evl ZS StX RZ
section
variable {K : PySem.W.Frag} {σ : L2.St} {B : Hp} {te : TE} {tas : TA} {D0 : PyData} {ds : List PyData}
theorem cm_grow {H1 B B2 H2 H H' : Hp} {D : Addr} {ys : List PyData} (c : Cm K H1 B B2 H2 D ys H) (e : Ex H H') : Cm K H1 B B2 H2 D ys H' := by
  obtain ⟨acc, Bi, c1, c2, c3, c4, c5, c6, c7⟩ := c
  exact ⟨acc, Bi, c1, c2.trans e, c3.trans (sub_mono e), c4, c5.trans e, e D _ c6, c7⟩
theorem map_snoc {α β : Type} {l : List α} {i : Nat} {x : α} (g : α → β) (h : l[i]? = some x) : (l.take (i + 1)).map g = (l.take i).map g ++ [g x] := by
  rw [List.take_succ, h, List.map_append]
  rfl
theorem xZip {X : Cx} (K : PySem.W.Frag) {e e2 : Expr} {ta : TA} {p pos tpos : Pos} {elts : List Expr} {kk : Nat} (hg : Gl X "zip") (hm : X.mg "zip" = none) (ha : PA X [e, e2] ta) (hK : X.K = K := by rfl)
    (hs : starEach [e, e2] X.env = (false, eval e X.env) :: starEach [e2] X.env := by rfl) (hpl : (backTo pos (starEach [e2] X.env)).any (·.1) = false := by rfl) : PI X (.Tuple elts kk tpos) (.Call (.Name "zip" p) [e, e2] [] pos) (iZipA K ta) := hK ▸ pi_zipA hg hm ha hs hpl
theorem ed_lcZ (g : PyData → PyData) {i j : Nat} {vs : List Nat} (h : EvDA K tas σ B [D0, D0]) (sq : Sq D0 ds) (few : ds.length < 40000) (hw : ∀ x y, wipe (((wipe σ vs).set i (some x)).set j (some y)) vs = wipe σ vs)
    (he : ∀ d ∈ ds, ∀ x y B1, Ex B B1 → Dp K B1 x d → Dp K B1 y d → EvD K te (((wipe σ vs).set i (some x)).set j (some y)) B1 (g d)) :
    EvD K (tLc (iZipA K tas) (gTup K 2 (gCons (gName i) (gCons (gName j) gNil))) tYes te vs) σ B (.list (ds.map g)) := fun H1 b Q q => h H1 b _ fun vv H2 e2 hv => by
  obtain ⟨v, u, rfl, hv1, hv2⟩ := two hv
  -- one walk does for both kinds
  have main : ∀ (a c : Addr) (xs ys : List V) (J : It), DpAll K (sub H2 H1 B) xs ds → DpAll K (sub H2 H1 B) ys ds →
      ((J = Itz K a c ∧ ∀ H', Ex (sub H2 H1 B) H' → SqL K H' a xs ∧ SqL K H' c ys) ∨ (J = ItzT K a c ∧ ∀ H', Ex (sub H2 H1 B) H' → SqT K H' a xs ∧ SqT K H' c ys)) → ∀ D, H2 D = none → ∃ W : Nat → Nat → Hp → Prop, (∃ m, W 0 m (upd H2 D (.lst []))) ∧ ∀ i1 m H, W i1 m H →
      (J.stop i1 H ∧ Q (.ref D) H) ∨ (J.go i1 H ∧ ∃ Nx : Hp → Prop, (∀ H', Nx H' → ∃ m', m' < m ∧ W (i1 + 1) m' H') ∧ ∀ x H', J.yld i1 H x H' → gTup K 2 (gCons (gName i) (gCons (gName j) gNil)) x (wipe σ vs) H' fun σ2 H2 => wipe σ2 vs = wipe σ vs ∧ tYes σ2 H2 fun b H3 =>
        if b = true then te σ2 H3 fun y H4 => ∃ acc, H4 D = some (.lst acc) ∧ acc.length < sizeLine ∧ Nx (upd H4 D (.lst (acc ++ [y]))) else Nx H3) := by
    intro a c xs ys J hx hy hJ D hD
    have h1D : H1 D = none := fresh_back e2 hD
    have dB : sub H2 H1 B D = none := by
      unfold sub
      split
      · rfl
      · exact hD
    have e3 : Ex H2 (upd H2 D (.lst [])) := Ex.new hD
    have n1 := DpAll.len hx
    have n2 := DpAll.len hy
    refine ⟨fun k m H => m = ds.length - k ∧ k ≤ ds.length ∧ Cm K H1 B (sub H2 H1 B) H2 D ((ds.take k).map g) H, ⟨ds.length, by simp, Nat.zero_le _, [], sub H2 H1 B, Ex.refl _, sub_le.trans e3, sub_mono e3, dB, e3, upd_same, .nil⟩, ?_⟩
    rintro k m H ⟨rfl, hk, cm⟩
    have cB : Ex (sub H2 H1 B) H := by
      obtain ⟨acc, Bi, c1, c2, _⟩ := cm
      exact c1.trans c2
    by_cases lt : k < ds.length
    · have lx : xs[k]? = some xs[k] := List.getElem?_eq_getElem (by omega)
      have ly : ys[k]? = some ys[k] := List.getElem?_eq_getElem (by omega)
      have ld : ds[k]? = some ds[k] := List.getElem?_eq_getElem lt
      obtain ⟨d, hd, hxd⟩ := DpAll.get' hx lx
      obtain ⟨d', hd', hyd⟩ := DpAll.get' hy ly
      obtain rfl : ds[k] = d := Option.some.inj (ld.symm.trans hd)
      obtain rfl : ds[k] = d' := Option.some.inj (ld.symm.trans hd')
      refine .inr ⟨?_, fun H' => Cm K H1 B (sub H2 H1 B) H2 D ((ds.take (k + 1)).map g) H', fun H' p' => ⟨ds.length - (k + 1), by omega, rfl, lt, p'⟩, fun x H' y => ?_⟩
      · rcases hJ with ⟨rfl, hJ⟩ | ⟨rfl, hJ⟩
        · exact ⟨xs, ys, _, _, (hJ H cB).1, (hJ H cB).2, lx, ly⟩
        · exact ⟨xs, ys, _, _, (hJ H cB).1, (hJ H cB).2, lx, ly⟩
      · obtain ⟨T, rfl, ht, rfl⟩ : ∃ T, x = .ref T ∧ H T = none ∧ H' = upd H T (.tup [xs[k], ys[k]]) := by
          rcases hJ with ⟨rfl, hJ⟩ | ⟨rfl, hJ⟩
          · obtain ⟨T, x0, y0, e1, e2, e3, e4, e5⟩ := y
            obtain rfl := Option.some.inj (lx.symm.trans (e4 xs (hJ H cB).1))
            obtain rfl := Option.some.inj (ly.symm.trans (e5 ys (hJ H cB).2))
            exact ⟨T, e1, e2, e3⟩
          · obtain ⟨T, x0, y0, e1, e2, e3, e4, e5⟩ := y
            obtain rfl := Option.some.inj (lx.symm.trans (e4 xs (hJ H cB).1))
            obtain rfl := Option.some.inj (ly.symm.trans (e5 ys (hJ H cB).2))
            exact ⟨T, e1, e2, e3⟩
        have c' := cm_grow cm (Ex.new (o := .tup [xs[k], ys[k]]) ht)
        refine ⟨T, _, rfl, st_of upd_same, rfl, _, _, rfl, _, _, rfl, rfl, hw _ _, ?_⟩
        refine cm_turn (tt := tYes) (b := true) (d := g ds[k]) c' e2 hD ?_ (fun Bi e => fun H3 e3 Q q => q H3 (Ex.refl H3)) (fun _ Bi e => he ds[k] (List.getElem_mem _) _ _ Bi ((le_sub b e2).trans e) (dp_up hxd e) (dp_up hyd e)) fun H3 c3 => ?_
        · rw [List.length_map, List.length_take]
          omega
        · rw [map_snoc g ld]
          exact c3
    · have ek : k = ds.length := by omega
      subst ek
      refine .inl ⟨?_, ?_⟩
      · rcases hJ with ⟨rfl, hJ⟩ | ⟨rfl, hJ⟩
        · exact ⟨xs, ys, (hJ H cB).1, (hJ H cB).2, .inl (by omega)⟩
        · exact ⟨xs, ys, (hJ H cB).1, (hJ H cB).2, .inl (by omega)⟩
      · rw [List.take_length] at cm
        obtain ⟨acc, Bi, c1, c2, c3, c4, c5, c6, c7⟩ := cm
        refine q _ H (e2.trans c5) (.lst (sq_of ?_) (dpa_up c7 c3))
        rw [sub_yes fun z => by rw [h1D] at z; exact Bool.false_ne_true z.1]
        exact c6
  rcases sq with rfl | rfl
  · cases hv1 with
    | lst hs hx =>
      cases hv2 with
      | lst hs2 hy => exact ⟨_, _, _, _, rfl, .inl ⟨ex_l sub_le hs, ex_l sub_le hs2, main _ _ _ _ _ hx hy (.inl ⟨rfl, fun H' e => ⟨ex_l e hs, ex_l e hs2⟩⟩)⟩⟩
  · cases hv1 with
    | tup hs hx =>
      cases hv2 with
      | tup hs2 hy => exact ⟨_, _, _, _, rfl, .inr ⟨ex_t sub_le hs, ex_t sub_le hs2, main _ _ _ _ _ hx hy (.inr ⟨rfl, fun H' e => ⟨ex_t e hs, ex_t e hs2⟩⟩)⟩⟩
end
end ZE

set_option Elab.async false
set_option linter.all false
set_option maxRecDepth 100000
namespace ZE
open PySem PySem.Spec PyProof.Rows L2 Evl ZS StX RZ
section
variable {K : PySem.W.Frag} {σ : L2.St} {B H : Hp} {te : TE} {tas : TA} {d : PyData} {ds : List PyData}
/-- -k -/
theorem ed_neg {i : Int} (h : EvD K te σ B (.int i)) : EvD K (tUn (rU fun i => .int (-i)) te) σ B (.int (-i)) := fun H1 b Q q => h H1 b _ fun v H2 e hv => by
  obtain rfl := p_int hv
  exact ⟨i, rfl, q _ H2 e (.int _)⟩
theorem atI_last {α : Type} {xs : List α} {x : α} (h : xs.getLast? = some x) : atI xs (-1) = some x := by
  have ne : xs ≠ [] := fun z => by rw [z] at h; cases h
  have pos : 0 < xs.length := List.length_pos_iff.mpr ne
  unfold atI
  have e : ixN xs.length (-1) = some (xs.length - 1) := by
    unfold ixN
    rw [if_neg (by omega)]
    first
      | rw [if_pos (by omega)]
        congr 1
        omega
      | (split <;> first | (congr 1; omega) | omega)
  rw [e]
  rw [List.getLast?_eq_getElem?] at h
  exact h
theorem atI_first {α : Type} {xs : List α} {x : α} (h : xs.head? = some x) : atI xs 0 = some x := by
  have e := atI_nat (xs := xs) (j := 0) (v := x) (by rw [← List.head?_eq_getElem?]; exact h)
  exact e
/-- as g_set, at a block's end -/
theorem g_set1 {D : Ends} {ta : TE} {i : Nat} {p : Addr} {xs : List V} {k : Int} {j : Nat} {v : Int} (h : EvD K te σ B (.int v)) (b : Ex B H) (hi : σ[i]? = some (some (V.ref p))) (hk : EvD K ta σ B (.int k)) (hp : H p = some (.lst xs)) (hj : ixN xs.length k = some j)
    (q : ∀ H2, Ex H H2 → D.nx σ (upd H2 p (.lst (xs.set j (.int v))))) : tAsg te (gSub (tVar i) ta rSetL) D σ H := h H b _ fun x H1 e1 hx => by
  obtain rfl := p_int hx
  exact ⟨.ref p, hi, hk H1 (b.trans e1) _ fun y H2 e2 hy => by
    obtain rfl := p_int hy
    exact ⟨p, xs, k, j, rfl, rfl, e2 p _ (e1 p _ hp), hj, q H2 (e1.trans e2)⟩⟩
/-- a def that is pure and returns one of R -/
def spE (K : PySem.W.Frag) (P : List PyData → (PyData → Prop) → Prop) : Sp := fun vs H Q _ => ∃ B ds R, Ex B H ∧ DpAll K B vs ds ∧ P ds R ∧ ∀ d v H2, R d → Ex H H2 → Dp K (sub H2 H B) v d → Q v H2
/-- a new list, as an object -/
theorem l_lstD {Q : VK} (h : EvDA K tas σ B ds) (b : Ex B H) (few : ds.length ≤ 100000) (q : ∀ p vs H2, Ex H H2 → DpAll K (sub H2 H B) vs ds → H2 p = none → Q (.ref p) (upd H2 p (.lst vs))) : tLst tas σ H Q := h H b _ fun vs H2 e hv => ⟨by rw [DpAll.len hv]; exact sz_of few, fun p hp => q p vs H2 e hv hp⟩
theorem l_orT {ta tb : TE} {Q : VK} (h : ta σ H fun x H1 => ∃ k, TruV K x H1 k ∧ if k = true then Q x H1 else tb σ H1 Q) : tOrT K ta tb σ H Q := h
theorem ints_dpa : ∀ {xs : List Int} {vs : List V}, DpAll K B vs (xs.map PyData.int) → vs = xs.map V.int
  | [], _, .nil => rfl
  | x :: xs, _, .cons h t => by
    cases h
    rw [ints_dpa t]
    rfl
theorem dpa_ints : ∀ (xs : List Int), DpAll K B (xs.map V.int) (xs.map PyData.int)
  | [] => .nil
  | x :: xs => .cons (.int x) (dpa_ints xs)
theorem ixN_nat {n j : Nat} (h : j < n) : ixN n (j : Int) = some j := by
  unfold ixN
  rw [if_pos (by omega), if_pos (by omega)]
  simp
theorem e_callE {P : List PyData → (PyData → Prop) → Prop} {R : PyData → Prop} {E : XK} (h : EvDA K tas σ B ds) (b : Ex B H) (hp : P ds R) {Q : VK} (q : ∀ d v H2, R d → Ex H H2 → Dp K (sub H2 H B) v d → Q v H2) : tCall (spE K P) [] E tas σ H Q := h H b _ fun vs H1 e1 hv =>
  ⟨sub H1 H B, ds, R, sub_le, by rw [List.append_nil]; exact hv, hp, fun d v H2 hr e2 hd => q d v H2 hr (e1.trans e2) (dp_up hd (later e1))⟩
end
end ZE

set_option Elab.async false
set_option linter.all false
set_option maxRecDepth 100000
/-! Calls by keywords alone; comprehensions whose list is one's own. -/
namespace ZE
open PySem PySem.Spec PyProof.Rows L2 Evl ZS StX RZ
section
variable {X : Cx} {CX : CXT} {k n : Nat} {f : Addr} {fd : FuncData} {ps ks : List Str} {sp : Sp} {E : XK} {x : Str} {p pos : Pos} {kws : List Keyword} {tk : TA} {g : List Value → List Value → List Value} {gV : List V → List V → List V}
/-- f(k = v, ..) -/
theorem pe_callN0 (F : FnOk X.prog X.w X.K X.mg X.base CX k f fd ps sp) (hr : Room k X.A) (hg : Gl X x) (hm : X.mg x = some (.ref f)) (hk : PySem.W.keepIn X.K (.ref f) = true) (hb : KBn X.K fd ps 0 ks g gV) (hx : Passes CX X E)
    (hkw : PK X kws tk) (hall : (backToKw pos (keywordEach kws X.env)).all (·.1.isSome) = true := by rfl) (hks : (backToKw pos (keywordEach kws X.env)).filterMap (·.1) = ks := by rfl)
    (hdb : (x == ("__debug__" : Str)) = false := by decide) (hpl : ((backTo pos (starEach [] X.env)).any (·.1) || (backToKw pos (keywordEach kws X.env)).any (·.1.isNone)) = false := by rfl) :
    PE X (.Call (.Name x p) [] kws pos) (tCallN 0 ks.length sp gV E tNil tk) := by
  refine ⟨fun pins s σ H Q I h => ?_⟩
  refine wpAny_Call_Name_kw (ld_glob I hg hm ?_ hdb)
  refine PySem.W.callWith_KW0 (h₀ := X.base) I.ok.mod.kin hk hall ?_ hpl
  refine thn (hkw.run pos pins s σ H _ I h) fun ws s2 ⟨zs, H2, I2, rz, l1, l2, q2⟩ => ⟨I2.kIn, ?_⟩
  rw [hks]
  exact run_fnN (us := []) (vs := []) F hr hb hx I2 .nil rz l1 l2 q2
end
/-- an expression that is never evaluated -/
def tNo : TE := fun _ _ _ => False
theorem pe_no {X : Cx} {e : Expr} : PE X e tNo := ⟨fun _ _ _ _ _ _ h => h.elim⟩
/-- a call of a def by keywords alone, all parameters named -/
structure Kwd (K : PySem.W.Frag) (fd : FuncData) (ps ks : List Str) (g : {α : Type} → List α → List α) : Prop where
  b : KBn K fd ps 0 ks (fun _ ws => g ws) (fun _ zs => g zs)
theorem kwd_mk {K : PySem.W.Frag} {x qual : Str} {st : Stmt} {f : Addr} {fd : FuncData} {ps ks : List Str} (F : Fun K x qual st f fd) (g : {α : Type} → List α → List α) (hg : ∀ {vs : List V} {us : List Value}, Vals vs us → Vals (g vs) (g us))
    (h : ∀ (kV doc pm : Value) (an : Option Addr) (cdv ct : Value) (ws : List Value), ws.length = ks.length → bindArgs (PySem.W.fnOf x qual (defArgs st) (defBody st) (defScope st) .none kV doc pm an cdv ct) ⟨[], ks.zip ws⟩ = pure (ps.zip (g ws))) : Kwd K fd ps ks g := by
  obtain ⟨oc, od, kV, doc, pm, an, cdv, ct, osl, rfl, lk, hcd⟩ := F.ex
  refine ⟨⟨fun s us ws _ l1 l2 => ?_, fun _ r => hg r⟩⟩
  obtain rfl := List.length_eq_zero_iff.mp l1
  exact .of_eq (h kV doc pm an cdv ct ws l2)
def gId {α : Type} (xs : List α) : List α := xs
def gSw {α : Type} : List α → List α
  | [a, b] => [b, a]
  | xs => xs
theorem gSw_vals : ∀ {vs : List V} {us : List Value}, Vals vs us → Vals (gSw vs) (gSw us)
  | _, _, .nil => .nil
  | _, _, .cons a .nil => .cons a .nil
  | _, _, .cons a (.cons b .nil) => .cons b (.cons a .nil)
  | _, _, .cons a (.cons b (.cons c d)) => .cons a (.cons b (.cons c d))
section
variable {K : PySem.W.Frag} {σ : L2.St} {B H : Hp} {te tl : TE} {tas : TA} {d : PyData} {ds ds' : List PyData} {sp : Sp} {E : XK} {n : Nat} {gV : List V → List V → List V}
theorem ed_callN (h : EvDA K tas σ B ds) (hl : ds.length = n) (hg : ∀ H zs, DpAll K H zs ds → DpAll K H (gV [] zs) ds') (hs : SpD K sp ds' d) : EvD K (tCallN 0 n sp gV E tNil tas) σ B d := fun H1 b Q q =>
  h H1 b _ fun vs H2 e2 hv => ⟨rfl, by rw [DpAll.len hv]; exact hl, hs (sub H2 H1 B) H2 _ sub_le (hg _ _ hv) Q (fun v H3 e3 hv => q v H3 (e2.trans e3) (dp_up hv (later e2))) E⟩
/-- an expression that makes a list of its own: its items stand in a base without it -/
def EvL (K : PySem.W.Frag) (te : TE) (σ : L2.St) (B : Hp) (ds : List PyData) : Prop := ∀ H1, Ex B H1 → ∀ Q : VK, (∀ l vs H2 Bi, Ex H1 H2 → H1 l = none → H2 l = some (.lst vs) → Ex B Bi → Ex Bi (sub H2 H1 B) → Bi l = none → DpAll K Bi vs ds → Q (.ref l) H2) → te σ H1 Q
theorem own_dp {H1 H2 Bi : Hp} {l : Addr} {vs : List V} (hl : H1 l = none) (h : H2 l = some (.lst vs)) (e : Ex Bi (sub H2 H1 B)) (hd : DpAll K Bi vs ds) : Dp K (sub H2 H1 B) (.ref l) (.list ds) := by
  refine .lst (sq_of ?_) (dpa_up hd e)
  rw [sub_yes fun z => by rw [hl] at z; exact Bool.false_ne_true z.1]
  exact h
theorem EvL.data (h : EvL K te σ B ds) : EvD K te σ B (.list ds) := fun H1 b Q q => h H1 b Q fun l vs H2 Bi e hl hv _ eb _ hd => q _ H2 e (own_dp hl hv eb hd)
variable {tt : TT} {D0 : PyData} {G : TG}
theorem el_lc {P : PyData → L2.St → Hp → Prop} (f : PyData → Bool) (g : PyData → PyData) {vs : List Nat} (hl : EvD K tl σ B D0) (sq : Sq D0 ds) (few : ds.length < 40000) (tgd : TgD K G vs σ P ds)
    (ht : ∀ d ∈ ds, ∀ σ2 B1, Ex B B1 → P d σ2 B1 → EvT tt σ2 B1 (f d)) (he : ∀ d ∈ ds, f d = true → ∀ σ2 B1, Ex B B1 → P d σ2 B1 → EvD K te σ2 B1 (g d)) (pu : ∀ d σ2 B1 B2, Ex B1 B2 → P d σ2 B1 → P d σ2 B2) :
    EvL K (tLc (iSq K tl) G tt te vs) σ B ((ds.filter f).map g) := fun H1 b Q q => hl H1 b _ fun v H2 e2 hv => by
  obtain ⟨a, xs, rfl, hs, hx⟩ := sq_split hv sq
  have main : ∀ J : It, ((J = Itl K a ∧ ∀ H', Ex (sub H2 H1 B) H' → SqL K H' a xs) ∨ (J = Itt K a ∧ ∀ H', Ex (sub H2 H1 B) H' → SqT K H' a xs)) → ∀ D, H2 D = none → ∃ W : Nat → Nat → Hp → Prop, (∃ m, W 0 m (upd H2 D (.lst []))) ∧ ∀ i m H, W i m H →
      (J.stop i H ∧ Q (.ref D) H) ∨ (J.go i H ∧ ∃ Nx : Hp → Prop, (∀ H', Nx H' → ∃ m', m' < m ∧ W (i + 1) m' H') ∧ ∀ x H', J.yld i H x H' → G x (wipe σ vs) H' fun σ2 H2 => wipe σ2 vs = wipe σ vs ∧ tt σ2 H2 fun b H3 =>
        if b = true then te σ2 H3 fun y H4 => ∃ acc, H4 D = some (.lst acc) ∧ acc.length < sizeLine ∧ Nx (upd H4 D (.lst (acc ++ [y]))) else Nx H3) := by
    intro J hJ D hD
    have h1D : H1 D = none := fresh_back e2 hD
    have dB : sub H2 H1 B D = none := by
      rw [sub_yes fun z => by rw [h1D] at z; exact Bool.false_ne_true z.1]
      exact hD
    refine wp_lc (B := sub H2 H1 B) hJ (fun i H => Cm K H1 B (sub H2 H1 B) H2 D (((ds.take i).filter f).map g) H) ?_ (fun i H c => ?_) (fun i x H hi c => ?_) fun H c => ?_
    · have e3 : Ex H2 (upd H2 D (.lst [])) := Ex.new hD
      exact ⟨[], sub H2 H1 B, Ex.refl _, sub_le.trans e3, sub_mono e3, dB, e3, upd_same, .nil⟩
    · obtain ⟨acc, Bi, c1, c2, _⟩ := c
      exact c1.trans c2
    · obtain ⟨d, hd, hxd⟩ := DpAll.get' hx hi
      have md : d ∈ ds := List.mem_of_getElem? hd
      have cB : Ex (sub H2 H1 B) H := by
        obtain ⟨acc, Bi, c1, c2, _⟩ := c
        exact c1.trans c2
      refine tgd d md x (sub H2 H1 B) H cB hxd _ fun σ2 w2 p2 => ⟨w2, ?_⟩
      refine cm_turn (b := f d) (d := g d) c e2 hD ?_ (fun Bi e => ht d md σ2 Bi ((le_sub b e2).trans e) (pu d σ2 _ _ e p2)) (fun fd Bi e => he d md fd σ2 Bi ((le_sub b e2).trans e) (pu d σ2 _ _ e p2)) fun H' c' => ?_
      · have z1 := List.length_filter_le f (ds.take i)
        rw [List.length_map]
        have z3 : (ds.take i).length ≤ ds.length := by rw [List.length_take]; exact Nat.min_le_right _ _
        omega
      · rw [filt_snoc f g hd]
        exact c'
    · rw [DpAll.len hx, List.take_length] at c
      obtain ⟨acc, Bi, c1, c2, c3, c4, c5, c6, c7⟩ := c
      exact q D acc H Bi (e2.trans c5) h1D c6 ((le_sub b e2).trans c1) c3 c4 c7
  refine ⟨a, rfl, ?_⟩
  rcases hs with hs | hs
  · exact .inl ⟨xs, ex_l sub_le hs, main _ (.inl ⟨rfl, fun H' e => ex_l e hs⟩)⟩
  · exact .inr ⟨xs, ex_t sub_le hs, main _ (.inr ⟨rfl, fun H' e => ex_t e hs⟩)⟩
theorem el_is {es : List PyData} (h : EvL K te σ B ds) (e : ds = es) : EvL K te σ B es := e ▸ h
theorem g_retL {D : Ends} (h : EvL K te σ B ds) (b : Ex B H) (q : ∀ l vs H2 Bi, Ex H H2 → H l = none → H2 l = some (.lst vs) → Ex B Bi → Ex Bi (sub H2 H B) → Bi l = none → DpAll K Bi vs ds → D.rt (.ref l) H2) : tRet te D σ H := h H b _ q
/-- x = e, e a list of one's own -/
theorem g_asgO {D : Ends} {i : Nat} {u : TS} {Hk B0 H0 : Hp} (h : EvL K te σ B ds) (a : At Hk B0 H0 B H) (q : ∀ l H2 Bi, Ex H H2 → H l = none → Ex B Bi → At Hk B0 H0 Bi H2 → Mu K Bi H2 l ds → u D (σ.set i (some (.ref l))) H2) : tSeq (tAsg te (gName i)) u D σ H := h H a.b _ fun l vs H2 Bi e hl hv bb eb bl hd => q l H2 Bi e hl bb (a.mid e bb eb) ⟨vs, hv, bl, hd⟩
theorem el_lst (h : EvDA K tas σ B ds) (hl : ds.length ≤ 100000) : EvL K (tLst tas) σ B ds := fun H1 b Q q =>
  h H1 b _ fun vs H2 e2 hv => ⟨by rw [DpAll.len hv]; exact sz_of hl, fun p hp => q p vs _ (sub H2 H1 B) (e2.trans (Ex.new hp)) (fresh_back e2 hp) upd_same (le_sub b e2) (sub_mono (Ex.new hp)) (none_sub hp) hv⟩
where
  none_sub {H1 H2 B : Hp} {p : Addr} (hp : H2 p = none) : sub H2 H1 B p = none := by
    unfold sub
    split
    · rfl
    · exact hp
theorem el_cat {ta tb : TE} {es : List PyData} (h1 : EvD K ta σ B (.list ds)) (h2 : EvD K tb σ B (.list es)) (hl : ds.length + es.length ≤ 100000) : EvL K (tOp (rCatL K) ta tb) σ B (ds ++ es) := fun H1 b Q q =>
  h1 H1 b _ fun x H2 e2 hx => h2 H2 (b.trans e2) _ fun y H3 e3 hy => by
    have hx3 := dp_up hx (sub_mono (B := B) e3)
    have hy3 := dp_up hy (sub_step e2)
    cases hx3 with
    | lst hs ha =>
      cases hy3 with
      | lst hs2 ha2 =>
        exact ⟨_, _, _, _, rfl, rfl, ex_l sub_le hs, ex_l sub_le hs2, by rw [DpAll.len ha, DpAll.len ha2]; exact sz_of hl, fun p hp => q p _ _ (sub H3 H1 B) ((e2.trans e3).trans (Ex.new hp)) (fresh_back (e2.trans e3) hp) upd_same (le_sub b (e2.trans e3)) (sub_mono (Ex.new hp)) (el_lst.none_sub hp) (DpAll.app ha ha2)⟩
/-- l.append(e), l of one's own, and what follows -/
theorem g_append {D : Ends} {i : Nat} {u : TS} {Hk B0 H0 : Hp} {l : Addr} {es : List PyData} (hi : σ[i]? = some (some (V.ref l))) (m : Mu K B H l es) (a : At Hk B0 H0 B H) (hk : Hk l = none) (few : es.length < 100000) (h : EvD K te σ B d)
    (q : ∀ H2 B2, Ex B B2 → At Hk B0 H0 B2 H2 → Mu K B2 H2 l (es ++ [d]) → u D σ H2) : tSeq (tDrop (tBM K "list" rAppend (tVar i) (tCons te tNil))) u D σ H :=
  l_append (D := { D with nx := u D }) hi m a.b few h fun H2 ws e m2 => q _ _ (le_sub a.b e) ((a.next e).mut (m.next a.b e).nb hk (isSome_up e m.isS)) m2
/-- l.reverse(), l of one's own -/
theorem g_reverse {D : Ends} {i : Nat} {u : TS} {Hk B0 H0 : Hp} {l : Addr} {es : List PyData} (hi : σ[i]? = some (some (V.ref l))) (m : Mu K B H l es) (a : At Hk B0 H0 B H) (hk : Hk l = none)
    (q : ∀ H2, At Hk B0 H0 B H2 → Mu K B H2 l es.reverse → u D σ H2) : tSeq (tDrop (tBM0 K "list" rReverse (tVar i))) u D σ H := by
  refine ⟨.ref l, hi, mu_ty m, ?_⟩
  obtain ⟨vs, h1, h2, h3⟩ := m
  exact ⟨l, vs, rfl, rfl, h1, q _ (a.mut h2 hk (by rw [h1]; rfl)) ⟨_, upd_same, h2, rev h3⟩⟩
where
  rev : ∀ {vs : List V} {ds : List PyData}, DpAll K B vs ds → DpAll K B vs.reverse ds.reverse
    | _, _, .nil => .nil
    | _, _, .cons h t => by
      rw [List.reverse_cons, List.reverse_cons]
      exact DpAll.app (rev t) (.cons h .nil)
/-- a, b = (x, y), made as a tuple, by data -/
theorem g_tup2 {t : TS} {D : Ends} {i j : Nat} {ta tb : TE} {d1 d2 : PyData} (h1 : EvD K ta σ B d1) (h2 : EvD K tb σ B d2) (b : Ex B H) (q : ∀ v u H2, Ex H H2 → Dp K (sub H2 H B) v d1 → Dp K (sub H2 H B) u d2 → t D ((σ.set i (some v)).set j (some u)) H2) : tSeq (tAsg (tTup (tCons ta (tCons tb tNil))) (gTup K 2 (gCons (gName i) (gCons (gName j) gNil)))) t D σ H :=
  l_tup2 (h1 H b _ fun v H2 e2 hv => h2 H2 (b.trans e2) _ fun u H3 e3 hu => e_tup2 fun p hp => q v u _ ((e2.trans e3).trans (Ex.new hp)) (dp_up (dp_up hv (sub_mono e3)) (sub_mono (Ex.new hp))) (dp_up (dp_up hu (sub_step e2)) (sub_mono (Ex.new hp))))
open Classical in
/-- as ed_lcM, the list said to be new -/
theorem el_lcM {α : Type} {mk : α → PyData} (inj : ∀ x y, mk x = mk y → x = y) {xs : List α} (f : α → Bool) (g : α → PyData) {P : PyData → L2.St → Hp → Prop} {vs : List Nat} (hl : EvD K tl σ B D0) (sq : Sq D0 (xs.map mk)) (few : xs.length < 40000) (tgd : TgD K G vs σ P (xs.map mk))
    (ht : ∀ x ∈ xs, ∀ σ2 B1, Ex B B1 → P (mk x) σ2 B1 → EvT tt σ2 B1 (f x)) (he : ∀ x ∈ xs, f x = true → ∀ σ2 B1, Ex B B1 → P (mk x) σ2 B1 → EvD K te σ2 B1 (g x)) (pu : ∀ d σ2 B1 B2, Ex B1 B2 → P d σ2 B1 → P d σ2 B2) :
    EvL K (tLc (iSq K tl) G tt te vs) σ B ((xs.filter f).map g) := by
  let un : PyData → Option α := fun d => if h : ∃ y, mk y = d then some h.choose else none
  have hun : ∀ x, un (mk x) = some x := fun x => by
    have h : ∃ y, mk y = mk x := ⟨x, rfl⟩
    show (if h : ∃ y, mk y = mk x then some h.choose else none) = some x
    rw [dif_pos h]
    exact congrArg some (inj _ _ h.choose_spec)
  let f' : PyData → Bool := fun d => match un d with | some x => f x | none => false
  let g' : PyData → PyData := fun d => match un d with | some x => g x | none => .none
  have hf : ∀ x, f' (mk x) = f x := fun x => by show (match un (mk x) with | some x => f x | none => false) = f x; rw [hun]
  have hg : ∀ x, g' (mk x) = g x := fun x => by show (match un (mk x) with | some x => g x | none => PyData.none) = g x; rw [hun]
  have main := el_lc (K := K) (σ := σ) (B := B) (tl := tl) (D0 := D0) (ds := xs.map mk) (G := G) (tt := tt) (te := te) (P := P) (vs := vs) f' g' hl sq (by rw [List.length_map]; exact few) tgd
    (fun d m σ2 B1 e p => by obtain ⟨x, hx, rfl⟩ := List.mem_map.mp m; rw [hf]; exact ht x hx σ2 B1 e p)
    (fun d m fd σ2 B1 e p => by obtain ⟨x, hx, rfl⟩ := List.mem_map.mp m; rw [hf] at fd; rw [hg]; exact he x hx fd σ2 B1 e p) pu
  refine el_is main ?_
  rw [List.filter_map, List.map_map]
  have e1 : (f' ∘ mk) = f := funext hf
  have e2 : (g' ∘ mk) = g := funext hg
  rw [e1, e2]
end
end ZE

set_option Elab.async false
set_option linter.all false
set_option maxRecDepth 100000
namespace ZE
open PySem PySem.Spec PyProof.Rows L2 Evl ZS StX RZ
section
variable {K : PySem.W.Frag} {σ : L2.St} {B H : Hp} {te tl t1 t2 : TE} {tc : TT} {d d0 d1 d2 : PyData} {es : List PyData} {D : Ends} {u : TS} {i : Nat} {Hk B0 H0 : Hp}
theorem set_self {v0 : V} (hi : σ[i]? = some (some v0)) : σ.set i (some v0) = σ := by
  obtain ⟨h, e⟩ := List.getElem?_eq_some_iff.mp hi
  rw [← e]
  exact List.set_getElem_self h
/-- if test: x = e -/
theorem g_ifSet {c : Bool} {v0 : V} (h : EvT tc σ B c) (he : c = true → EvD K te σ B d1) (hi : σ[i]? = some (some v0)) (h0 : Dp K B v0 d0) (b : Ex B H) (q : ∀ v H2, Ex H H2 → Dp K (sub H2 H B) v (if c = true then d1 else d0) → u D (σ.set i (some v)) H2) :
    tSeq (tIfS tc (tAsg te (gName i)) tNext) u D σ H := h H b _ fun H1 e1 => by
  cases c with
  | true => exact (if_pos rfl).mpr (he rfl H1 (b.trans e1) _ fun v H2 e2 hv => q v H2 (e1.trans e2) (dp_up hv (sub_step e1)))
  | false =>
    refine (if_neg Bool.false_ne_true).mpr ?_
    have z := q v0 H1 e1 (dp_up h0 (le_sub b e1))
    rw [set_self hi] at z
    exact z
theorem urn_keep {H2 : Hp} {a : Addr} {n : Nat} (h : Urn H a n) (k : ∀ o, H a = some o → H2 a = some o) : Urn H2 a n := by
  obtain ⟨x, y, z, h1, r⟩ := h
  exact ⟨x, y, z, k _ h1, r⟩
/-- x = [e1, e2], the first one a new list -/
theorem g_two (h1 : EvL K t1 σ B es) (h2 : EvD K t2 σ B d2) (a : At Hk B0 H0 B H)
    (q : ∀ l m x H2 B2, Ex H H2 → Ex B B2 → At Hk B0 H0 B2 H2 → H m = none → H l = none → Mu K B2 H2 l [.list es, d2] → H2 l = some (.lst [.ref m, x]) → (∃ ws : List V, H2 m = some (.lst ws) ∧ ws.length = es.length) → l ≠ m → u D (σ.set i (some (.ref l))) H2) :
    tSeq (tAsg (tLst (tCons t1 (tCons t2 tNil))) (gName i)) u D σ H := h1 H a.b _ fun m us H1 Bi e1 hm hu bb eb bm hd => h2 H1 (a.b.trans e1) _ fun x H2 e2 hx => ⟨by show 2 ≤ sizeLine; decide, fun l hl => by
    have ne : l ≠ m := fun z => by rw [z, e2 m _ hu] at hl; cases hl
    have a2 := (a.next (e1.trans e2)).new (o := .lst [.ref m, x]) hl
    refine q l m x _ (sub H2 H B) ((e1.trans e2).trans (Ex.new hl)) (le_sub a.b (e1.trans e2)) a2 hm (fresh_back (e1.trans e2) hl) (Mu.new (a.next (e1.trans e2)).b hl (.cons (dp_up (own_dp hm hu eb hd) (sub_mono e2)) (.cons (dp_up hx (sub_step e1)) .nil))) upd_same ⟨us, ?_, DpAll.len hd⟩ ne
    rw [upd_ne (fun z => ne z.symm)]
    exact e2 m _ hu⟩
/-- l.append(e), and what stood there -/
theorem g_appendV {l : Addr} {es : List PyData} {vs : List V} (hi : σ[i]? = some (some (V.ref l))) (m : Mu K B H l es) (hv : H l = some (.lst vs)) (a : At Hk B0 H0 B H) (hk : Hk l = none) (few : es.length < 100000) (h : EvD K te σ B d)
    (q : ∀ H2 B2 y, Ex B B2 → At Hk B0 H0 B2 H2 → Mu K B2 H2 l (es ++ [d]) → H2 l = some (.lst (vs ++ [y])) → (∀ c, c ≠ l → ∀ o, H c = some o → H2 c = some o) → u D σ H2) : tSeq (tDrop (tBM K "list" rAppend (tVar i) (tCons te tNil))) u D σ H := by
  refine ⟨.ref l, hi, mu_ty m, h H a.b _ fun v H1 e hd => ?_⟩
  have nb := (m.next a.b e).nb
  have iS := isSome_up e m.isS
  obtain ⟨ws, h1, h2, h3⟩ := m
  rw [hv] at h1
  cases h1
  have n := DpAll.len h3
  exact ⟨l, vs, v, rfl, rfl, e l _ hv, sz_lt (by omega), q _ (sub H1 H B) v (le_sub a.b e) ((a.next e).mut nb hk iS) ⟨_, upd_same, nb, DpAll.app (dpa_up h3 (le_sub a.b e)) (.cons hd .nil)⟩ upd_same fun c nc o ho => by rw [upd_ne nc]; exact e c o ho⟩
/-- x[0].append(e) -/
theorem g_app0 {l m : Addr} {vs ws : List V} (hi : σ[i]? = some (some (V.ref l))) (hl : H l = some (.lst (.ref m :: vs))) (hm : H m = some (.lst ws)) (few : ws.length < 100000) (h : EvD K te σ B d) (b : Ex B H)
    (q : ∀ H2 xs, Ex H H2 → u D σ (upd H2 m (.lst xs))) : tSeq (tDrop (tBM K "list" rAppend (tOp (rIx K) (tVar i) (tC (.int 0))) (tCons te tNil))) u D σ H :=
  ⟨.ref l, hi, .inl ⟨l, _, 0, .ref m, rfl, rfl, sq_of hl, atI_first rfl, .inl ⟨rfl, ws, sq_of hm⟩, h H b _ fun v H2 e hv => ⟨m, ws, v, rfl, rfl, e m _ hm, sz_lt (by omega), q H2 _ e⟩⟩⟩
theorem l_par2 {j : Nat} {ta tb : TE} (h : ta σ H fun x H1 => tb σ H1 fun y H2 => ∃ v w, [x, y] = [v, w] ∧ u D ((σ.set i (some v)).set j (some w)) H2) : tSeq (tPar i j (tCons ta (tCons tb tNil))) u D σ H := h
theorem ed_callN2 {sp : Sp} {E : XK} {tas : TA} {ds : List PyData} {n : Nat} (h : EvDA K tas σ B ds) (hl : ds.length = n) (hs : SpD K sp ds d) : EvD K (tCallN 0 n sp (fun _ zs => gId zs) E tNil tas) σ B d := ed_callN h hl (fun _ _ hz => hz) hs
end
end ZE

set_option Elab.async false
set_option linter.all false
set_option maxRecDepth 100000
set_option maxHeartbeats 2000000
/-! A try whose clause names several classes; what it caught is tracked from then on. -/
namespace ZT
open PySem PySem.Spec PyProof.Rows L2
/-- an exception of this class, its dict at d -/
def exc (cls : Value) (d : Option Addr) (a : Addr) : HO := .ext fun h => ∃ (o : Obj) (fs : Array Value), h.get? a = some o ∧ Zc cls d o ∧ o.data = .fields fs
theorem exc_ok {P : Program} {w : World} {H : Hp} {h : Heap} {a : Addr} {cls : Value} {d : Option Addr} {o : Obj} {fs : Array Value} (e : h.get? a = some o) (z : Zc cls d o) (hd : o.data = .fields fs) : ObjOk P w H h a (exc cls d a) :=
  ⟨⟨o, fs, e, z, hd⟩, ⟨o, e⟩, fun h1 h2 ⟨o1, fs1, p, r⟩ k => ⟨o1, fs1, k o1 p, r⟩⟩
section
variable {X : Cx} {pins : List (Addr × Obj)} {σ : L2.St} {H : Hp} {s : Shared} {a : Addr} {o : Obj} {fs : Array Value} {cls : Value} {d : Option Addr}
/-- a new object that stands there may be tracked -/
theorem track (I : Inv X pins σ H s) (e : s.heap.get? a = some o) (z : Zc cls d o) (hd : o.data = .fields fs) (na : H a = none) (n0 : X.s_0.heap.get? a = none) (nl : a ≠ X.env.locals) (np : ∀ p ∈ X.pn ++ pins, p.1 ≠ a) : Inv X pins σ (upd H a (exc cls d a)) s where
  ok := I.ok
  os := I.os
  bare := I.bare
  base := {
    keep := I.base.keep
    slot := I.base.slot
    free := fun b u q n hx => by
      rw [upd_ne fun c => by rw [c, n0] at q; cases q]
      exact I.base.free b u q n hx
    there := I.base.there
    tups := fun b xs q => by
      have := I.base.tups b xs q
      rw [upd_ne (ne_of_none this na)]
      exact this
    frzs := fun b u xs q => by
      have := I.base.frzs b u xs q
      rw [upd_ne (ne_of_none this na)]
      exact this
    tbls := fun b ps q => by
      obtain ⟨m, this⟩ := I.base.tbls b ps q
      exact ⟨m, by rw [upd_ne (ne_of_none this na)]; exact this⟩ }
  loc := I.loc
  cell := I.cell
  free := by rw [upd_ne (Ne.symm nl)]; exact I.free
  freeC := fun x c q => by
    obtain ⟨v, hc⟩ := I.cell x c q
    have ne : c ≠ a := fun w => by
      obtain ⟨u, hu, hcv⟩ := hc
      rw [w, e] at hu
      cases hu
      rw [hd] at hcv
      cases hcv
    rw [upd_ne ne]
    exact I.freeC x c q
  pin := fun p hp => by
    obtain ⟨p1, p2, p3⟩ := I.pin p hp
    exact ⟨p1, by rw [upd_ne (np p hp)]; exact p2, p3⟩
  hok := fun b u q => by
    by_cases c : b = a
    · subst c
      rw [upd_same] at q
      cases q
      exact exc_ok e z hd
    · rw [upd_ne c] at q
      exact (I.hok b u q).stay (fun _ _ _ k => k) (fun b2 q2 => by rw [upd_ne (ne_of_none q2 na)]; exact q2) fun b2 xs q2 => by rw [upd_ne (ne_of_none q2 na)]; exact q2
  len := I.len
theorem toSuite (I : Inv X pins σ H s) : Inv (X.suite a (X.pn ++ pins)) [] σ H s :=
  ⟨I.ok.suite a _, I.os, I.bare, I.base, I.loc, I.cell, I.free, I.freeC, fun p hp => I.pin p (by rw [List.append_nil] at hp; exact hp), I.hok, I.len⟩
theorem ofSuite {pn2 : List (Addr × Obj)} (I : Inv (X.suite a (X.pn ++ pins)) pn2 σ H s) (ok : X.Ok) : Inv X pins σ H s :=
  ⟨ok, I.os, I.bare, I.base, I.loc, I.cell, I.free, I.freeC, fun p hp => I.pin p (List.mem_append_left _ hp), I.hok, I.len⟩
end
/-- the test of a clause, of an exception of this class: b -/
def Clause (X : Cx) (t : Expr) (cls : Value) (b : Bool) : Prop := ∀ (a : Addr) (pn : List (Addr × Obj)) (σ : L2.St) (H : Hp) (s : Shared) (E : Value → Shared → Prop) (Q : Bool → Shared → Prop),
  Inv (X.suite a pn) [] σ H s → PySem.W.Looks (model X.prog X.w) s.heap (typeOf (.ref a)) cls → (∀ h', (∀ c o, s.heap.get? c = some o → h'.get? c = some o) → Q b { s with heap := h' }) →
  wpAny (model X.prog X.w) (X.A.mark (some (.ref a))) (eval t X.env) (fun c s1 => wpAny (model X.prog X.w) (X.A.mark (some (.ref a))) (excMatches (.ref a) c) Q E s1) E s
section
variable {X : Cx} {cls c1 c2 c3 c4 : Value} {x1 x2 x3 x4 : Str} {p1 p2 p3 p4 tpos : Pos} {kk : Nat} {b : Bool}
theorem named {a : Addr} {pn : List (Addr × Obj)} {σ : L2.St} {H : Hp} {s : Shared} {E Q : Value → Shared → Prop} (n : Names X x1 c1) (I : Inv (X.suite a pn) [] σ H s) (q : Q c1 s) : wpAny (model X.prog X.w) (X.A.mark (some (.ref a))) (eval (.Name x1 p1) X.env) Q E s := by
  obtain ⟨g, dbg, ⟨m⟩ | ⟨m, v, nn⟩⟩ := n
  · exact ld_glob (X := X.suite a pn) I g m q dbg
  · exact ld_blt (X := X.suite a pn) I g m v q nn dbg
theorem clause1 (n1 : Names X x1 c1) (he : PySem.W.exmOne X.K cls c1 = some b) : Clause X (.Name x1 p1) cls b := fun a pn σ H s E Q I LT q =>
  named n1 I ((PySem.W.exm_one I.kIn LT he).here (q s.heap fun _ _ z => z))
theorem clause2 (n1 : Names X x1 c1) (n2 : Names X x2 c2) (he : PySem.W.exmAny X.K cls [c1, c2] = some b) : Clause X (.Tuple [.Name x1 p1, .Name x2 p2] kk tpos) cls b := fun a pn σ H s E Q I LT q => by
  refine wpAny_Tuple (wpAny_items_cons (named n1 I (wpAny_items_cons (named n2 I (wpAny_items_nil ⟨by size_fits, ?_⟩)))))
  exact (PySem.W.exm_tup2 (I.kIn.keeps fun _ _ z => Heap.get?_push_of_some _ z) (LT.keeps fun _ _ z => Heap.get?_push_of_some _ z) (Heap.get?_push_size s.heap rfl) he).here (q _ fun _ _ z => Heap.get?_push_of_some _ z)
theorem clause3 (n1 : Names X x1 c1) (n2 : Names X x2 c2) (n3 : Names X x3 c3) (he : PySem.W.exmAny X.K cls [c1, c2, c3] = some b) : Clause X (.Tuple [.Name x1 p1, .Name x2 p2, .Name x3 p3] kk tpos) cls b := fun a pn σ H s E Q I LT q => by
  refine wpAny_Tuple (wpAny_items_cons (named n1 I (wpAny_items_cons (named n2 I (wpAny_items_cons (named n3 I (wpAny_items_nil ⟨by size_fits, ?_⟩)))))))
  exact (PySem.W.exm_tup3 (I.kIn.keeps fun _ _ z => Heap.get?_push_of_some _ z) (LT.keeps fun _ _ z => Heap.get?_push_of_some _ z) (Heap.get?_push_size s.heap rfl) he).here (q _ fun _ _ z => Heap.get?_push_of_some _ z)
theorem clause4 (n1 : Names X x1 c1) (n2 : Names X x2 c2) (n3 : Names X x3 c3) (n4 : Names X x4 c4) (he : PySem.W.exmAny X.K cls [c1, c2, c3, c4] = some b) : Clause X (.Tuple [.Name x1 p1, .Name x2 p2, .Name x3 p3, .Name x4 p4] kk tpos) cls b := fun a pn σ H s E Q I LT q => by
  refine wpAny_Tuple (wpAny_items_cons (named n1 I (wpAny_items_cons (named n2 I (wpAny_items_cons (named n3 I (wpAny_items_cons (named n4 I (wpAny_items_nil ⟨by size_fits, ?_⟩)))))))))
  exact (PySem.W.exm_tup4 (I.kIn.keeps fun _ _ z => Heap.get?_push_of_some _ z) (LT.keeps fun _ _ z => Heap.get?_push_of_some _ z) (Heap.get?_push_size s.heap rfl) he).here (q _ fun _ _ z => Heap.get?_push_of_some _ z)
end
theorem fly_keeps {B : Heap} {l : List Env} {a : Addr} {Z : Obj → Prop} {h h' : Heap} (x : HandSPX.FlyingZ B l a Z h) (k : ∀ c o, h.get? c = some o → h'.get? c = some o) : HandSPX.FlyingZ B l a Z h' := by
  obtain ⟨x1, x2, x3, o, vs, T, oT, ts, y1, y2, y3, y4, y5, y6, y7, y8⟩ := x
  exact ⟨fun c u q => k c u (x1 c u q), x2, x3.of_keeps fun c u q _ => ⟨u, k c u q, rfl⟩, o, vs, T, oT, ts, k _ _ y1, y2, y3, y4, y5, y6, k _ _ y7, y8⟩
/-- the ends of a suite, the name of what was caught gone -/
def endsOf (i : Nat) (D : Ends) : Ends := { nx := fun σ H => D.nx (σ.set i none) H, rt := D.rt, bk := fun σ H => D.bk (σ.set i none) H, ct := fun σ H => D.ct (σ.set i none) H }
/-- what such a clause wishes of an exception of the body -/
def wCls (X : Cx) (t : Expr) (i : Nat) (ts : TS) (Wout : WX) (D : Ends) : WX := fun cls d σ H =>
  ∃ b, Clause X t cls b ∧ (b = true → ∀ a, H a = none → ts (endsOf i D) (σ.set i (some (.ref a))) (upd H a (exc cls d a))) ∧ (b = false → Wout cls d σ H)
section
variable {X : Cx} {n : Str} {t : Expr} {i : Nat} {body suite : List Stmt} {b₀ : Stmt} {pos pos' : Pos} {tb : WX → TS} {ts : TS} {Wout : WX}
theorem ps_try_cls (hs : X.stack = X.env :: X.outer) (hf : X.env.frame = some X.env.locals) (hex : X.ex = []) (hN : X.N.Nodup) (hi : X.N[i]? = some n) (hln : X.env.kindOf n = some .local) (tk : Takes X Wout)
    (hb : ∀ (W : WX) (pn : List (Addr × Obj)) (xe : Value → Shared → Prop), Takes (X.tr pn xe) W → PassesOwn (model X.prog X.w) X.A X.env xe → PSs (X.tr pn xe) body (tb W))
    (hsu : ∀ (a : Addr) (pn : List (Addr × Obj)), PSs (X.suite a pn) (b₀ :: suite) ts) :
    PS X (.Try body [.ExceptHandler (some t) (some n) (b₀ :: suite) pos'] [] [] pos) (fun D σ H => tb (wCls X t i ts Wout D) D σ H) := by
  refine ⟨fun pins s σ H D I h => wpAny_Try_except ?_⟩
  have ok := I.ok
  refine wpAny_mono ((hb _ (X.pn ++ pins) (fun e s1 => wpAny (model X.prog X.w) X.A (noteFrame e X.env) (fun _ s2 => wpAny (model X.prog X.w) X.A (setFlight e none) (fun _ s3 => wpAny (model X.prog X.w) X.A (handleBy e X.env _) (SP X pins D) X.xe s3) X.xe s2) X.xe s1)
    (fun u s1 air => ?_) PassesOwn.looking).run [] s σ H D (I.toTry _) h) (fun f s1 r => ?_) fun _ _ z => z
  · obtain ⟨a, B, sI, pins1, σ1, H1, cls, d, rfl, J', nb, up, sky, na, os, ag, b, test, yes, no⟩ := air
    have J := J'.ofTry ok
    rw [show (X.tr (X.pn ++ pins) _).stack = X.env :: X.outer from hs] at sky
    refine Sky.land Zc.steady (by rw [ok.frames, hs]) hf sky fun h3 fl up3 => ?_
    have J3 : Inv X pins σ1 H1 { s1 with heap := h3 } := J.landed nb fl.1 (up.trans up3) os ag
    obtain ⟨o3, v3, e3, z3, d3⟩ := fl.there
    have L3 : PySem.W.Looks (model X.prog X.w) h3 (typeOf (.ref a)) cls := fun A Q E s k q => wpAny_typeOf_ref (k _ _ e3) (by rw [z3.1]; exact q)
    refine wpAny_handleBy_cons (codeAny_handlers_test (test a (X.pn ++ pins) σ1 H1 _ _ _ (toSuite J3) L3 fun h4 k4 => ?_)) (fun q => by cases q)
    have fl4 := fly_keeps fl k4
    cases b with
    | true =>
      refine codeAny_handlers_suite_as (HandSPX.lands_againZ fl4 fun h5 fl5 up5 => ?_)
      have J5 : Inv X pins σ1 H1 { s1 with heap := h5 } := J.landed nb fl5.1 (((up.trans up3).trans (Heap.UpToSlots.of_keeps k4)).trans up5) os ag
      obtain ⟨o5, v5, e5, z5, d5⟩ := fl5.there
      have nfr : a ∉ frs (X.env :: X.outer) := fun m => by
        obtain ⟨_, o', q, hd⟩ := fl5.2.2.1.mem m
        rw [e5] at q
        cases q
        exact hd _ d5
      have nI : sI.heap.get? a = none := by
        cases q : sI.heap.get? a with
        | none => rfl
        | some o =>
          have w := nb a o q (by rw [hs]; exact nfr)
          rw [fl5.2.1] at w
          cases w
      have n0 : X.s_0.heap.get? a = none := by
        cases q : X.s_0.heap.get? a with
        | none => rfl
        | some o =>
          obtain ⟨o', w⟩ := J.base.there a o q (by rw [hex]; exact fun z => nomatch z)
          rw [nI] at w
          cases w
      have nl : a ≠ X.env.locals := fun q => nfr (List.mem_filterMap.mpr ⟨X.env, List.mem_cons_self, by rw [hf, q]⟩)
      have T5 := track J5 e5 z5 d5 na n0 nl fun p hp q => by
        have w := (J.pin p hp).1
        rw [q, nI] at w
        cases w
      refine store_ok (X := X.suite a (X.pn ++ pins)) (v := .ref a) (toSuite T5) hN hi (.inl hln) rfl (fun s6 S6 => ?_) (.inr hln)
      refine wpAny_mono ((hsu a (X.pn ++ pins)).run [] s6 _ _ (endsOf i D) S6 (yes rfl a na)) (fun f s7 r => ?_) fun _ _ z => z.elim
      cases f with
      | next =>
        obtain ⟨σ7, H7, S7, q7⟩ := r
        exact gone_ok (ofSuite S7 ok) hN hi hln fun s8 J8 => ⟨_, _, J8, q7⟩
      | brk =>
        obtain ⟨σ7, H7, S7, q7⟩ := r
        exact gone_ok (ofSuite S7 ok) hN hi hln fun s8 J8 => ⟨_, _, J8, q7⟩
      | cont =>
        obtain ⟨σ7, H7, S7, q7⟩ := r
        exact gone_ok (ofSuite S7 ok) hN hi hln fun s8 J8 => ⟨_, _, J8, q7⟩
      | ret u =>
        obtain ⟨v7, σ7, H7, S7, r7, q7⟩ := r
        exact gone_ok (ofSuite S7 ok) hN hi hln fun s8 J8 => ⟨_, _, _, J8, r7, q7⟩
    | false =>
      refine wpAny_handleBy_nil ?_
      obtain ⟨_, _, _, o, vs, T, oT, w, he, hz, hd, h1, _⟩ := id fl4
      unfold PySem.passOn
      refine wpAny_bind (wpAny_field he hd h1 ?_)
      rw [if_neg (show ¬ ((Value.ref T == Value.none) = true) from by simp)]
      have out : wpAny (model X.prog X.w) X.A (setFlight (.ref a) X.env.frame) (fun _ s5 => wpAny (model X.prog X.w) X.A (throw (.ref a) : Sem Flow) (SP X pins D) X.xe s5) X.xe { s1 with heap := h4 } := by
        rw [hf]
        exact HandSPX.setFlight_upZ fl4 fun h5 hh up5 => wpAny_throw (tk _ _ ⟨a, B, sI, pins, σ1, H1, cls, d, rfl, J, nb, (((up.trans up3).trans (Heap.UpToSlots.of_keeps k4)).trans up5), .inr (.inr (by rw [hs]; exact hh)), na, os, ag, no rfl⟩)
      first
        | exact wpAny_bind out
        | exact wpAny_bind (wpAny_pure (wpAny_bind out))
  · cases f with
    | next =>
      obtain ⟨σ2, H2, J2, q⟩ := r
      exact wpAny_execs_nil ⟨σ2, H2, J2.ofTry ok, q⟩
    | ret u =>
      obtain ⟨v, σ2, H2, J2, r2, q⟩ := r
      exact ⟨v, σ2, H2, J2.ofTry ok, r2, q⟩
    | brk =>
      obtain ⟨σ2, H2, J2, q⟩ := r
      exact ⟨σ2, H2, J2.ofTry ok, q⟩
    | cont =>
      obtain ⟨σ2, H2, J2, q⟩ := r
      exact ⟨σ2, H2, J2.ofTry ok, q⟩
end
end ZT

set_option Elab.async false
set_option linter.all false
set_option maxRecDepth 100000
set_option maxHeartbeats 4000000
/-! Own error classes right under a built-in one, with an __init__ that stores one value: made and raised; read when caught. -/
namespace ZT
open PySem PySem.W PySem.Calls PyProof.Rows PySem.HandSPX
/-- a built-in class over which one's own errors stand -/
structure Under (B newId initId : String) (bm : List Value) : Prop where
  F : ExcBaseFacts B newId initId bm
  pass : ∀ self, refuseLoop self "__setattr__" bm = pure ()
  ob : bm.contains (.type "object") = true
theorem under_LE : Under "LookupError" "LookupError.__new__" "LookupError.__init__" [.type "LookupError", .type "Exception", .type "BaseException", .type "object"] := ⟨PySem.F.excBase_LookupError, PySem.F.store_LookupError.passes, by decide +kernel⟩
theorem under_VE : Under "ValueError" "ValueError.__new__" "ValueError.__init__" [.type "ValueError", .type "Exception", .type "BaseException", .type "object"] := ⟨PySem.F.excBase_ValueError, PySem.F.store_ValueError.passes, by decide +kernel⟩
section
variable {prog : Program} {w : World} {A : Around} {E : Value → Shared → Prop} {R : Result → Shared → Prop} {hp : Heap} {g : Array GenState} {d : Drawn} {t : Nat} {os : OsState}
open Builtin Builtin.ObjectAttr
/-- the first attribute of such an error -/
theorem first_attr {K : Frag} {name : Str} {tk : Tok} {v : Value} {x C : Addr} {fv : Array Value} {cd : ClassData} {B newId initId : String} {bm : List Value} (U : Under B newId initId bm) (X : K.In hp) (hx : hp.get? x = some { cls := .ref C, data := .fields fv })
    (hcd : clsIn K C = some cd) (hm : cd.mro = .ref C :: bm) (hh : cd.hasDict = true) (ha : findIn K (.ref C) name = some none)
    (hq : ∀ h2 tk2 dx, (∀ b o, b ≠ x → hp.get? b = some o → h2.get? b = some o) → hp.objs.size ≤ dx → dx ≠ x → h2.get? x = some { cls := .ref C, dict := some dx, data := .fields fv } → h2.Ns1 dx (fun y => if y = name then some v else none) → R (.ok (.ret .none)) ⟨h2, g, d, tk2, os⟩) :
    codeAny (model prog w) A (.call (.builtin "object.__setattr__") ⟨[.ref x, .str name tk, v], []⟩) R ⟨hp, g, d, t, os⟩ := by
  have inst : InstAt hp x { cls := .ref C, data := .fields fv } C none := ⟨hx, rfl, rfl, trivial⟩
  have so := PySem.F.store_object
  have emp : cd.mro.isEmpty = false := by rw [hm]; rfl
  have obj : cd.mro.contains (.type "object") = true := by rw [hm, List.contains_cons, U.ob, Bool.or_true]
  have nx : x ≠ hp.objs.size := Nat.ne_of_lt (Heap.lt_size hx)
  have isObj : Looks (model prog w) hp (isInstance (.ref x) (.type "object")) true := inst.type.andThen (looks_mroIn X (by unfold mroIn; rw [hcd, Option.bind_some, if_neg (by rw [emp]; decide), obj]))
  have theMro : Looks (model prog w) hp (mroOf (.ref C)) cd.mro := (looks_clsIn X hcd).andThen .now
  have theCls : Looks (model prog w) hp (classData C) cd := looks_clsIn X hcd
  have noTaker : Looks (model prog w) hp (storeTaker? none) none := .now
  refine codeAny_call_builtin so.slot.plain so.entry (@check_slot (model prog w) _ _ ⟨hp, g, d, t, os⟩ "object.__setattr__" "object" "__setattr__" (.ref x) [.str name tk, v] [] _ so.kind so.split isObj (so.args (.ref x) (.str name tk) v) ?_)
  rw [osa_eq, refuse_eq]
  refine wpAny_bind (wpAny_bind (inst.type.at (wpAny_bind (theMro.at ?_))))
  rw [hm, refuseLoop_ref, U.pass]
  refine wpAny_pure (wpAny_bind (inst.type.at (wpAny_bind ((looks_findIn X ha).at (wpAny_bind (noTaker.at ?_))))))
  show wpAny _ _ (storeInOwnDict (.ref x) (.ref C) (.str name tk) name v false) _ _ _
  obtain ⟨nm, bs, mro, ns, qn, hd, sn, sb, ab, col, del⟩ := cd
  dsimp only at hh
  subst hh
  unfold storeInOwnDict ownDictForStores
  repeat (first | with_reducible refine store_in_new ?_ ?_ | with_reducible refine theCls.at ?_ | with_reducible refine wpAny_loadPart_at hx ?_ | wp_step)
  · exact ⟨_, #[], _, (Heap.get?_update_ne _ _ _ _ nx.symm).trans (Heap.get?_push_at rfl rfl), rfl, fun e he => absurd he (by simp), fun _ => rfl⟩
  · intro h2 tk2 ns2 sb2
    have hx2 : (hp.push { cls := .type "dict", data := .dict #[] }).get? x = some { cls := .ref C, data := .fields fv } := Heap.get?_push_of_some _ hx
    exact hq h2 tk2 hp.objs.size (fun b o nb ob => (sb2.2 b (Nat.ne_of_lt (Heap.lt_size ob))).trans ((Heap.get?_update_ne _ _ _ _ nb).trans (Heap.get?_push_of_some _ ob))) (Nat.le_refl _) nx.symm ((sb2.2 x nx).trans (Heap.get?_update_self _ hx2 rfl)) ns2
end
end ZT
namespace ZT
open PySem PySem.Spec PyProof.Rows L2
/-- what the written part says of such a class -/
structure Own (K : PySem.W.Frag) (newId : String) (bm : List Value) (C : Addr) : Prop where
  cls : ∃ nm q N bs sn sub ab col dd k0 k1 k2 k3 k5, K.lookup C = some (excClassObj nm q C N bs bm true sn sub ab col dd k0 k1 k2 k3 k5 newId)
  sa : PySem.W.findIn K (.ref C) "__setattr__" = some (some (.builtin "object.__setattr__"))
  exC : PySem.W.subIn K (.ref C) (.type "BaseException") = some true
  tyC : PySem.W.typeIn K (.ref C) = some (.type "type")
  kC : PySem.W.keepIn K (.ref C) = true
theorem Own.clsIn {K : PySem.W.Frag} {newId : String} {bm : List Value} {C : Addr} (T : Own K newId bm C) : ∃ cd, PySem.W.clsIn K C = some cd ∧ cd.mro = .ref C :: bm ∧ cd.hasDict = true := by
  obtain ⟨nm, q, N, bs, sn, sub, ab, col, dd, k0, k1, k2, k3, k5, h⟩ := T.cls
  exact ⟨{ name := nm, bases := bs, mro := .ref C :: bm, ns := N, qualname := q, hasDict := true, slotNames := sn, subclasses := sub, abstract := ab, collection := col, hasDel := false }, by unfold PySem.W.clsIn; rw [h] <;> rfl, rfl, rfl⟩
/-- self.f = e, in the __init__ of such a class -/
def tFst (K : PySem.W.Frag) (f : Str) (to te : TE) : TS := fun D σ H => te σ H fun y H1 => to σ H1 fun x H2 => ∃ (a C : Addr) (B newId initId : String) (bm : List Value), x = .ref a ∧ Under B newId initId bm ∧ Own K newId bm C ∧ PySem.W.findIn K (.ref C) f = some none ∧
  H2 a = some (exo a C none) ∧ ∀ dx, H2 dx = none → dx ≠ a → D.nx σ (upd (upd H2 dx (exd dx [(f, y)])) a (exo a C (some dx)))
section
variable {X : Cx} {o e : Expr} {es : List Expr} {to te : TE} {ta : TA} {f : Str} {p p' pos : Pos}
theorem ps_fst (ho : PE X o to) (he : PE X e te) (hs : swapsWith e (some (.Attribute o f p')) pos.line X.env = pure false := by rfl) : PS X (.Assign [.Attribute o f p'] e pos) (tFst X.K f to te) := by
  refine ⟨fun pins s σ H D I h => ?_⟩
  refine plainObj_wpAny_Assign_Attribute (thn (he.run pins s σ H _ I h) fun v s1 ⟨y, H1, I1, r1, q1⟩ => thn (ho.run pins s1 σ H1 _ I1 q1) fun u s2 ⟨x, H2, I2, r2, a, C, B, newId, initId, bm, ex, U, T, hno, ea, q⟩ => ?_) hs
  subst ex
  obtain rfl : u = Value.ref a := r2
  obtain ⟨cd, hcd, hm, hh⟩ := T.clsIn
  obtain ⟨t1, ho1⟩ := exo_at I2.hok ea
  obtain ⟨hp, g, d, t, os⟩ := s2
  refine PySem.W.set_plain I2.kIn (ox := { cls := .ref C, dict := none, data := .fields #[.ref t1, .none, .none, .none, .bool false, .none] }) (od := none) ⟨ho1, rfl, rfl, trivial⟩ T.sa ?_
  refine first_attr U I2.kIn ho1 hcd hm hh hno (fun h2 tk2 dx k dn dne hx hn => ?_)
  have hnd : H2 dx = none := I2.hok.fresh dn
  have away : ∀ {b : Addr}, H2 b = none → b ≠ a := fun {b} n z => by rw [z, ea] at n; cases n
  have older : ∀ {b : Addr} {u : Obj}, hp.get? b = some u → b ≠ dx := fun {b u} q => Nat.ne_of_lt (Nat.lt_of_lt_of_le (Heap.lt_size q) dn)
  refine ⟨σ, _, I2.un (t' := tk2) (H' := upd (upd H2 dx (exd dx [(f, y)])) a (exo a C (some dx))) {
    keep := fun b u q n _ _ => k b u (away n) q
    slot := fun b u q n _ _ => ⟨u.slots, k b u (away n) q⟩
    free := fun b u q n _ => by rw [upd_ne (away n), upd_ne (older q)]; exact n
    there := fun b u q _ => by
      by_cases c : b = a
      · exact ⟨_, by rw [c]; exact hx⟩
      · exact ⟨u, k b u c q⟩
    tups := fun b xs q => by rw [upd_ne (at_ne ea q exo_tup), upd_ne (ne_of_none q hnd)]; exact q
    frzs := fun b u v q => by rw [upd_ne (at_ne ea q exo_frz), upd_ne (ne_of_none q hnd)]; exact q
    tbls := fun b ps q => ⟨#[], by rw [upd_ne (at_ne ea q exo_tbl), upd_ne (ne_of_none q hnd), q]; simp⟩ } (fun b u q => ?_), q dx hnd dne⟩
  by_cases c : b = a
  · subst c
    rw [upd_same] at q
    cases q
    exact exo_ok hx
  · rw [upd_ne c] at q
    by_cases c2 : b = dx
    · subst c2
      rw [upd_same] at q
      cases q
      exact exd_ok hn (relO_put (fs := []) r1 fun g => True.intro)
    · rw [upd_ne c2] at q
      exact (I2.hok b u q).stay (fun c3 v hc z => k c3 v (by
          rcases hc with hc | hc
          · rw [hc]; exact c
          · exact at_ne ea hc exo_own) z)
        (fun c3 hc => by rw [upd_ne (at_ne ea hc exo_own), upd_ne (ne_of_none hc hnd)]; exact hc) (fun c3 xs hc => by rw [upd_ne (at_ne ea hc exo_tup), upd_ne (ne_of_none hc hnd)]; exact hc)
/-- C(e, ..), an expression that makes such an error by its own __init__ -/
theorem pmk_one {CX : CXT} {x : Str} {C fI : Addr} {k : Nat} {fd : FuncData} {ps : List Str} {sp : Sp} {ds : List Value} {dvs : List V} {B newId initId : String} {bm : List Value} (U : Under B newId initId bm) (T : Own X.K newId bm C) (iC : PySem.W.findIn X.K (.ref C) "__init__" = some (some (.ref fI))) (tI : PySem.W.typeIn X.K (.ref fI) = some (.type "function"))
    (F1 : FnOk X.prog X.w X.K X.mg X.base CX k fI fd ps sp) (hr : Room (k + 1) X.A) (hb : Binds X.K fd ps ds) (hd : Vals dvs ds) (hx : Passes CX X (fun _ _ _ => False)) (hg : Gl X x) (hm : X.mg x = some (.ref C)) (ha : PA X (e :: es) ta)
    (hdb : (x == ("__debug__" : Str)) = false := by decide) (he : starEach (e :: es) X.env = (false, eval e X.env) :: starEach es X.env := by rfl) (hpl : (backTo pos (starEach es X.env)).any (·.1) = false := by rfl) :
    PMk X (.Call (.Name x p) (e :: es) [] pos) (tMkO C sp dvs ta) := by
  intro pins s σ H Q I h
  obtain ⟨nm, q, N, bs, sn, sub, ab, col, dd, k0, k1, k2, k3, k5, hC⟩ := T.cls
  refine wpAny_Call_Name_kw (ld_glob I hg hm ?_ hdb)
  refine PySem.W.callWith_K (h₀ := X.base) I.ok.mod.kin T.kC (thn (ha.run pos pins s σ H _ I h) fun us s1 ⟨vs, H1, I1, r1, hz, q1⟩ => ⟨I1.kIn, ?_⟩) he hpl
  show wpAny _ _ (call (.ref C) us) _ _ _
  obtain ⟨hp, g, dr, tk, os⟩ := s1
  have up : hp.objs.size ≤ hp.objs.size + 1 := Nat.le_succ _
  have hq := q1 (hp.objs.size + 1) (I1.hok.fresh up)
  have keep : ∀ b u, hp.get? b = some u → ((hp.push (PySem.W.kdv_tup us)).push (PySem.HandSPX.excO C hp.objs.size)).get? b = some u := fun b u z => Heap.get?_push_of_some _ (Heap.get?_push_of_some _ z)
  have here : ((hp.push (PySem.W.kdv_tup us)).push (PySem.HandSPX.excO C hp.objs.size)).get? (hp.objs.size + 1) = some (PySem.HandSPX.excO C hp.objs.size) := by heap_get
  have I2 : Inv X pins σ (upd H1 (hp.objs.size + 1) (exo (hp.objs.size + 1) C none)) ⟨(hp.push (PySem.W.kdv_tup us)).push (PySem.HandSPX.excO C hp.objs.size), g, dr, tk, os⟩ :=
    I1.laid (t' := tk) (a := hp.objs.size + 1) (o := exo (hp.objs.size + 1) C none) (h' := (hp.push (PySem.W.kdv_tup us)).push (PySem.HandSPX.excO C hp.objs.size)) keep up (exo_ok here)
  have r2 : Vals (V.ref (hp.objs.size + 1) :: (vs ++ dvs)) (Value.ref (hp.objs.size + 1) :: (us ++ ds)) := .cons rfl (r1.append hd)
  have len : (Value.ref (hp.objs.size + 1) :: us ++ ds).length = ps.length := by
    have z := r2.length
    rw [F1.len _ _ _ _ hq] at z
    exact z.symm
  have few : us.length ≤ sizeLine := by rw [← Paired.length r1, sizeLine_eq]; omega
  refine wpAny_call (PySem.HandSPX.call_own U.F (fun _ => rfl) (I1.kIn _ _ hC) (PySem.W.looks_findIn I1.kIn iC) (fun self => PySem.W.bind_fn I1.kIn self tI) few
    (codeAny_mono (F1.run _ X.stack _ _ ⟨Value.ref (hp.objs.size + 1) :: us, []⟩ (Value.ref (hp.objs.size + 1) :: (us ++ ds)) _ _ (fun _ _ _ => False) (hr.make C us []) (I2.env0.make C us []) (hb _ (Value.ref (hp.objs.size + 1) :: us) I2.kIn len) r2 hq) fun r s2 hr2 => ?_))
  cases r with
  | error er => exact hx pins σ _ _ er s2 I2 hr2
  | ok fl =>
    cases fl with
    | ret u =>
      obtain ⟨v, H2, os2, bare2, un2, hok2, rv, ev, dx, fs, ea, ed, hd1, q2⟩ := hr2
      subst ev
      obtain ⟨h2, g2, d2, t2, os3⟩ := s2
      exact ⟨rv, mk_end (raises_own T.exC T.tyC) I1 up keep un2 hok2 os2 bare2 ea ed hd1 q2⟩
    | next => exact hr2.elim
    | brk => exact hr2.elim
    | cont => exact hr2.elim
end
/-! ### what was caught -/
/-- what the class of an error that was caught must have -/
structure ExC (K : PySem.W.Frag) (C : Addr) : Prop where
  cl : (PySem.W.clsIn K C).isSome = true
  hd : PySem.W.hasDictIn K C = true
  ga : PySem.W.findIn K (.ref C) "__getattribute__" = some (some (.builtin "BaseException.__getattribute__"))
  gg : PySem.W.findIn K (.ref C) "__getattr__" = some none
  ex : PySem.W.subIn K (.ref C) (.type "BaseException") = some true
  ca : PySem.W.findIn K (.ref C) "__class__" = some (some (.builtin "object.__class__"))
  hn : PySem.W.specialIn K (.builtin "object.__class__") "__get__" = some (some (.builtin "getset_descriptor.__get__"))
  ht : PySem.W.takesIn K (.builtin "object.__class__") = some true
  hm : PySem.W.mroIn K C (.type "object") = some true
/-- err.f -/
def tErr (K : PySem.W.Frag) (f : Str) (te : TE) : TE := fun σ H Q => te σ H fun x H1 => ∃ (a C dd : Addr) (fs : List (Str × V)) (v : V), x = .ref a ∧ H1 a = some (exc (.ref C) (some dd) a) ∧ ExC K C ∧ PySem.W.findIn K (.ref C) f = some none ∧ H1 dd = some (.xd fs) ∧ fs.lookup f = some v ∧ Q v H1
/-- isinstance(err, c) -/
def rErr (K : PySem.W.Frag) : List V → Hp → VK → Prop := fun xs H Q => ∃ (a C dd : Addr) (fs : List (Str × V)) (c : V) (u : Value) (b : Bool), xs = [.ref a, c] ∧ ClsV c u ∧ H a = some (exc (.ref C) (some dd) a) ∧ ExC K C ∧ H dd = some (.xd fs) ∧ PySem.W.kitOne K (.ref C) u = some b ∧ Q (.bl b) H
section
variable {X : Cx} {pins : List (Addr × Obj)} {σ : L2.St} {H : Hp} {s : Shared} {a C dd : Addr} {fs : List (Str × V)} {e : Expr} {te : TE} {pos : Pos} {n : Str}
theorem err_at (I : Inv X pins σ H s) (ea : H a = some (exc (.ref C) (some dd) a)) (ed : H dd = some (.xd fs)) : ∃ (o od : Obj) (mA : Str → Option Value), PySem.W.InstAt s.heap a o C (some od) ∧ (∀ f, RelO (fs.lookup f) (mA f)) ∧ (∀ f, PySem.W.lookIn f od = some (mA f)) := by
  obtain ⟨⟨o, vs, ha, hz, hv⟩, _⟩ := (show ObjOk X.prog X.w H s.heap a (.ext _) from I.hok a _ ea)
  obtain ⟨mA, hns, hr⟩ := (show ObjOk X.prog X.w H s.heap dd (.xd fs) from I.hok dd _ ed)
  obtain ⟨od, hod, hl⟩ := lookIn_ns hns
  exact ⟨o, od, mA, ⟨ha, hz.1, by unfold PySem.W.notCls; rw [hv] <;> rfl, by rw [hz.2]; exact hod⟩, hr, hl⟩
theorem pe_err (he : PE X e te) (hb : attributeBase e n X.env (eval e X.env) = eval e X.env := by rfl) : PE X (.Attribute e n pos) (tErr X.K n te) := by
  refine ⟨fun pins s σ H Q I h => attr_of hb (thn (he.run pins s σ H _ I h) fun u s1 hh => ?_)⟩
  obtain ⟨x, H1, I1, rx, a, C, dd, fs, v, ex, ea, T, hno, ed, l, q⟩ := hh
  subst ex
  obtain rfl : u = Value.ref a := rx
  obtain ⟨o, od, mA, J, hr, hl⟩ := err_at I1 ea ed
  obtain ⟨u, hu, ru⟩ := RelO.some_of (v := v) (o := mA n) (by rw [← l]; exact hr n)
  exact HandSPX.exc_get I1.kIn J T.ga T.gg T.ex (PySem.W.findObj_own T.hd hno rfl (by rw [hl, hu])) (handed_of ru) ⟨v, H1, I1.tok _, ru, q⟩
theorem call_err : CallR X (.builtin "isinstance") (rErr X.K) := by
  intro pins s σ H xs us Q I r h
  obtain ⟨a, C, dd, fs, c, u, b, rfl, k, ea, T, ed, e, q⟩ := h
  obtain ⟨u1, u2, rfl, r1, r2⟩ := vals2 r
  have e2 := k.eq r2
  subst e2
  obtain rfl : u1 = Value.ref a := r1
  obtain ⟨o, od, mA, J, _, _⟩ := err_at I ea ed
  exact PySem.W.kia_one (PySem.W.kitx_exc T.cl T.ga T.gg T.ex T.ca T.hn T.ht T.hm) I.kIn J e (fun z => nomatch z) fun tk => ⟨.bl b, H, I.tok tk, rfl, q⟩
end
end ZT

set_option Elab.async false
set_option linter.all false
set_option maxRecDepth 100000
/-! Methods and classes called where what they raise is wished for at the caller's slots. -/
namespace ZT
open PySem PySem.Spec PyProof.Rows L2
section
variable {X : Cx} {CX : CXT} {k : Nat} {f C : Addr} {fd : FuncData} {ps : List Str} {sp : Sp} {dvs : List V} {ds : List Value} {E : L2.St → XK} {x m : Str} {p pos apos : Pos} {o e : Expr} {es : List Expr} {ta : TE} {t : TA}
/-- o.m(e, ..) -/
def tMethS (C : Addr) (m : Str) (sp : Sp) (dvs : List V) (E : L2.St → XK) (ta : TE) (t : TA) : TE := fun σ H Q => tMeth C m sp dvs (E σ) ta t σ H Q
theorem pe_methS {pl : Sem Bool} (he : PE X o ta) (c : Cls X.K C) (hm : Meth X.K C m f) (F : FnOk X.prog X.w X.K X.mg X.base CX k f fd ps sp) (hr : Room k X.A) (hb : Binds X.K fd ps ds) (hd : Vals dvs ds) (hx : ∀ σ, PassesAt CX X σ (E σ)) (ha : PA X (e :: es) t)
    (hst : starEach (e :: es) X.env = (false, eval e X.env) :: starEach es X.env := by rfl) (hpl : (backTo pos (starEach es X.env)).any (·.1) = false := by rfl)
    (ht : eval (.Call (.Attribute o m apos) (e :: es) [] pos) X.env = (do
      let ov ← eval o X.env
      standAt apos.atName
      let (f, first) ← holding [ov] (getMethod ov m pl)
      callWith pos f first (backTo pos (starEach (e :: es) X.env)) (backToKw pos (keywordEach [] X.env))) := by rfl) :
    PE X (.Call (.Attribute o m apos) (e :: es) [] pos) (tMethS C m sp dvs E ta t) := by
  refine ⟨fun pins s σ H Q I h => PySem.W.methodCall_KW (pl := pl) (thn (he.run pins s σ H _ I h) fun u s1 ⟨x, H1, I1, rx, a, dx, fs, ex, ea, l, q⟩ => ?_) ht⟩
  subst ex
  obtain rfl : u = Value.ref a := rx
  refine getmeth_ok I1 ea c hm l (PySem.W.callWith_K (first := [.ref a]) (h₀ := X.base) I.ok.mod.kin hm.kp (thn (ha.run pos pins s1 σ H1 _ I1 q) fun us s2 ⟨vs, H2, I2, r, q2⟩ => ⟨I2.kIn, ?_⟩) hst hpl)
  exact run_fnSD (us := .ref a :: us) (vs := .ref a :: vs) F hr hb hd (hx σ) I2 (.cons rfl r) q2
/-- C(e, ..) -/
def tMakeS (C : Addr) (sp : Sp) (dvs : List V) (E : L2.St → XK) (t : TA) : TE := fun σ H Q => tMake C sp dvs (E σ) t σ H Q
end
end ZT

set_option Elab.async false
set_option linter.all false
set_option maxRecDepth 100000
namespace S5
open PySem PySem.Spec PyProof.Rows L2 Evl ZE ZS StX ZD ZT
section
variable {P : Program} {w : World} {K : PySem.W.Frag} {mg : Str → Option Value} {base : Heap} {aI : Addr}
/-! ### NoName -/
abbrev leMro : List Value := [.type "LookupError", .type "Exception", .type "BaseException", .type "object"]
/-- what the top says of NoName -/
structure Nn (K : PySem.W.Frag) (mg : Str → Option Value) (Cn fI : Addr) : Prop where
  own : Own K "LookupError.__new__" leMro Cn
  init : PySem.W.findIn K (.ref Cn) "__init__" = some (some (.ref fI))
  ty : PySem.W.typeIn K (.ref fI) = some (.type "function")
  g : mg "NoName" = some (.ref Cn)
  no : PySem.W.findIn K (.ref Cn) "name" = some none
  ex : ExC K Cn
def spNn (K : PySem.W.Frag) (Cn : Addr) : Sp := fun vs H Q _ => ∃ a v, vs = [V.ref a, v] ∧ H a = some (exo a Cn none) ∧ ∀ dx, H dx = none → dx ≠ a → Q .non (upd (upd H dx (exd dx [("name", v)])) a (exo a Cn (some dx)))
abbrev sNoNameInit : Stmt := (inClass (top 14) 0)
abbrev NNoNameInit : List Str := ["self", "name"]
theorem scNoNameInit : FnScope NNoNameInit ["self", "name"] (defScope sNoNameInit) := ⟨rfl, rfl, rfl, by decide +kernel, rfl, by decide +kernel, by decide +kernel⟩
theorem ok_nn {f Cn fI : Addr} {fd : FuncData} (F : Fun K "__init__" "NoName.__init__" sNoNameInit f fd) (N : Nn K mg Cn fI) : FnOk P w K mg base CX0 1 f fd ["self", "name"] (spNn K Cn) := by
  refine F.ok scNoNameInit (fun vs H Q E h => ?_) (fun cdv A outer s H vs Q E hr h => ?_)
  · obtain ⟨a, v, rfl, _⟩ := h
    rfl
  · obtain ⟨a, v, rfl, ha, q⟩ := h
    refine ⟨_, (pss_one (ps_fst (pv 0) (pv 1))), ?_⟩
    exact ⟨v, rfl, .ref a, rfl, a, Cn, _, _, _, _, rfl, under_LE, N.own, N.no, ha, fun dx h1 h2 => q dx h1 h2⟩
/-- a def that makes it -/
structure NnI (P : Program) (w : World) (K : PySem.W.Frag) (mg : Str → Option Value) (base : Heap) (Cn fI : Addr) (fd : FuncData) : Prop where
  n : Nn K mg Cn fI
  G : FnOk P w K mg base CX0 1 fI fd ["self", "name"] (spNn K Cn)
  b : Binds K fd ["self", "name"] []
/-! ### check_names -/
def outF (xs ys : List Str) : Option Str := ys.find? fun y => !decide (y ∈ xs)
theorem out_none {xs ys : List Str} : outF xs ys = none ↔ ∀ y ∈ ys, y ∈ xs := by
  unfold outF
  rw [List.find?_eq_none]
  exact ⟨fun h y m => Classical.byContradiction fun z => h y m (by rw [decide_eq_false z]; rfl), fun h y m z => by rw [decide_eq_true (h y m)] at z; cases z⟩
/-- an error of this kind leaves -/
def Gone (H : Hp) (Cn : Addr) (f : Str) (v : V) (E : XK) : Prop := ∀ d H2, Ex H H2 → H d = none → H2 d = some (.xd [(f, v)]) → E (.ref Cn) (some d) H2
def spCn (K : PySem.W.Frag) (Cn : Addr) : Sp := fun vs H Q E => ∃ B A C, ∃ (xs ys : List Str), Ex B H ∧ DpAll K B vs [A, C] ∧ Sq A (xs.map .str) ∧ Oks xs ∧ Sq C (ys.map .str) ∧ Oks ys ∧
  (outF xs ys = none → ∀ H2, Ex H H2 → Q .non H2) ∧ ∀ y, outF xs ys = some y → Gone H Cn "name" (.str y) E
theorem cn_d {Cn : Addr} {A C : PyData} {xs ys : List Str} (sx : Sq A (xs.map .str)) (ox : Oks xs) (sy : Sq C (ys.map .str)) (sub : ∀ y ∈ ys, y ∈ xs) : SpD K (spCn K Cn) [A, C] .none := fun B H1 vs b hv Q q E =>
  ⟨B, A, C, xs, ys, b, hv, sx, ox, sy, fun y m => ox y (sub y m), fun _ H2 e => q .non H2 e .non, fun y h => by rw [out_none.mpr sub] at h; cases h⟩
abbrev sCheckNames : Stmt := (top 25)
abbrev NCheckNames : List Str := ["names", "asked", "name"]
theorem scCheckNames : FnScope NCheckNames ["names", "asked"] (defScope sCheckNames) := ⟨rfl, rfl, rfl, by decide +kernel, rfl, by decide +kernel, by decide +kernel⟩
theorem ok_check_names {f Cn fI : Addr} {fd fdI : FuncData} (F : Fun K "check_names" "check_names" sCheckNames f fd) (NI : NnI P w K mg base Cn fI fdI) : FnOk P w K mg base (L2.CX P w) 3 f fd ["names", "asked"] (spCn K Cn) := by
  refine F.okX scCheckNames (fun vs H Q E h => ?_) (fun cdv A outer s H vs Q E hr h => ?_)
  · obtain ⟨B, _, _, _, _, b, hv, _⟩ := h
    exact DpAll.len hv
  · obtain ⟨B, D1, D2, xs, ys, b, hv, sx, ox, sy, oy, q, qe⟩ := h
    obtain ⟨v1, v2, rfl, h1, h2⟩ := two hv
    refine ⟨_, (pss_one (ps_for (passes_of rfl) rfl (xSeq K (pv 1)) (pg_name (i := 2) scCheckNames.nd rfl (by first | exact .inl rfl | exact .inr rfl)) (pss_one (ps_if (pt_cmpR (xNin K (u65 hr)) (pv 2) (pv 0) (by rfl)) (pss_one (ps_raise rfl (takes_of rfl rfl rfl rfl) (pmk_one under_LE NI.n.own NI.n.init NI.n.ty NI.G hr NI.b .nil pass0 rfl NI.n.g (pa_cons (pv 2) pa_nil)))) pss_nil)))), ?_⟩
    refine for_sq (fun B2 i σ H' => (∃ o, σ = [some v1, some v2, o]) ∧ Ex B B2 ∧ Ex B2 H' ∧ Ex H H' ∧ ∀ y ∈ ys.take i, y ∈ xs) (ed_var rfl h2) sy b (fun H2 e => ⟨⟨_, rfl⟩, le_sub b e, sub_le, e, fun y m => by rw [List.take_zero] at m; cases m⟩) (fun _ _ _ _ p => p.2.2.1) (fun B2 i d x σ3 H3 hi hx ⟨⟨o, hσ⟩, p1, p2, p3, p4⟩ => ?_) (fun B2 σ3 H3 ⟨_, _, _, p3, p4⟩ => q (out_none.mpr (by rw [List.length_map, List.take_length] at p4; exact p4)) H3 p3)
    subst hσ
    rw [List.getElem?_map] at hi
    obtain ⟨y, hy, rfl⟩ := Option.map_eq_some_iff.mp hi
    obtain rfl := p_str hx
    have my := List.mem_of_getElem? hy
    have il : i < ys.length := (List.getElem?_eq_some_iff.mp hy).1
    show tIfS (tTest _) (fun x σ H => tMkO Cn (spNn K Cn) [] (tCons (tVar 2) tNil) σ H fun cls d H' => E cls d H') tNext _ [some v1, some v2, some (.str y)] H3
    refine g_if (c := !decide (y ∈ xs)) (et_of (ed_is (ed_op (ed_var rfl hx) (ed_var rfl (dp_up h1 p1)) (rv_notIn sx (str_shaped (oy y my)) (sq_shaped sx (tx_strs ox 0) (by decide)))) ?_)) p2 (fun hc H4 e4 => ?_) fun hc H4 e4 => ⟨⟨_, rfl⟩, p1, p2.trans e4, p3.trans e4, fun z mz => ?_⟩
    · rw [any_str (oy y my) ox]
    · have out : outF xs ys = some y := by
        unfold outF
        rw [← List.take_append_drop i ys, List.find?_append]
        have n1 : (ys.take i).find? (fun y => !decide (y ∈ xs)) = none := List.find?_eq_none.mpr fun z mz w => by rw [decide_eq_true (p4 z mz)] at w; cases w
        rw [n1, List.drop_eq_getElem_cons il, (List.getElem?_eq_some_iff.mp hy).2]
        show List.find? (fun y => !decide (y ∈ xs)) (y :: List.drop (i + 1) ys) = some y
        exact List.find?_cons_of_pos (p := fun y => !decide (y ∈ xs)) hc
      refine ⟨.str y, rfl, by show 1 ≤ 1000; decide, fun a ha => ⟨a, .str y, rfl, upd_same, fun dx hdx ndx => ⟨rfl, dx, [("name", V.str y)], upd_same, ?_, ?_, ?_⟩⟩⟩
      · rw [upd_ne ndx, upd_same]
      · rw [upd_ne ndx] at hdx
        exact hdx
      · rw [upd_ne ndx] at hdx
        refine qe y out dx _ (fun c o ho => ?_) ?_ upd_same
        · have h4 := e4 c o (p3 c o ho)
          have n1 : c ≠ dx := ne_of_none h4 hdx
          have n2 : c ≠ a := ne_of_none h4 ha
          rw [upd_ne n1, L2.del_ne n2, upd_ne n2, upd_ne n1, upd_ne n2]
          exact h4
        · cases w : H dx with
          | none => rfl
          | some o =>
            rw [e4 dx o (p3 dx o w)] at hdx
            cases hdx
    · rw [List.take_succ, hy] at mz
      rcases List.mem_append.mp mz with mz | mz
      · exact p4 z mz
      · obtain rfl : z = y := by simpa using mz
        exact Classical.byContradiction fun w => by rw [decide_eq_false w] at hc; cases hc
/-- a def that may raise, called where it doesn't -/
structure CalX (P : Program) (w : World) (K : PySem.W.Frag) (mg : Str → Option Value) (base : Heap) (k : Nat) (g : Str) (ps : List Str) (sp : Sp) (f : Addr) (fd : FuncData) : Prop where
  m : mg g = some (.ref f)
  kp : PySem.W.keepIn K (.ref f) = true
  b : Binds K fd ps []
  G : FnOk P w K mg base (L2.CX P w) k f fd ps sp
/-! ### all_pairs -/
def pairsF (xs : List Str) (R : Rel) : List (Str × Str) := xs.flatMap fun a => (xs.filter fun b => R a b).map fun b => (a, b)
structure Book (xs : List Str) (ps : List (Str × Str)) : Prop where
  ok : Oks xs
  few : xs.length ≤ 20
  lp : ps.length ≤ 100
  ins : ∀ p ∈ ps, p.1 ∈ xs ∧ p.2 ∈ xs
  noring : ∀ a ∈ xs, fwR xs (memR ps) a a = false
def apP (ds : List PyData) (d : PyData) : Prop := ∃ A C xs ps, ds = [A, C] ∧ Sq A (xs.map .str) ∧ Sq C (ps.map pr) ∧ Book xs ps ∧ d = .tuple ((pairsF xs (fwR xs (memR ps))).map pr)
abbrev sAllPairs : Stmt := (top 26)
abbrev NAllPairs : List Str := ["names", "tells", "pair", "name", "found", "teller", "told", "middle", "one", "other", "ring"]
theorem scAllPairs : FnScope NAllPairs ["names", "tells"] (defScope sAllPairs) := ⟨rfl, rfl, rfl, by decide +kernel, rfl, by decide +kernel, by decide +kernel⟩
theorem ok_all_pairs {f fc Cn : Addr} {fd fdc : FuncData} (F : Fun K "all_pairs" "all_pairs" sAllPairs f fd) (T : Tx K mg aI) (Ccheck_names : CalX P w K mg base 3 "check_names" ["names", "asked"] (spCn K Cn) fc fdc) : FnOk P w K mg base CX0 4 f fd ["names", "tells"] (spD K apP) := by
  refine F.ok scAllPairs (fun vs H Q E h => ?_) (fun cdv A outer s H vs Q E hr h => ?_)
  · obtain ⟨B, ds, d, b, hv, ⟨D1, D2, xs, ys, rfl, _⟩, _⟩ := h
    exact DpAll.len hv
  · obtain ⟨B, ds, d, b, hv, ⟨D1, D2, xs, ps, rfl, sx, sy, bk, rfl⟩, q⟩ := h
    obtain ⟨v1, v2, rfl, h1, h2⟩ := two hv
    have few := bk.few
    have lp := bk.lp
    refine ⟨_, (pss_cons (ps_expr (pe_call Ccheck_names.G (hr.mono (by decide)) (by rfl) Ccheck_names.m Ccheck_names.kp Ccheck_names.b .nil passL (pa_cons (pv 0) (pa_cons (pe_lc2 (own := [("pair", 2), ("name", 3)]) (vs1 := [3]) rfl scAllPairs.nd (xSeq K (pv 1)) (blkOk_by (N := NAllPairs) (sc := defScope sAllPairs) (by decide +kernel)) (by decide) (fun _ _ _ _ _ => (pg_name (i := 2) scAllPairs.nd rfl (by first | exact .inl rfl | exact .inr rfl))) (fun _ _ _ _ _ => pts_nil) (fun _ _ _ _ _ => (xSeq K (pv 2))) (fun _ _ _ _ _ => (pg_name (i := 3) scAllPairs.nd rfl (by first | exact .inl rfl | exact .inr rfl))) (fun _ _ _ _ _ => pts_nil) (fun _ _ _ _ _ => (pv 3))) pa_nil)))) (pss_cons (ps_set (i := 4) scAllPairs.nd rfl (by first | exact .inl rfl | exact .inr rfl) (pe_dcT (own := [("teller", 5), ("told", 6)]) rfl scAllPairs.nd hr.units0 (xSeq K (pv 1)) (blkOk_by (N := NAllPairs) (sc := defScope sAllPairs) (by decide +kernel)) (fun _ _ _ _ _ => (xTup K 2 rfl (pgs_cons (pg_name (i := 5) scAllPairs.nd rfl (by first | exact .inl rfl | exact .inr rfl)) (pgs_cons (pg_name (i := 6) scAllPairs.nd rfl (by first | exact .inl rfl | exact .inr rfl)) pgs_nil)))) (fun _ _ _ _ _ => pts_nil) (fun _ _ _ _ _ => (pe_tup (pa_cons (pv 5) (pa_cons (pv 6) pa_nil)))) (fun _ _ _ _ _ => pe_bl))) (pss_cons (ps_for PassesOwn.never rfl (xSeq K (pv 0)) (pg_name (i := 7) scAllPairs.nd rfl (by first | exact .inl rfl | exact .inr rfl)) (pss_one (ps_for PassesOwn.never rfl (xSeq K (pv 0)) (pg_name (i := 8) scAllPairs.nd rfl (by first | exact .inl rfl | exact .inr rfl)) (pss_one (ps_for PassesOwn.never rfl (xSeq K (pv 0)) (pg_name (i := 9) scAllPairs.nd rfl (by first | exact .inl rfl | exact .inr rfl)) (pss_one (ps_if (PW.pt (pw_and (pt_cmp (pc_din (hu_of hr) (pe_tup (pa_cons (pv 8) (pa_cons (pv 7) pa_nil))) (pv 4))) (pw_and1 (pt_cmp (pc_din (hu_of hr) (pe_tup (pa_cons (pv 7) (pa_cons (pv 9) pa_nil))) (pv 4)))))) (pss_one (ps_dput (hu_of hr) (pv 4) (pe_tup (pa_cons (pv 8) (pa_cons (pv 9) pa_nil))) pe_bl rfl)) pss_nil))))))) (pss_cons (ps_set (i := 10) scAllPairs.nd rfl (by first | exact .inl rfl | exact .inr rfl) (pe_callTy (xTuple K) (by rfl) T.tuple (by decide +kernel) (pa_cons (pe_lc (own := [("name", 3)]) rfl scAllPairs.nd (xSeq K (pv 0)) (blkOk_by (N := NAllPairs) (sc := defScope sAllPairs) (by decide +kernel)) (fun _ _ _ _ _ => (pg_name (i := 3) scAllPairs.nd rfl (by first | exact .inl rfl | exact .inr rfl))) (fun _ _ _ _ _ => pts_one (pt_cmp (pc_din (hu_of hr) (pe_tup (pa_cons (pv 3) (pa_cons (pv 3) pa_nil))) (pv 4)))) (fun _ _ _ _ _ => (pv 3))) pa_nil))) (pss_cons (ps_if (pt_cmpR op_gt (pe_callB (xLen K) (by rfl) T.len (by decide +kernel) (pa_cons (pv 10) pa_nil)) pe_int (nomark _)) (pss_one ps_never) pss_nil) (pss_one (ps_ret (pe_callTy (xTuple K) (by rfl) T.tuple (by decide +kernel) (pa_cons (pe_lc2 (own := [("one", 8), ("other", 9)]) (vs1 := [9]) rfl scAllPairs.nd (xSeq K (pv 0)) (blkOk_by (N := NAllPairs) (sc := defScope sAllPairs) (by decide +kernel)) (by decide) (fun _ _ _ _ _ => (pg_name (i := 8) scAllPairs.nd rfl (by first | exact .inl rfl | exact .inr rfl))) (fun _ _ _ _ _ => pts_nil) (fun _ _ _ _ _ => (xSeq K (pv 0))) (fun _ _ _ _ _ => (pg_name (i := 9) scAllPairs.nd rfl (by first | exact .inl rfl | exact .inr rfl))) (fun _ _ _ _ _ => pts_one (pt_cmp (pc_din (hu_of hr) (pe_tup (pa_cons (pv 8) (pa_cons (pv 9) pa_nil))) (pv 4)))) (fun _ _ _ _ _ => (pe_tup (pa_cons (pv 8) (pa_cons (pv 9) pa_nil))))) pa_nil))))))))), ?_⟩
    -- check_names(names, [..])
    refine g_expr (K := K) (d := .none) ?_ b fun H2 e2 => ?_
    · refine ed_call0 (ea_consD (ed_var rfl h1) (ea_consD (ed_lc2N (mk := pr) (mk1 := .str) pr_inj (fun _ _ h => str_inj h) (fun p => [p.1, p.2]) pr (fun _ _ => true) (fun _ y => .str y) (ed_var rfl h2) sy (by omega) (fun _ _ => by show 2 < 200; decide) (fun _ _ => .inr rfl)
        (fun _ => rfl) (fun _ _ => rfl) (fun x _ v B1 _ hv => ed_var rfl hv) (fun _ _ _ _ _ _ _ _ _ _ => fun H1 e Q q => q H1 (Ex.refl H1)) (fun x _ y _ _ v u B1 _ _ hu => ed_var rfl hu)) ea_nilD)) (cn_d (ys := ps.flatMap fun p => [p.1, p.2]) sx bk.ok (.inl ?_) fun y m => ?_)
      · congr 1
        rw [List.map_flatMap]
        rfl
      · obtain ⟨p, mp, my⟩ := List.mem_flatMap.mp m
        rcases List.mem_cons.mp my with rfl | my
        · exact (bk.ins p mp).1
        · obtain rfl := List.mem_singleton.mp my
          exact (bk.ins p mp).2
    -- found = {..}
    refine s_foundNew (b.trans e2) (ed_var rfl h2) sy (by omega) (by decide) (by decide) (by decide) (by show 5 < 11; decide) (by show 6 < 11; decide) (fun _ _ => rfl) fun p H3 np e3 fd0 => ?_
    have hp0 : H p = none := fresh_back e2 np
    have a0 : At H B H B H3 := ((At.start b (Ex.refl H)).grow e2).grow e3
    have bp : B p = none := fresh_back b hp0
    have some3 : ∀ {H' : Hp} {R : Rel} {n : Nat}, Fd H' p R n → (H' p).isSome = true := fun ⟨kvs, h, _⟩ => by rw [h]; rfl
    -- going over them
    refine for_sq (fun B2 i σ H' => (∃ o7 o8 o9, σ = [some v1, some v2, none, none, some (.ref p), none, none, o7, o8, o9, none]) ∧ At H B H B2 H' ∧ Ex B B2 ∧ B2 p = none ∧ Fd H' p ((xs.take i).foldl (midR xs) (memR ps)) (ps.length + i * 400)) (ed_var rfl h1) sx a0.b
      (fun H4 e4 => ⟨⟨_, _, _, rfl⟩, a0.next e4, le_sub a0.b e4, sub_none e4 (some3 fd0) bp, (fd0.up e4).le (by omega)⟩) (fun B2 i σ3 H3 p => p.2.1.b) (fun B2 i d x σ3 H3 hi hx ⟨⟨o7, o8, o9, hσ⟩, p1, p2, p3, p4⟩ => ?_) (fun B2 σ3 H3 ⟨⟨o7, o8, o9, hσ⟩, p1, p2, p3, p4⟩ => ?_)
    · subst hσ
      rw [List.getElem?_map] at hi
      obtain ⟨m, hm, rfl⟩ := Option.map_eq_some_iff.mp hi
      obtain rfl := p_str hx
      have im : i < xs.length := (List.getElem?_eq_some_iff.mp hm).1
      generalize hR : (xs.take i).foldl (midR xs) (memR ps) = R at p4
      refine for_sq (fun B3 j σ H' => (∃ o8 o9, σ = [some v1, some v2, none, none, some (.ref p), none, none, some (.str m), o8, o9, none]) ∧ At H B H B3 H' ∧ Ex B2 B3 ∧ B3 p = none ∧ Fd H' p ((xs.take j).foldl (rowR xs m) R) (ps.length + i * 400 + j * 20)) (ed_var rfl (dp_up h1 p2)) sx p1.b
        (fun H4 e4 => ⟨⟨_, _, rfl⟩, p1.next e4, le_sub p1.b e4, sub_none e4 (some3 p4) p3, (p4.up e4).le (by omega)⟩) (fun B2 i σ3 H3 p => p.2.1.b) (fun B3 j d x σ3 H3 hj hx ⟨⟨o8, o9, hσ⟩, q1, q2, q3, q4⟩ => ?_) (fun B3 σ3 H3 ⟨⟨o8, o9, hσ⟩, q1, q2, q3, q4⟩ => ?_)
      · subst hσ
        rw [List.getElem?_map] at hj
        obtain ⟨a, ha, rfl⟩ := Option.map_eq_some_iff.mp hj
        obtain rfl := p_str hx
        have ja : j < xs.length := (List.getElem?_eq_some_iff.mp ha).1
        generalize hR2 : (xs.take j).foldl (rowR xs m) R = R2 at q4
        refine for_sq (fun B4 l σ H' => (∃ o9, σ = [some v1, some v2, none, none, some (.ref p), none, none, some (.str m), some (.str a), o9, none]) ∧ At H B H B4 H' ∧ Ex B3 B4 ∧ B4 p = none ∧ Fd H' p ((xs.take l).foldl (stepR m a) R2) (ps.length + i * 400 + j * 20 + l)) (ed_var rfl (dp_up h1 (p2.trans q2))) sx q1.b
          (fun H4 e4 => ⟨⟨_, rfl⟩, q1.next e4, le_sub q1.b e4, sub_none e4 (some3 q4) q3, (q4.up e4).le (by omega)⟩) (fun B2 i σ3 H3 p => p.2.1.b) (fun B4 l d x σ3 H3 hl hx ⟨⟨o9, hσ⟩, r1, r2, r3, r4⟩ => ?_) (fun B4 σ3 H3 ⟨⟨o9, hσ⟩, r1, r2, r3, r4⟩ => ?_)
        · subst hσ
          rw [List.getElem?_map] at hl
          obtain ⟨c, hc, rfl⟩ := Option.map_eq_some_iff.mp hl
          obtain rfl := p_str hx
          have lc : l < xs.length := (List.getElem?_eq_some_iff.mp hc).1
          generalize hR3 : (xs.take l).foldl (stepR m a) R2 = R3 at r4
          have next : (xs.take (l + 1)).foldl (stepR m a) R2 = stepR m a R3 c := by rw [foldl_snoc _ _ hc, hR3]
          obtain ⟨kvs, hkv, hn, hfr⟩ := id r4
          have hold := r1.hold r3 hp0 hkv
          have fB : Fd (upd B4 p (.dT kvs)) p R3 (ps.length + i * 400 + j * 20 + l) := ⟨kvs, upd_same, hn, hfr⟩
          refine g_if (et_and (et_found rfl rfl rfl fB) fun _ => et_found rfl rfl rfl fB) hold.1.b (fun hc1 H4 e4 => ?_) (fun hc1 H4 e4 => ?_)
          · have hc2 := Bool.and_eq_true_iff.mp hc1
            refine s_found rfl rfl rfl (r4.up e4) (by omega) fun H5 keep fd5 => ?_
            refine ⟨⟨_, rfl⟩, (r1.grow e4).chg r3 hp0 keep (some3 fd5), r2, r3, ?_⟩
            rw [next]
            unfold stepR
            rw [if_pos hc2]
            exact fd5
          · have hc2 : ¬ (R3 a m = true ∧ R3 m c = true) := fun z => by rw [z.1, z.2] at hc1; cases hc1
            refine ⟨⟨_, rfl⟩, r1.grow e4, r2, r3, ?_⟩
            rw [next]
            unfold stepR
            rw [if_neg hc2]
            exact (r4.up e4).le (by omega)
        · rw [List.length_map, List.take_length] at r4
          exact ⟨⟨_, _, hσ⟩, r1.less r2 (p2.trans q2), q2, q3, by rw [foldl_snoc _ _ ha, hR2]; exact r4.le (by omega)⟩
      · rw [List.length_map, List.take_length] at q4
        exact ⟨⟨_, _, _, hσ⟩, q1.less q2 p2, p2, p3, by rw [foldl_snoc _ _ hm, hR]; exact q4.le (by omega)⟩
    · subst hσ
      rw [List.length_map, List.take_length] at p4
      obtain ⟨kvs, hkv, hn, hfr⟩ := id p4
      have a5 := (p1.hold p3 hp0 hkv).1
      have fB : Fd (upd B2 p (.dT kvs)) p (fwR xs (memR ps)) (ps.length + xs.length * 400) := ⟨kvs, upd_same, hn, hfr⟩
      have u5 : Ex B (upd B2 p (.dT kvs)) := p2.trans (Ex.new p3)
      -- ring
      refine g_asg (d := tp []) (ed_is (ed_cb (ea_consD (ed_lcS (fun a => fwR xs (memR ps) a a) .str (ed_var rfl (dp_up h1 u5)) sx (by omega) (fun _ => rfl) (fun x m B1 e => et_found rfl rfl rfl (fB.up e)) fun x m _ B1 e => ed_var rfl (.str x)) ea_nilD) (rc_tuple (.inl rfl))) ?_) a5.b fun v H4 e4 hv4 => ?_
      · rw [List.filter_eq_nil_iff.mpr fun a m => by rw [bk.noring a m]; exact Bool.false_ne_true]
        rfl
      have a6 := a5.next e4
      have u6 := le_sub a5.b e4
      refine g_if1 (c := false) (et_of (ed_is (ed_op (ed_cb (ea_consD (ed_var rfl hv4) ea_nilD) (rc_len (ds := []) (.inr rfl))) (ed_int 0) (rv_int (d := .bool false) fun _ => .bl _)) rfl)) a6.b (fun z => nomatch z) fun _ H5 e5 => ?_
      have a7 := a6.grow e5
      refine g_ret (ed_is (ed_cb (ea_consD (ed_lc2N (mk := .str) (mk1 := .str) (fun _ _ h => str_inj h) (fun _ _ h => str_inj h) (fun _ => xs) (fun _ => D1) (fun a b => fwR xs (memR ps) a b) (fun a b => pr (a, b)) (ed_var rfl (dp_up h1 (u5.trans u6))) sx (by omega) (fun _ _ => by omega) (fun _ _ => sx) (fun _ => rfl) (fun _ _ => rfl)
        (fun x _ v B1 e _ => ed_var rfl (dp_up h1 ((u5.trans u6).trans e))) (fun x mx y my v u B1 e hv hu => ?_) (fun x mx y my _ v u B1 e hv hu => ?_)) ea_nilD) (rc_tuple (.inl rfl))) ?_) a7.b fun v H6 e6 hd => q v H6 (a7.ex.trans e6) (a7.out e6 hd)
      · obtain rfl := p_str hv
        obtain rfl := p_str hu
        exact et_found rfl rfl rfl (fB.up (u6.trans e))
      · exact ed_tup (ea_consD (ed_var rfl hv) (ea_consD (ed_var rfl hu) ea_nilD)) (by show 2 ≤ 100000; decide)
      · unfold pairsF
        rw [List.map_flatMap]
        congr 1
        congr 1
        funext a
        rw [List.map_map]
        rfl
end
end S5

set_option Elab.async false
set_option linter.all false
set_option maxRecDepth 100000
namespace S5
open PySem PySem.Spec PyProof.Rows L2 Evl ZE ZS StX ZD
section
variable {P : Program} {w : World} {K : PySem.W.Frag} {mg : Str → Option Value} {base : Heap} {aI : Addr}
/-! ### all_keysets -/
def growF (ps : List (List Str)) (x : Str) : List (List Str) := ps ++ ps.map fun p => p ++ [x]
def partsF (xs : List Str) : List (List Str) := xs.foldl growF [[]]
def sortF (xs : List Str) : List (List Str) := (ZO.can ZO.tLt (partsF xs)).mergeSort fun a b => decide (a.length ≤ b.length)
def keysetsF (xs : List Str) (ps : List (Str × Str)) : List (List Str) := (sortF xs).filter (closedF ps) ++ ([["#"]] : List (List Str))
theorem grow_mem {ps : List (List Str)} {x : Str} {p : List Str} (h : p ∈ growF ps x) : p ∈ ps ∨ ∃ q ∈ ps, p = q ++ [x] := by
  rcases List.mem_append.mp h with h | h
  · exact .inl h
  · obtain ⟨q, m, rfl⟩ := List.mem_map.mp h
    exact .inr ⟨q, m, rfl⟩
theorem parts_sub : ∀ (xs : List Str) (ps : List (List Str)) (all : List Str), (∀ x ∈ xs, x ∈ all) → (∀ p ∈ ps, ∀ y ∈ p, y ∈ all) → ∀ p ∈ xs.foldl growF ps, ∀ y ∈ p, y ∈ all
  | [], _, _, _, h => h
  | x :: xs, ps, all, hx, h => parts_sub xs _ all (fun y m => hx y (List.Mem.tail _ m)) fun p m y my => by
    rcases grow_mem m with m2 | ⟨q, m2, rfl⟩
    · exact h p m2 y my
    · rcases List.mem_append.mp my with my | my
      · exact h q m2 y my
      · rw [List.mem_singleton.mp my]
        exact hx x (List.Mem.head _)
theorem parts_len : ∀ (xs : List Str) (ps : List (List Str)) (n : Nat), (∀ p ∈ ps, p.length ≤ n) → ∀ p ∈ xs.foldl growF ps, p.length ≤ n + xs.length
  | [], _, _, h => h
  | x :: xs, ps, n, h => fun p m => by
    have z := parts_len xs (growF ps x) (n + 1) (fun q m => by
      rcases grow_mem m with m2 | ⟨r, m2, rfl⟩
      · have := h q m2
        omega
      · have := h r m2
        rw [List.length_append, List.length_singleton]
        omega) p m
    rw [List.length_cons]
    omega
theorem parts_num : ∀ (xs : List Str) (ps : List (List Str)), (xs.foldl growF ps).length = ps.length * 2 ^ xs.length
  | [], ps => by simp
  | x :: xs, ps => by
    show (xs.foldl growF (growF ps x)).length = _
    rw [parts_num xs, growF, List.length_append, List.length_map, List.length_cons, Nat.pow_succ]
    rw [← Nat.mul_two, Nat.mul_assoc, Nat.mul_comm 2]
theorem parts_nil : ∀ (xs : List Str) (ps : List (List Str)), [] ∈ ps → [] ∈ xs.foldl growF ps
  | [], _, h => h
  | x :: xs, ps, h => parts_nil xs _ (List.mem_append_left _ h)
def akP (ds : List PyData) (d : PyData) : Prop := ∃ A C xs ps, ds = [A, C] ∧ Sq A (xs.map .str) ∧ Oks xs ∧ xs.length ≤ 5 ∧ Prs C ps ∧ d = .tuple ((keysetsF xs ps).map tp)
abbrev sAllKeysets : Stmt := (top 28)
abbrev NAllKeysets : List Str := ["names", "pairs", "parts", "name", "part"]
theorem scAllKeysets : FnScope NAllKeysets ["names", "pairs"] (defScope sAllKeysets) := ⟨rfl, rfl, rfl, by decide +kernel, rfl, by decide +kernel, by decide +kernel⟩
theorem ok_all_keysets {f fc : Addr} {fd fdc : FuncData} (F : Fun K "all_keysets" "all_keysets" sAllKeysets f fd) (T : Tx K mg aI) (Cis_closed : Cal P w K mg base 1 "is_closed" ["pairs", "part"] (spD K icP) fc fdc) : FnOk P w K mg base CX0 2 f fd ["names", "pairs"] (spD K akP) := by
  refine F.ok scAllKeysets (fun vs H Q E h => ?_) (fun cdv A outer s H vs Q E hr h => ?_)
  · obtain ⟨B, ds, d, b, hv, ⟨D1, D2, xs, ys, rfl, _⟩, _⟩ := h
    exact DpAll.len hv
  · obtain ⟨B, ds, d, b, hv, ⟨D1, D2, xs, ps, rfl, sx, ox, few, pq, rfl⟩, q⟩ := h
    obtain ⟨v1, v2, rfl, h1, h2⟩ := two hv
    refine ⟨_, (pss_cons (ps_set (i := 2) scAllKeysets.nd rfl (by first | exact .inl rfl | exact .inr rfl) (pe_lst (pa_cons (pe_tup pa_nil) pa_nil))) (pss_cons (ps_for PassesOwn.never rfl (xSeq K (pv 0)) (pg_name (i := 3) scAllKeysets.nd rfl (by first | exact .inl rfl | exact .inr rfl)) (pss_one (ps_set (i := 2) scAllKeysets.nd rfl (by first | exact .inl rfl | exact .inr rfl) (pe_op (xCatL K) (pv 2) (pe_lc (own := [("part", 4)]) rfl scAllKeysets.nd (xSeq K (pv 2)) (blkOk_by (N := NAllKeysets) (sc := defScope sAllKeysets) (by decide +kernel)) (fun _ _ _ _ _ => (pg_name (i := 4) scAllKeysets.nd rfl (by first | exact .inl rfl | exact .inr rfl))) (fun _ _ _ _ _ => pts_nil) (fun _ _ _ _ _ => (pe_tup (xStar K (pv 4) (pa_cons (pv 3) pa_nil))))))))) (pss_cons (ps_set (i := 2) scAllKeysets.nd rfl (by first | exact .inl rfl | exact .inr rfl) (pe_sortLen hr.units (by rfl) T.sorted (by rfl) T.len (pa_cons (pe_callB (xSortST K P w rfl hr.units) (by rfl) T.sorted (by decide +kernel) (pa_cons (pe_callTy (xSetT K P w rfl hr.units) (by rfl) T.set (by decide +kernel) (pa_cons (pv 2) pa_nil)) pa_nil)) pa_nil))) (pss_one (ps_ret (pe_callTy (xTuple K) (by rfl) T.tuple (by decide +kernel) (pa_cons (pe_lst (xStar K (pe_lc (own := [("part", 4)]) rfl scAllKeysets.nd (xSeq K (pv 2)) (blkOk_by (N := NAllKeysets) (sc := defScope sAllKeysets) (by decide +kernel)) (fun _ _ _ _ _ => (pg_name (i := 4) scAllKeysets.nd rfl (by first | exact .inl rfl | exact .inr rfl))) (fun _ _ _ _ _ => pts_one (pt_val (pe_call Cis_closed.G (hr.mono (by decide)) (by rfl) Cis_closed.m Cis_closed.kp Cis_closed.b .nil pass0 (pa_cons (pv 1) (pa_cons (pv 4) pa_nil))))) (fun _ _ _ _ _ => (pv 4))) (pa_cons (pe_glob (v := .ref aI) rfl T.mgITSELF (by rfl)) pa_nil))) pa_nil))))))), ?_⟩
    refine g_asg (K := K) (d := .list ([[]].map tp)) (ed_lst (ea_consD (ed_tup ea_nilD (by decide)) ea_nilD) (by show 1 ≤ 100000; decide)) b fun v H2 e2 hv2 => ?_
    have a2 := (At.start b (Ex.refl H)).next e2
    have u2 := le_sub b e2
    refine for_sq (fun B2 i σ H' => ∃ B3 v o3, σ = [some v1, some v2, some v, o3, none] ∧ Ex (sub H2 H B) B2 ∧ Ex B2 B3 ∧ At H B H B3 H' ∧ Dp K B3 v (.list (((xs.take i).foldl growF [[]]).map tp))) (ed_var rfl (dp_up h1 u2)) sx a2.b
      (fun H3 e3 => ⟨_, v, _, rfl, le_sub a2.b e3, Ex.refl _, a2.next e3, dp_up hv2 (le_sub a2.b e3)⟩) (fun B2 i σ3 H3 ⟨_, _, _, _, _, p2, p3, _⟩ => p2.trans p3.b) (fun B2 i d x σ3 H3 hi hx ⟨B3, v3, o3, hσ, p0, p1, p2, p3⟩ => ?_) (fun B2 σ3 H3 ⟨B3, v3, o3, hσ, p0, p1, p2, p3⟩ => ?_)
    · subst hσ
      rw [List.getElem?_map] at hi
      obtain ⟨m, hm, rfl⟩ := Option.map_eq_some_iff.mp hi
      obtain rfl := p_str hx
      generalize hR : (xs.take i).foldl growF [[]] = R at p3
      have il : i < xs.length := (List.getElem?_eq_some_iff.mp hm).1
      have num : R.length ≤ 32 := by
        rw [← hR, parts_num, List.length_take, List.length_singleton, Nat.one_mul]
        exact Nat.le_trans (Nat.pow_le_pow_right (by decide) (show min i xs.length ≤ 5 by omega)) (by decide)
      refine g_asg1 (d := .list ((growF R m).map tp)) (ed_is (ed_op (ed_var rfl p3) (ed_lcA (P := P1 K _ _ 4) (fun _ _ h => tp_inj h) (fun p => tp (p ++ [m])) (ed_var rfl p3) (.inl rfl) (by omega) (tg_name fun _ => rfl) (fun p mp σ2 B1 e ⟨u, hs, hd⟩ => ?_) p1_up) (rv_catL (by rw [List.length_map, List.length_map]; omega))) ?_) p2.b fun u H4 e4 hu => ?_
      · subst hs
        refine ed_is (ed_tup (ea_star (ed_var rfl hd) (.inr rfl) (ea_consD (ed_var rfl (.str m)) ea_nilD)) ?_) ?_
        · rw [List.length_append, List.length_map]
          have mp' : p ∈ (xs.take i).foldl growF [[]] := by rw [hR]; exact mp
          have z := parts_len (xs.take i) [[]] 0 (fun q mq => by rw [List.mem_singleton.mp mq]; exact Nat.le_refl _) p mp'
          have z2 := List.length_take_le i xs
          show p.length + 1 ≤ 100000
          omega
        · unfold tp
          rw [List.map_append]
          rfl
      · unfold growF
        rw [List.map_append, List.map_map]
        rfl
      · exact ⟨_, u, _, rfl, p0, p1.trans (le_sub p2.b e4), p2.next e4, by rw [foldl_snoc _ _ hm, hR]; exact hu⟩
    · subst hσ
      rw [List.length_map, List.take_length] at p3
      have num : (partsF xs).length ≤ 32 := by
        unfold partsF
        rw [parts_num, List.length_singleton, Nat.one_mul]
        exact Nat.le_trans (Nat.pow_le_pow_right (by decide) few) (by decide)
      have mem : ∀ p ∈ sortF xs, Oks p ∧ p.length ≤ 20 := fun p mp => by
        have m1 := ZO.mem_can.mp (List.mem_mergeSort.mp mp)
        have z := parts_len xs [[]] 0 (fun q mq => by rw [List.mem_singleton.mp mq]; exact Nat.le_refl _) p m1
        exact ⟨fun y my => ox y (parts_sub xs [[]] xs (fun _ m => m) (fun q mq y my => by rw [List.mem_singleton.mp mq] at my; cases my) p m1 y my), by omega⟩
      have num2 : (sortF xs).length ≤ 32 := by
        unfold sortF
        rw [List.length_mergeSort]
        exact Nat.le_trans (ZO.can_len ZO.sto_t _) num
      refine g_asg (d := .list ((sortF xs).map tp)) (ed_sortSetLen (ed_var rfl p3) (show (partsF xs).length < 64 by omega) (parts_nil xs _ (List.Mem.head _))) p2.b fun u H4 e4 hu => ?_
      have a5 := p2.next e4
      have u5 : Ex B (sub H4 H3 B3) := ((u2.trans p0).trans p1).trans (le_sub p2.b e4)
      refine g_ret (ed_is (ed_cb (ea_consD (ed_lst (ea_star (ed_lcM (P := P1 K _ _ 4) (fun _ _ h => tp_inj h) (fun p => closedF ps p) tp (ed_var rfl hu) (.inl rfl) (by omega) (tg_name fun _ => rfl) (fun p mp σ2 B1 e ⟨x, hs, hd⟩ => ?_) (fun p mp _ σ2 B1 e ⟨x, hs, hd⟩ => by subst hs; exact ed_var rfl hd) p1_up) (.inl rfl) (ea_consD (ed_c T.itself) ea_nilD)) ?_) ea_nilD) (rc_tuple (.inl rfl))) ?_) a5.b fun x H5 e5 hx => q x H5 (a5.ex.trans e5) (a5.out e5 hx)
      · subst hs
        exact et_ofB (ed_call0 (ea_consD (ed_var rfl (dp_up h2 (u5.trans e))) (ea_consD (ed_var rfl hd) ea_nilD)) (sp_d ⟨_, _, ps, p, rfl, pq, ⟨.inr rfl, mem p mp⟩, rfl⟩))
      · rw [List.length_append, List.length_map]
        have := List.length_filter_le (fun p => closedF ps p) (sortF xs)
        show _ + 1 ≤ 100000
        omega
      · unfold keysetsF
        rw [List.map_append]
        rfl
end
end S5

set_option Elab.async false
set_option linter.all false
set_option maxRecDepth 100000
namespace S5
open PySem PySem.Spec PyProof.Rows L2 Evl ZE ZS StX ZD
section
variable {P : Program} {w : World} {K : PySem.W.Frag} {mg : Str → Option Value} {base : Heap} {aI : Addr}
/-! ### frozen: lists and tuples of texts become tuples, to this depth -/
def fz : Nat → PyData → PyData
  | n + 1, .list ds => .tuple (ds.map (fz n))
  | n + 1, .tuple ds => .tuple (ds.map (fz n))
  | _, d => d
/-- a text, or a list or tuple of such things, at most n deep, of less than 1000 each -/
def fzOk : Nat → PyData → Bool
  | _, .str _ => true
  | _, .int _ => true
  | n + 1, .list ds => decide (ds.length < 1000) && ds.all (fzOk n)
  | n + 1, .tuple ds => decide (ds.length < 1000) && ds.all (fzOk n)
  | _, _ => false
def fzP (n : Nat) (ds : List PyData) (d : PyData) : Prop := ∃ x, ds = [x] ∧ fzOk n x = true ∧ d = fz n x
abbrev sFrozen : Stmt := (top 5)
abbrev NFrozen : List Str := ["value", "item"]
theorem scFrozen : FnScope NFrozen ["value"] (defScope sFrozen) := ⟨rfl, rfl, rfl, by decide +kernel, rfl, by decide +kernel, by decide +kernel⟩
theorem ok_frozen {f : Addr} {fd : FuncData} (F : Fun K "frozen" "frozen" sFrozen f fd) (T : Tx K mg aI) (Ti : mg "isinstance" = none) (m : mg "frozen" = some (.ref f)) (kp : PySem.W.keepIn K (.ref f) = true) (bd : Binds K fd ["value"] []) : ∀ n, FnOk P w K mg base CX0 (n + 1) f fd ["value"] (spD K (fzP n)) := by
  have isi : ∀ d, (∃ n, fzOk n d = true) → ∃ x y, kitB (tyN d) "list" = some x ∧ kitB (tyN d) "tuple" = some y ∧ (x || y) = (match d with | .list _ => true | .tuple _ => true | _ => false) := fun d ⟨n, h⟩ => by
    cases d with
    | str z => exact ⟨false, false, (show kitB "str" "list" = some false by decide +kernel), (show kitB "str" "tuple" = some false by decide +kernel), rfl⟩
    | int z => exact ⟨false, false, (show kitB "int" "list" = some false by decide +kernel), (show kitB "int" "tuple" = some false by decide +kernel), rfl⟩
    | list z => exact ⟨true, false, (show kitB "list" "list" = some true by decide +kernel), (show kitB "list" "tuple" = some false by decide +kernel), rfl⟩
    | tuple z => exact ⟨false, true, (show kitB "tuple" "list" = some false by decide +kernel), (show kitB "tuple" "tuple" = some true by decide +kernel), rfl⟩
    | _ => cases n <;> cases h
  intro n
  induction n with
  | zero =>
    refine F.ok scFrozen (fun vs H Q E h => ?_) (fun cdv A outer s H vs Q E hr h => ?_)
    · obtain ⟨B, ds, d, b, hv, ⟨x, rfl, _⟩, _⟩ := h
      exact DpAll.len hv
    · obtain ⟨B, ds, d, b, hv, ⟨x, rfl, ho, hd⟩, q⟩ := h
      rw [hd] at q
      obtain ⟨v, rfl, h1⟩ := one hv
      obtain ⟨c1, c2, k1, k2, k3⟩ := isi x ⟨_, ho⟩
      refine ⟨_, (pss_cons (ps_if (pt_val (pe_callB (xIsiT K) (by rfl) Ti (by decide +kernel) (pa_cons (pv 0) (pa_cons (pe_tup (pa_cons (pe_bltn (v := .ty "list") (u := .type "list") (by rfl) T.list (by decide +kernel) (by rfl)) (pa_cons (pe_bltn (v := .ty "tuple") (u := .type "tuple") (by rfl) T.tuple (by decide +kernel) (by rfl)) pa_nil))) pa_nil)))) (pss_one ps_never) pss_nil) (pss_one (ps_ret (pv 0)))), ?_⟩
      have hx : x = fz 0 x := by cases x <;> rfl
      have z : (c1 || c2) = false := by
        rw [k3]
        cases x with
        | list _ => cases ho
        | tuple _ => cases ho
        | _ => rfl
      refine g_if1 (c := false) (et_ofB (ed_is (ed_isi2 (ed_var rfl h1) k1 k2) (by rw [z]))) b (fun z => nomatch z) fun _ H2 e2 => ?_
      exact g_ret (ed_var rfl h1) (b.trans e2) fun v H3 e3 hv => q v H3 (e2.trans e3) (by rw [← hx]; exact dp_up hv (sub_step e2))
  | succ n ih =>
    refine F.ok scFrozen (fun vs H Q E h => ?_) (fun cdv A outer s H vs Q E hr h => ?_)
    · obtain ⟨B, ds, d, b, hv, ⟨x, rfl, _⟩, _⟩ := h
      exact DpAll.len hv
    · obtain ⟨B, ds, d, b, hv, ⟨x, rfl, ho, hd⟩, q⟩ := h
      rw [hd] at q
      obtain ⟨v, rfl, h1⟩ := one hv
      obtain ⟨c1, c2, k1, k2, k3⟩ := isi x ⟨_, ho⟩
      have Cfrozen : Cal P w K mg base (n + 1) "frozen" ["value"] (spD K (fzP n)) f fd := ⟨m, kp, bd, ih⟩
      refine ⟨_, (pss_cons (ps_if (pt_val (pe_callB (xIsiT K) (by rfl) Ti (by decide +kernel) (pa_cons (pv 0) (pa_cons (pe_tup (pa_cons (pe_bltn (v := .ty "list") (u := .type "list") (by rfl) T.list (by decide +kernel) (by rfl)) (pa_cons (pe_bltn (v := .ty "tuple") (u := .type "tuple") (by rfl) T.tuple (by decide +kernel) (by rfl)) pa_nil))) pa_nil)))) (pss_one (ps_ret (pe_callTy (xTuple K) (by rfl) T.tuple (by decide +kernel) (pa_cons (pe_lc (own := [("item", 1)]) rfl scFrozen.nd (xSeq K (pv 0)) (blkOk_by (N := NFrozen) (sc := defScope sFrozen) (by decide +kernel)) (fun _ _ _ _ _ => (pg_name (i := 1) scFrozen.nd rfl (by first | exact .inl rfl | exact .inr rfl))) (fun _ _ _ _ _ => pts_nil) (fun _ _ _ _ _ => (pe_call Cfrozen.G hr (by rfl) Cfrozen.m Cfrozen.kp Cfrozen.b .nil pass0 (pa_cons (pv 1) pa_nil)))) pa_nil)))) pss_nil) (pss_one (ps_ret (pv 0)))), ?_⟩
      refine g_if1 (c := c1 || c2) (et_ofB (ed_isi2 (ed_var rfl h1) k1 k2)) b (fun hc H2 e2 => ?_) fun hc H2 e2 => ?_
      · have sq : ∃ ds, Sq x ds ∧ ds.length < 1000 ∧ (∀ d ∈ ds, fzOk n d = true) ∧ fz (n + 1) x = .tuple (ds.map (fz n)) := by
          rw [hc] at k3
          cases x with
          | list ds => exact ⟨ds, .inl rfl, by simpa [fzOk] using (Bool.and_eq_true_iff.mp ho).1, by simpa [fzOk] using (Bool.and_eq_true_iff.mp ho).2, rfl⟩
          | tuple ds => exact ⟨ds, .inr rfl, by simpa [fzOk] using (Bool.and_eq_true_iff.mp ho).1, by simpa [fzOk] using (Bool.and_eq_true_iff.mp ho).2, rfl⟩
          | _ => cases k3
        obtain ⟨es, sq, few, okd, e0⟩ := sq
        rw [e0] at q
        refine g_ret (ed_cb (ea_consD (ed_is (ed_lc (P := P1 K _ _ 1) (fun _ => true) (fz n) (ed_var rfl h1) sq (by omega) (tg_name fun _ => rfl) (fun _ _ _ _ _ _ => fun H1 e Q q => q H1 (Ex.refl H1)) (fun d md _ σ2 B1 e ⟨u, hs, hd⟩ => ?_) p1_up) (by rw [List.filter_eq_self.mpr fun _ _ => rfl])) ea_nilD) (rc_tuple (.inl rfl))) (b.trans e2) fun v H3 e3 hv => q v H3 (e2.trans e3) (dp_up hv (sub_step e2))
        subst hs
        exact ed_call0 (ea_consD (ed_var rfl hd) ea_nilD) (sp_d ⟨d, rfl, okd d md, rfl⟩)
      · have e0 : fz (n + 1) x = x := by
          rw [hc] at k3
          cases x with
          | list ds => cases k3
          | tuple ds => cases k3
          | _ => rfl
        rw [e0] at q
        exact g_ret (ed_var rfl h1) (b.trans e2) fun v H3 e3 hv => q v H3 (e2.trans e3) (dp_up hv (sub_step e2))
end
end S5

set_option Elab.async false
set_option linter.all false
set_option maxRecDepth 100000
namespace S5
open PySem PySem.Spec PyProof.Rows L2 Evl ZE ZS StX ZD
section
variable {P : Program} {w : World} {K : PySem.W.Frag} {mg : Str → Option Value} {base : Heap} {aI : Addr}
/-! ### Keys -/
structure Kc (K : PySem.W.Frag) (C : Addr) : Prop where
  cl : Cls K C
  n1 : NoAttr K C "_names"
  n2 : NoAttr K C "_pairs"
  n3 : NoAttr K C "_told"
  n4 : NoAttr K C "_keysets"
def tellF (ps : List (Str × Str)) (x : Str) : PyData := tp (toldF ps x)
/-- an object of Keys at p: these names, these pairs -/
structure Ky (K : PySem.W.Frag) (C : Addr) (B : Hp) (p : Addr) (xs : List Str) (ps : List (Str × Str)) : Prop where
  ex : ∃ dx fs vn vp dt kvs vk, B p = some (.ins C dx fs) ∧ fs.lookup ("_names" : Str) = some vn ∧ fs.lookup ("_pairs" : Str) = some vp ∧ fs.lookup ("_told" : Str) = some (V.ref dt) ∧ fs.lookup ("_keysets" : Str) = some vk ∧ (∀ m : Str, m ≠ "_names" → m ≠ "_pairs" → m ≠ "_told" → m ≠ "_keysets" → fs.lookup m = none) ∧
    Dp K B vn (tp xs) ∧ Dp K B vp (.tuple (ps.map pr)) ∧ B dt = some (.dK kvs) ∧ TdR K B kvs (mapF (tellF ps) xs) ∧ Dp K B vk (.tuple ((keysetsF xs ps).map tp))
theorem Ky.up {C : Addr} {B B2 : Hp} {p : Addr} {xs : List Str} {ps : List (Str × Str)} (h : Ky K C B p xs ps) (e : Ex B B2) : Ky K C B2 p xs ps := by
  obtain ⟨dx, fs, vn, vp, dt, kvs, vk, h1, l1, l2, l3, l4, l5, d1, d2, h2, t, d3⟩ := h.ex
  exact ⟨dx, fs, vn, vp, dt, kvs, vk, e p _ h1, l1, l2, l3, l4, l5, dp_up d1 e, dp_up d2 e, e dt _ h2, t.up e, dp_up d3 e⟩
/-- its pairs, from names and tellings -/
def pairsOf (xs : List Str) (ts : List (Str × Str)) : List (Str × Str) := pairsF xs (fwR xs (memR ts))
def spInit (K : PySem.W.Frag) (C : Addr) : Sp := fun vs H Q _ => ∃ (H0 B : Hp) (p dx : Addr) (v1 v2 : V) (A Tt : PyData) (ns : List Str) (ts : List (Str × Str)), vs = [.ref p, v1, v2] ∧ H p = some (.ins C dx []) ∧ H0 p = none ∧ Ex H0 H ∧ Ex B H0 ∧ Dp K B v1 A ∧ Sq A (ns.map .str) ∧ Oks ns ∧ ns.length < 64 ∧ (ZO.can ZO.sLt ns).length ≤ 5 ∧
  Dp K B v2 Tt ∧ fzOk 2 Tt = true ∧ fz 2 Tt = .tuple (ts.map pr) ∧ Book (ZO.can ZO.sLt ns) ts ∧ ∀ H2, Ex H0 H2 → Ky K C (sub H2 H0 B) p (ZO.can ZO.sLt ns) (pairsOf (ZO.can ZO.sLt ns) ts) → Q .non H2
/-- a def that may have defaults -/
structure FunV (K : PySem.W.Frag) (x qual : Str) (st : Stmt) (f : Addr) (fd : FuncData) : Prop where
  ex : ∃ (oc : Value) (od : Option Addr) (dV kV doc pm : Value) (an : Option Addr) (cdv ct : Value) (osl : Array (Option Value)),
    fd = PySem.W.fnOf x qual (defArgs st) (defBody st) (defScope st) dV kV doc pm an cdv ct ∧ K.lookup f = some ⟨oc, od, .func fd, osl⟩ ∧ PySem.W.codeIn K cdv qual = true
theorem FunV.ok {x qual : Str} {st : Stmt} {f : Addr} {fd : FuncData} {N ps : List Str} {k : Nat} {sp : Sp} (F : FunV K x qual st f fd) (S : FnScope N ps (defScope st)) (len : ∀ vs H Q E, sp vs H Q E → vs.length = ps.length)
    (body : ∀ (cdv : Value) (A : Around) (outer : List Env) (s : Shared) (H : Hp) (vs : List V) (Q : VK) (E : XK), Room k (A.deeper (envOfC qual (defScope st) s.heap.objs.size f cdv)) → sp vs H Q E →
      ∃ t, PSs (cxOf CX0 P w K mg base N qual (defScope st) f cdv A outer s H E).nox (defBody st) t ∧ t { nx := fun _ H' => Q .non H', rt := Q } (start N vs) H) : FnOk P w K mg base CX0 (k + 1) f fd ps sp := by
  obtain ⟨oc, od, dV, kV, doc, pm, an, cdv, ct, osl, rfl, lk, hcd⟩ := F.ex
  refine fn_of lk hcd S len fun A outer s H vs Q E hr hsp => ?_
  obtain ⟨t, h, q⟩ := body cdv A outer s H vs Q E hr hsp
  exact ⟨t, h.nox, q⟩
theorem pairs_mem {xs : List Str} {R : Rel} {p : Str × Str} (h : p ∈ pairsF xs R) : p.1 ∈ xs ∧ p.2 ∈ xs ∧ R p.1 p.2 = true := by
  obtain ⟨a, ma, h⟩ := List.mem_flatMap.mp h
  obtain ⟨b, mb, rfl⟩ := List.mem_map.mp h
  exact ⟨ma, (List.mem_filter.mp mb).1, (List.mem_filter.mp mb).2⟩
theorem pairs_len (xs : List Str) (R : Rel) : (pairsF xs R).length ≤ xs.length * xs.length := by
  have z : ∀ l : List Str, (l.flatMap fun a => (xs.filter fun b => R a b).map fun b => (a, b)).length ≤ l.length * xs.length := by
    intro l
    induction l with
    | nil => simp
    | cons a l ih =>
      rw [List.flatMap_cons, List.length_append, List.length_map, List.length_cons, Nat.succ_mul]
      have := List.length_filter_le (fun b => R a b) xs
      omega
  exact z xs
theorem pairs_prs {xs : List Str} {R : Rel} (ox : Oks xs) (few : xs.length ≤ 5) : Prs (.tuple ((pairsF xs R).map pr)) (pairsF xs R) :=
  ⟨.inr rfl, fun p m => ⟨ox _ (pairs_mem m).1, ox _ (pairs_mem m).2.1⟩, Nat.le_trans (pairs_len xs R) (Nat.le_trans (Nat.mul_le_mul few few) (by decide))⟩
abbrev sKeysInit : Stmt := (inClass (top 23) 0)
abbrev NKeysInit : List Str := ["self", "names", "tells", "name"]
theorem scKeysInit : FnScope NKeysInit ["self", "names", "tells"] (defScope sKeysInit) := ⟨rfl, rfl, rfl, by decide +kernel, rfl, by decide +kernel, by decide +kernel⟩
theorem ok_init {f fp fk ft ff C : Addr} {fd fdp fdk fdt fdf : FuncData} (F : FunV K "__init__" "Keys.__init__" sKeysInit f fd) (T : Tx K mg aI) (Tc : Kc K C) (Call_pairs : Cal P w K mg base 4 "all_pairs" ["names", "tells"] (spD K apP) fp fdp) (Call_keysets : Cal P w K mg base 2 "all_keysets" ["names", "pairs"] (spD K akP) fk fdk)
    (Call_told : Cal P w K mg base 1 "all_told" ["pairs", "name"] (spD K atP) ft fdt) (Cfrozen : Cal P w K mg base 3 "frozen" ["value"] (spD K (fzP 2)) ff fdf) : FnOk P w K mg base CX0 5 f fd ["self", "names", "tells"] (spInit K C) := by
  refine F.ok scKeysInit (fun vs H Q E h => ?_) (fun cdv A outer s H vs Q E hr h => ?_)
  · obtain ⟨_, _, _, _, _, _, _, _, _, _, rfl, _⟩ := h
    rfl
  · obtain ⟨H0, B, p, dx, v1, v2, D1, Tt, ns, ts, rfl, hp, hp0, e0, b0, h1, sx, ox, ln, lc, h2, okt, et, bk, q⟩ := h
    refine ⟨_, (pss_cons (ps_fld (pv 0) (pe_callTy (xTuple K) (by rfl) T.tuple (by decide +kernel) (pa_cons (pe_callB (xSortSS w rfl) (by rfl) T.sorted (by decide +kernel) (pa_cons (pe_callTy (xSetS K w rfl hr.units) (by rfl) T.set (by decide +kernel) (pa_cons (pv 1) pa_nil)) pa_nil)) pa_nil)) rfl) (pss_cons (ps_fld (pv 0) (pe_call Call_pairs.G (hr.mono (by decide)) (by rfl) Call_pairs.m Call_pairs.kp Call_pairs.b .nil pass0 (pa_cons (xFld K (pv 0) rfl) (pa_cons (pe_call Cfrozen.G (hr.mono (by decide)) (by rfl) Cfrozen.m Cfrozen.kp Cfrozen.b .nil pass0 (pa_cons (pv 2) pa_nil)) pa_nil))) rfl) (pss_cons (ps_fld (pv 0) (pe_dc (own := [("name", 3)]) rfl scKeysInit.nd (xSeq K (xFld K (pv 0) rfl)) (blkOk_by (N := NKeysInit) (sc := defScope sKeysInit) (by decide +kernel)) (fun _ _ _ _ _ => (pg_name (i := 3) scKeysInit.nd rfl (by first | exact .inl rfl | exact .inr rfl))) (fun _ _ _ _ _ => pts_nil) (fun _ _ _ _ _ => (pv 3)) (fun _ _ _ _ _ => (pe_call Call_told.G (hr.mono (by decide)) (by rfl) Call_told.m Call_told.kp Call_told.b .nil pass0 (pa_cons (xFld K (pv 0) rfl) (pa_cons (pv 3) pa_nil))))) rfl) (pss_one (ps_fld (pv 0) (pe_call Call_keysets.G (hr.mono (by decide)) (by rfl) Call_keysets.m Call_keysets.kp Call_keysets.b .nil pass0 (pa_cons (xFld K (pv 0) rfl) (pa_cons (xFld K (pv 0) rfl) pa_nil))) rfl))))), ?_⟩
    have ba : Ex B H := b0.trans e0
    have a0 : At H0 B H0 B H := (At.start b0 (Ex.refl H0)).grow e0
    have bp : B p = none := fresh_back b0 hp0
    have okX : Oks (ZO.can ZO.sLt ns) := fun x m => ox x (ZO.mem_can.mp m)
    generalize hX : ZO.can ZO.sLt ns = xs at lc bk q okX
    -- self._names
    refine g_fld (d := tp xs) (ed_is (ed_cb (ea_consD (ed_sortSet (ed_var rfl h1) sx ln) ea_nilD) (rc_tuple (.inl rfl))) (by rw [hX]; rfl)) ba rfl hp Tc.cl Tc.n1 (by decide) fun vn H1 e1 dn => ?_
    have n1 : sub H1 H B p = none := sub_none e1 (by rw [hp]; rfl) bp
    have a1 := (a0.next e1).mut (o := .ins C dx (putF "_names" vn [])) n1 hp0 (isSome_up e1 (by rw [hp]; rfl))
    have u1 : Ex B (sub H1 H B) := le_sub ba e1
    generalize sub H1 H B = B1 at n1 a1 u1 dn
    generalize hf1 : putF "_names" vn [] = fs1 at a1 ⊢
    generalize hG1 : upd H1 p (.ins C dx fs1) = G1 at a1 ⊢
    have p1 : G1 p = some (.ins C dx fs1) := by rw [← hG1]; exact upd_same
    have l11 : fs1.lookup ("_names" : Str) = some vn := by rw [← hf1, lookup_putF, if_pos rfl]
    -- self._pairs
    have c1 := a1.hold n1 hp0 p1
    generalize hY : pairsOf xs ts = ys at q
    refine g_fld (d := .tuple (ys.map pr)) (ed_is (ed_call0 (ea_consD (ed_fld rfl upd_same Tc.cl Tc.n1 l11 (dp_up dn c1.2)) (ea_consD (ed_call0 (ea_consD (ed_var rfl (dp_up h2 (u1.trans c1.2))) ea_nilD) (sp_d ⟨Tt, rfl, okt, rfl⟩)) ea_nilD)) (sp_d ⟨_, _, xs, ts, rfl, .inr rfl, .inr et, bk, rfl⟩)) (by rw [← hY]; rfl)) c1.1.b rfl p1 Tc.cl Tc.n2 (by rw [← hf1]; exact Nat.lt_of_le_of_lt (putF_le _ _ _) (by show 0 + 1 < 1000; decide)) fun vp H2 e2 dp => ?_
    have dp' := dp_less dp (fun z => z) e2 p1
    have n2 : sub H2 G1 B1 p = none := sub_none e2 (by rw [p1]; rfl) n1
    have a2 := (a1.next e2).mut (o := .ins C dx (putF "_pairs" vp fs1)) n2 hp0 (isSome_up e2 (by rw [p1]; rfl))
    have u2 : Ex B1 (sub H2 G1 B1) := le_sub a1.b e2
    clear dp
    generalize sub H2 G1 B1 = B2 at n2 a2 u2 dp'
    generalize hf2 : putF "_pairs" vp fs1 = fs2 at a2 ⊢
    generalize hG2 : upd H2 p (.ins C dx fs2) = G2 at a2 ⊢
    have p2 : G2 p = some (.ins C dx fs2) := by rw [← hG2]; exact upd_same
    have l21 : fs2.lookup ("_names" : Str) = some vn := by rw [← hf2, lookup_putF, if_neg (by decide +kernel)]; exact l11
    have l22 : fs2.lookup ("_pairs" : Str) = some vp := by rw [← hf2, lookup_putF, if_pos rfl]
    have len2 : fs2.length ≤ 2 := by rw [← hf2, ← hf1]; exact Nat.le_trans (putF_le _ _ _) (Nat.succ_le_succ (putF_le _ _ _))
    -- self._told
    have c2 := a2.hold n2 hp0 p2
    have prsY : Prs (.tuple (ys.map pr)) ys := by rw [← hY]; exact pairs_prs okX lc
    refine s_fldDc (B := upd B2 p (.ins C dx fs2)) (xs := xs) (tellF ys) c2.1.b (ed_fld rfl upd_same Tc.cl Tc.n1 l21 (dp_up (dp_up dn u2) c2.2)) (.inr rfl) (by omega) (by show 3 < 4; decide) (fun _ => rfl) (fun x m B3 e3 => ed_call0 (ea_consD (ed_fld rfl (e3 p _ upd_same) Tc.cl Tc.n2 l22 (dp_up dp' (c2.2.trans e3))) (ea_consD (ed_var rfl (.str x)) ea_nilD)) (sp_d ⟨_, ys, x, rfl, prsY, okX x m, rfl⟩)) rfl p2 Tc.cl Tc.n3 (by omega) fun t H3 B3 ht e3 bb bh bs md => ?_
    obtain ⟨kvs, hk1, hk2, _, hk4⟩ := md
    have a3 := c2.1.mid e3 bb bs
    have t0 : H0 t = none := a2.fresh ht
    have d3 := a3.hold hk2 t0 hk1
    have tp_ : t ≠ p := fun z => by rw [z, p2] at ht; cases ht
    have bp3 : upd B3 t (.dK kvs) p = some (.ins C dx fs2) := d3.2 p _ (bb p _ upd_same)
    have kp := del_keep bp3
    have n3 : ZE.del (upd B3 t (.dK kvs)) p p = none := del_at
    have u3 : Ex B2 (ZE.del (upd B3 t (.dK kvs)) p) := le_del ((c2.2.trans bb).trans d3.2) n2
    have a4 := (d3.1.less del_le ((u1.trans u2).trans u3)).mut (o := .ins C dx (putF "_told" (.ref t) fs2)) n3 hp0 (isSome_up e3 (by rw [p2]; rfl))
    have t4 : ZE.del (upd B3 t (.dK kvs)) p t = some (.dK kvs) := by rw [ZE.del_ne tp_]; exact upd_same
    have k4 : TdR K (ZE.del (upd B3 t (.dK kvs)) p) kvs (mapF (tellF ys) xs) := (hk4.up d3.2).keep kp
    generalize ZE.del (upd B3 t (.dK kvs)) p = B4 at n3 u3 a4 t4 k4
    generalize hf3 : putF "_told" (V.ref t) fs2 = fs3 at a4 ⊢
    generalize hG3 : upd H3 p (.ins C dx fs3) = G3 at a4 ⊢
    have p3 : G3 p = some (.ins C dx fs3) := by rw [← hG3]; exact upd_same
    have l31 : fs3.lookup ("_names" : Str) = some vn := by rw [← hf3, lookup_putF, if_neg (by decide +kernel)]; exact l21
    have l32 : fs3.lookup ("_pairs" : Str) = some vp := by rw [← hf3, lookup_putF, if_neg (by decide +kernel)]; exact l22
    have l33 : fs3.lookup ("_told" : Str) = some (V.ref t) := by rw [← hf3, lookup_putF, if_pos rfl]
    have len3 : fs3.length ≤ 3 := by rw [← hf3]; exact Nat.le_trans (putF_le _ _ _) (Nat.succ_le_succ len2)
    -- self._keysets
    have c4 := a4.hold n3 hp0 p3
    have u4 := c4.2
    refine g_fld1 (d := .tuple ((keysetsF xs ys).map tp)) (ed_call0 (ea_consD (ed_fld rfl upd_same Tc.cl Tc.n1 l31 (dp_up dn ((u2.trans u3).trans u4))) (ea_consD (ed_fld rfl upd_same Tc.cl Tc.n2 l32 (dp_up dp' (u3.trans u4))) ea_nilD)) (sp_d ⟨_, _, xs, ys, rfl, .inr rfl, okX, lc, prsY, rfl⟩)) c4.1.b rfl p3 Tc.cl Tc.n4 (by omega) fun vk H5 e5 dk => ?_
    have dk' := dp_less dk (fun z => z) e5 p3
    have n5 : sub H5 G3 B4 p = none := sub_none e5 (by rw [p3]; rfl) n3
    have a5 := (a4.next e5).mut (o := .ins C dx (putF "_keysets" vk fs3)) n5 hp0 (isSome_up e5 (by rw [p3]; rfl))
    have u5 : Ex B4 (sub H5 G3 B4) := le_sub a4.b e5
    have w5 := a5.base
    refine q _ a5.ex ⟨dx, putF "_keysets" vk fs3, vn, vp, t, kvs, vk, ?_, ?_, ?_, ?_, ?_, fun m m1 m2 m3 m4 => ?_, dp_up dn (((u2.trans u3).trans u5).trans w5), dp_up dp' ((u3.trans u5).trans w5), w5 t _ (u5 t _ t4), k4.up (u5.trans w5), dp_up dk' w5⟩
    · rw [sub_yes fun z => by rw [hp0] at z; exact Bool.false_ne_true z.1]
      exact upd_same
    · rw [lookup_putF, if_neg (by decide +kernel)]; exact l31
    · rw [lookup_putF, if_neg (by decide +kernel)]; exact l32
    · rw [lookup_putF, if_neg (by decide +kernel)]; exact l33
    · rw [lookup_putF, if_pos rfl]
    · rw [lookup_putF, if_neg m4, ← hf3, lookup_putF, if_neg m3, ← hf2, lookup_putF, if_neg m2, ← hf1, lookup_putF, if_neg m1]
      rfl
end
end S5

set_option Elab.async false
set_option linter.all false
set_option maxRecDepth 100000
namespace S5
open PySem PySem.Spec PyProof.Rows L2 Evl ZE ZS StX ZD ZT
section
variable {P : Program} {w : World} {K : PySem.W.Frag} {mg : Str → Option Value} {base : Heap} {aI : Addr}
/-- a def whose first argument is a Keys -/
def spM (K : PySem.W.Frag) (C : Addr) (Pm : List Str → List (Str × Str) → List PyData → PyData → Prop) : Sp := fun vs H Q _ => ∃ B p ws xs ps ds d, vs = V.ref p :: ws ∧ Ex B H ∧ Ky K C B p xs ps ∧ DpAll K B ws ds ∧ Pm xs ps ds d ∧ ∀ v H2, Ex H H2 → Dp K (sub H2 H B) v d → Q v H2
structure KyOk (xs : List Str) (ps : List (Str × Str)) : Prop where
  ok : Oks xs
  few : xs.length ≤ 5
  prs : Prs (.tuple (ps.map pr)) ps
section
variable {σ : L2.St} {B : Hp} {i : Nat} {p C : Addr} {xs : List Str} {ps : List (Str × Str)} {ds : List PyData} {d : PyData} {Pm : List Str → List (Str × Str) → List PyData → PyData → Prop} {E : XK} {tas : TA}
theorem ed_methK {m : Str} (hi : σ[i]? = some (some (V.ref p))) (ky : Ky K C B p xs ps) (h : EvDA K tas σ B ds) (hp : Pm xs ps ds d) (m1 : m ≠ "_names" := by decide +kernel) (m2 : m ≠ "_pairs" := by decide +kernel) (m3 : m ≠ "_told" := by decide +kernel) (m4 : m ≠ "_keysets" := by decide +kernel) :
    EvD K (tMeth C m (spM K C Pm) [] E (tVar i) tas) σ B d := fun H1 b Q q => by
  obtain ⟨dx, fs, vn, vp, dt, kvs, vk, h1, l1, l2, l3, l4, l5, _⟩ := ky.ex
  refine ⟨.ref p, hi, p, dx, fs, rfl, b p _ h1, l5 m m1 m2 m3 m4, h H1 b _ fun vs H2 e2 hv => ?_⟩
  exact ⟨sub H2 H1 B, p, vs ++ [], xs, ps, ds, d, rfl, sub_le, ky.up (le_sub b e2), by rw [List.append_nil]; exact hv, hp, fun v H3 e3 hd => q v H3 (e2.trans e3) (dp_up hd (later e2))⟩
theorem ed_propK (hi : σ[i]? = some (some (V.ref p))) (ky : Ky K C B p xs ps) (hp : Pm xs ps [] d) : EvD K (tProp C (spM K C Pm) [] E (tVar i)) σ B d := fun H1 b Q q => by
  obtain ⟨dx, fs, vn, vp, dt, kvs, vk, h1, _⟩ := ky.ex
  exact ⟨.ref p, hi, p, dx, fs, rfl, b p _ h1, B, p, [], xs, ps, [], d, rfl, b, ky, .nil, hp, q⟩
theorem ed_callK (hi : σ[i]? = some (some (V.ref p))) (ky : Ky K C B p xs ps) (h : EvDA K tas σ B ds) (hp : Pm xs ps ds d) : EvD K (tCall (spM K C Pm) [] E (tCons (tVar i) tas)) σ B d := fun H1 b Q q =>
  ⟨.ref p, hi, h H1 b _ fun vs H2 e2 hv => ⟨sub H2 H1 B, p, vs ++ [], xs, ps, ds, d, rfl, sub_le, ky.up (le_sub b e2), by rw [List.append_nil]; exact hv, hp, fun v H3 e3 hd => q v H3 (e2.trans e3) (dp_up hd (later e2))⟩⟩
/-- self._names, self._pairs, self._keysets, self._told[x] -/
theorem ed_names (Tc : Kc K C) (hi : σ[i]? = some (some (V.ref p))) (ky : Ky K C B p xs ps) : EvD K (tFld K (tVar i) "_names") σ B (tp xs) := by
  obtain ⟨dx, fs, vn, vp, dt, kvs, vk, h1, l1, l2, l3, l4, l5, d1, d2, h2, t, d3⟩ := ky.ex
  exact ed_fld hi h1 Tc.cl Tc.n1 l1 d1
theorem ed_keysets (Tc : Kc K C) (hi : σ[i]? = some (some (V.ref p))) (ky : Ky K C B p xs ps) : EvD K (tFld K (tVar i) "_keysets") σ B (.tuple ((keysetsF xs ps).map tp)) := by
  obtain ⟨dx, fs, vn, vp, dt, kvs, vk, h1, l1, l2, l3, l4, l5, d1, d2, h2, t, d3⟩ := ky.ex
  exact ed_fld hi h1 Tc.cl Tc.n4 l4 d3
theorem ed_told {j : Nat} {x : Str} (Tc : Kc K C) (hi : σ[i]? = some (some (V.ref p))) (hj : σ[j]? = some (some (V.str x))) (ky : Ky K C B p xs ps) (hx : x ∈ xs) : EvD K (tDGet (tFld K (tVar i) "_told") (tVar j)) σ B (tp (toldF ps x)) := fun H1 b Q q => by
  obtain ⟨dx, fs, vn, vp, dt, kvs, vk, h1, l1, l2, l3, l4, l5, d1, d2, h2, t, d3⟩ := ky.ex
  obtain ⟨v, hv, dv⟩ := t.at (x := x) (d := tellF ps x) (if_pos hx)
  exact ⟨.ref p, hi, p, C, dx, fs, .ref dt, rfl, b p _ h1, Tc.cl, Tc.n3, l3, .str x, hj, dt, v, rfl, by rw [← hv]; exact DGet.k (k := Sum.inr x) (b dt _ h2), q v H1 (Ex.refl H1) (dp_up dv (le_sub b (Ex.refl H1)))⟩
end
/-! ### keysets, tells -/
def ksP (xs : List Str) (ps : List (Str × Str)) (ds : List PyData) (d : PyData) : Prop := ds = [] ∧ d = .tuple ((keysetsF xs ps).map tp)
theorem told_ok {xs : List Str} {ps : List (Str × Str)} (ok : KyOk xs ps) (x : Str) : Oks (toldF ps x) := fun y m => by
  obtain ⟨p, mp, rfl⟩ := List.mem_map.mp m
  exact (ok.prs.2.1 p (List.mem_filter.mp mp).1).2
/-! ### closed -/
def reachF (ps : List (Str × Str)) (ns : List Str) : List Str := ns.flatMap fun n => n :: toldF ps n
def closeF (xs : List Str) (ps : List (Str × Str)) (ns : List Str) : List Str := if ("#" : Str) ∈ ns then ["#"] else xs.filter fun x => decide (x ∈ reachF ps ns)
/-- as Bag, longer -/
def Bag6 (D : PyData) (xs : List Str) : Prop := Sq D (xs.map .str) ∧ Oks xs ∧ xs.length ≤ 60
def spClo (K : PySem.W.Frag) (C Cn : Addr) : Sp := fun vs H Q E => ∃ B p v xs ps A ns, vs = [V.ref p, v] ∧ Ex B H ∧ Ky K C B p xs ps ∧ Dp K B v A ∧ KyOk xs ps ∧ Bag6 A ns ∧
  (outF (xs ++ (["#"] : List Str)) ns = none → ∀ u H2, Ex H H2 → Dp K (sub H2 H B) u (tp (closeF xs ps ns)) → Q u H2) ∧ ∀ y, outF (xs ++ (["#"] : List Str)) ns = some y → Gone H Cn "name" (.str y) E
section
variable {σ : L2.St} {B H : Hp} {D : Ends} {u : TS} {tas : TA} {A C : PyData} {xs ys : List Str} {Cn : Addr} {E : XK}
theorem g_cn (h : EvDA K tas σ B [A, C]) (b : Ex B H) (sx : Sq A (xs.map .str)) (ox : Oks xs) (sy : Sq C (ys.map .str)) (oy : Oks ys) (q : outF xs ys = none → ∀ H2, Ex H H2 → u D σ H2) (qe : ∀ y, outF xs ys = some y → Gone H Cn "name" (.str y) E) :
    tSeq (tDrop (tCall (spCn K Cn) [] E tas)) u D σ H := h H b _ fun vs H1 e1 hv => ⟨sub H1 H B, A, C, xs, ys, sub_le, by rw [List.append_nil]; exact hv, sx, ox, sy, oy, fun hn H2 e2 => q hn H2 (e1.trans e2), fun y hy d H2 e2 hd hx => qe y hy d H2 (e1.trans e2) (fresh_back e1 hd) hx⟩
end
theorem told_len {xs : List Str} {ps : List (Str × Str)} (ok : KyOk xs ps) (x : Str) : (toldF ps x).length ≤ 100 := by
  unfold toldF
  rw [List.length_map]
  exact Nat.le_trans (List.length_filter_le _ _) ok.prs.2.2
abbrev sKeysClosed : Stmt := (inClass (top 23) 10)
abbrev NKeysClosed : List Str := ["self", "names", "reached", "name", "other"]
theorem scKeysClosed : FnScope NKeysClosed ["self", "names"] (defScope sKeysClosed) := ⟨rfl, rfl, rfl, by decide +kernel, rfl, by decide +kernel, by decide +kernel⟩
theorem ok_closed {f C fc Cn : Addr} {fd fdc : FuncData} (F : Fun K "closed" "Keys.closed" sKeysClosed f fd) (T : Tx K mg aI) (Tc : Kc K C) (Ccheck_names : CalX P w K mg base 3 "check_names" ["names", "asked"] (spCn K Cn) fc fdc) : FnOk P w K mg base (L2.CX P w) 4 f fd ["self", "names"] (spClo K C Cn) := by
  refine F.okX scKeysClosed (fun vs H Q E h => ?_) (fun cdv A outer s H vs Q E hr h => ?_)
  · obtain ⟨B, p, v, xs, ps, A, ns, rfl, _⟩ := h
    rfl
  · obtain ⟨B, p, v1, xs, ps, D1, ns, rfl, b, ky, h1, ok, ⟨sn, on, ln⟩, q, qe⟩ := h
    refine ⟨_, (pss_cons (ps_expr (pe_call Ccheck_names.G (hr.mono (by decide)) (by rfl) Ccheck_names.m Ccheck_names.kp Ccheck_names.b .nil (passes_call (E := E) (takes_of rfl rfl rfl rfl) (fun _ _ _ _ h => h)) (pa_cons (pe_tup (xStar K (xFld K (pv 0) rfl) (pa_cons pe_str pa_nil))) (pa_cons (pv 1) pa_nil)))) (pss_cons (ps_if (pt_cmpR (xIn K (u65 hr)) pe_str (pv 1) (by rfl)) (pss_one (ps_ret (pe_glob (v := .ref aI) rfl T.mgITSELF (by rfl)))) pss_nil) (pss_cons (ps_set (i := 2) scKeysClosed.nd rfl (by first | exact .inl rfl | exact .inr rfl) pe_dnewK) (pss_cons (ps_for (passes_of rfl) rfl (xSeq K (pv 1)) (pg_name (i := 3) scKeysClosed.nd rfl (by first | exact .inl rfl | exact .inr rfl)) (pss_one (ps_for (passes_of rfl) rfl (xSeq K (pe_tup (pa_cons (pv 3) (xStar K (pe_dget (hu_of hr) (xFld K (pv 0) rfl) (pv 3) (fun _ _ => rfl)) pa_nil)))) (pg_name (i := 4) scKeysClosed.nd rfl (by first | exact .inl rfl | exact .inr rfl)) (pss_one (ps_dput (hu_of hr) (pv 2) (pv 4) pe_bl rfl))))) (pss_one (ps_ret (pe_callTy (xTuple K) (by rfl) T.tuple (by decide +kernel) (pa_cons (pe_lc (own := [("name", 3)]) rfl scKeysClosed.nd (xSeq K (xFld K (pv 0) rfl)) (blkOk_by (N := NKeysClosed) (sc := defScope sKeysClosed) (by decide +kernel)) (fun _ _ _ _ _ => (pg_name (i := 3) scKeysClosed.nd rfl (by first | exact .inl rfl | exact .inr rfl))) (fun _ _ _ _ _ => pts_one (pt_cmp (pc_din (hu_of hr) (pv 3) (pv 2)))) (fun _ _ _ _ _ => (pv 3))) pa_nil)))))))), ?_⟩
    -- check_names((*self._names, '#'), names)
    refine g_cn (xs := xs ++ (["#"] : List Str)) (ys := ns) (ea_consD (ed_tup (ea_star (ed_names Tc rfl ky) (.inr rfl) (ea_consD (ed_str "#") ea_nilD)) ?_) (ea_consD (ed_var rfl h1) ea_nilD)) b (.inr ?_) (ok.ok.app oks_sharp) sn on (fun hn H2 e2 => ?_) qe
    · have := ok.few
      rw [List.length_append, List.length_map]
      show _ + 1 ≤ 100000
      omega
    · rw [List.map_append]
      rfl
    replace q := q hn
    have ins : ∀ n ∈ ns, n ∈ xs ∨ n = ("#" : Str) := fun n m => (List.mem_append.mp (out_none.mp hn n m)).imp id List.mem_singleton.mp
    have a2 := (At.start b (Ex.refl H)).grow e2
    have okS : PyData.strOk "#" = true := oks_sharp _ (List.Mem.head _)
    refine g_if1 (c := decide (("#" : Str) ∈ ns)) (et_of (ed_is (ed_op (ed_str "#") (ed_var rfl h1) (rv_in sn (str_shaped okS) (sq_shaped sn (tx_strs on 0) (by decide)))) (congrArg _ (any_str okS on)))) a2.b (fun hc H3 e3 => ?_) fun hc H3 e3 => ?_
    · have e0 : closeF xs ps ns = (["#"] : List Str) := if_pos (of_decide_eq_true hc)
      have a3 := a2.grow e3
      exact g_ret (ed_is (ed_c T.itself) (by rw [e0])) a3.b fun v H4 e4 hv => q v H4 (a3.ex.trans e4) (a3.out e4 hv)
    · have hc' := of_decide_eq_false hc
      have e0 : closeF xs ps ns = xs.filter fun x => decide (x ∈ reachF ps ns) := if_neg hc'
      rw [e0] at q
      have a3 := a2.grow e3
      intro r hr0
      have r0 : H r = none := a3.fresh hr0
      have rb : B r = none := fresh_back b r0
      have a4 := a3.new (o := .dK []) hr0
      refine for_sq (fun B2 i σ H' => (∃ o3 o4, σ = [some (.ref p), some v1, some (.ref r), o3, o4]) ∧ At H B H B2 H' ∧ Ex B B2 ∧ B2 r = none ∧ Rs H' r (reachF ps (ns.take i)) (i * 200)) (ed_var rfl h1) sn a4.b
        (fun H5 e5 => ⟨⟨_, _, rfl⟩, a4.next e5, le_sub a4.b e5, sub_none e5 (by rw [upd_same]; rfl) rb, [], e5 r _ upd_same, Nat.le_refl _, fun x => rfl⟩) (fun B2 i σ3 H3 p => p.2.1.b) (fun B2 i d x σ3 H5 hi hx ⟨⟨o3, o4, hσ⟩, p1, p2, p3, p4⟩ => ?_) (fun B2 σ3 H5 ⟨⟨o3, o4, hσ⟩, p1, p2, p3, p4⟩ => ?_)
      · subst hσ
        rw [List.getElem?_map] at hi
        obtain ⟨n, hn, rfl⟩ := Option.map_eq_some_iff.mp hi
        obtain rfl := p_str hx
        have mn := List.mem_of_getElem? hn
        have il : i < ns.length := (List.getElem?_eq_some_iff.mp hn).1
        have mx : n ∈ xs := (ins n mn).elim id fun z => absurd (z ▸ mn) hc'
        generalize hS : reachF ps (ns.take i) = S at p4
        have tl := told_len ok n
        refine for_sq (fun B3 j σ H' => (∃ o4, σ = [some (.ref p), some v1, some (.ref r), some (.str n), o4]) ∧ At H B H B3 H' ∧ Ex B2 B3 ∧ B3 r = none ∧ Rs H' r (S ++ (n :: toldF ps n).take j) (i * 200 + j)) (D0 := tp (n :: toldF ps n)) (ds := (n :: toldF ps n).map .str)
          (ed_is (ed_tup (ea_consD (ed_var rfl hx) (ea_star (ed_told Tc rfl rfl (ky.up p2) mx) (.inr rfl) ea_nilD)) ?_) ?_) (.inr rfl) p1.b
          (fun H6 e6 => ⟨⟨_, rfl⟩, p1.next e6, le_sub p1.b e6, sub_none e6 p4.some p3, by rw [List.take_zero, List.append_nil]; exact p4.up e6⟩) (fun B2 i σ3 H3 p => p.2.1.b) (fun B3 j d x σ3 H6 hj hx2 ⟨⟨o4, hσ⟩, q1, q2, q3, q4⟩ => ?_) (fun B3 σ3 H6 ⟨⟨o4, hσ⟩, q1, q2, q3, q4⟩ => ?_)
        · show ((toldF ps n).map PyData.str ++ []).length + 1 ≤ 100000
          rw [List.append_nil, List.length_map]
          omega
        · unfold tp
          rw [List.append_nil]
          rfl
        · subst hσ
          rw [List.getElem?_map] at hj
          obtain ⟨y, hy, rfl⟩ := Option.map_eq_some_iff.mp hj
          obtain rfl := p_str hx2
          have jl : j < (n :: toldF ps n).length := (List.getElem?_eq_some_iff.mp hy).1
          rw [List.length_cons] at jl
          refine s_reached rfl rfl q4 (by omega) fun H7 keep rs7 => ?_
          refine ⟨⟨_, rfl⟩, q1.chg q3 r0 keep rs7.some, q2, q3, ?_⟩
          rw [List.append_assoc] at rs7
          rw [List.take_succ, hy]
          exact rs7
        · rw [List.length_map, List.take_length, List.length_cons] at q4
          refine ⟨⟨_, _, hσ⟩, q1.less q2 p2, p2, p3, ?_⟩
          obtain ⟨kvs, k1, k2, k3⟩ := q4
          refine ⟨kvs, k1, by omega, ?_⟩
          rw [List.take_succ, hn]
          unfold reachF at hS ⊢
          rw [List.flatMap_append, hS]
          show ∀ x, _ = decide (x ∈ S ++ ([n].flatMap fun n => n :: toldF ps n))
          rw [List.flatMap_singleton]
          exact k3
      · subst hσ
        rw [List.length_map, List.take_length] at p4
        obtain ⟨kvs, k1, k2, k3⟩ := id p4
        have c5 := p1.hold p3 r0 k1
        have rB : Rs (upd B2 r (.dK kvs)) r (reachF ps ns) (ns.length * 200) := ⟨kvs, upd_same, k2, k3⟩
        refine g_ret (ed_is (ed_cb (ea_consD (ed_lcS (fun x => decide (x ∈ reachF ps ns)) .str (ed_names Tc rfl (ky.up (p2.trans c5.2))) (.inr rfl) (by have := ok.few; omega) (fun _ => rfl) (fun x m B1 e => et_reached rfl rfl (rB.up e)) fun x m _ B1 e => ed_var rfl (.str x)) ea_nilD) (rc_tuple (.inl rfl))) rfl) c5.1.b fun v H6 e6 hv => q v H6 (c5.1.ex.trans e6) (c5.1.out e6 hv)
end
end S5

set_option Elab.async false
set_option linter.all false
set_option maxRecDepth 100000
namespace S5
open PySem PySem.Spec PyProof.Rows L2 Evl ZE ZS StX ZD
section
variable {P : Program} {w : World} {K : PySem.W.Frag} {mg : Str → Option Value} {base : Heap} {aI : Addr}
/-- a property that can be read, a method that can be called -/
structure PrK (P : Program) (w : World) (K : PySem.W.Frag) (mg : Str → Option Value) (base : Heap) (C : Addr) (k : Nat) (nm : Str) (sp : Sp) (p g : Addr) (fd : FuncData) : Prop where
  po : PropOf K C nm p g
  G : FnOk P w K mg base CX0 k g fd ["self"] sp
  b : Binds K fd ["self"] []
structure MeK (P : Program) (w : World) (K : PySem.W.Frag) (mg : Str → Option Value) (base : Heap) (CX : CXT) (C : Addr) (k : Nat) (nm : Str) (ps : List Str) (sp : Sp) (f : Addr) (fd : FuncData) : Prop where
  m : Meth K C nm f
  G : FnOk P w K mg base CX k f fd ps sp
  b : Binds K fd ps []
theorem keysets_ok {xs : List Str} {ps : List (Str × Str)} (ok : KyOk xs ps) : ∀ z ∈ keysetsF xs ps, Oks z ∧ z.length ≤ 20 := fun z m => by
  rcases List.mem_append.mp m with m | m
  · have m1 := ZO.mem_can.mp (List.mem_mergeSort.mp (List.mem_filter.mp m).1)
    have l := parts_len xs [[]] 0 (fun q mq => by rw [List.mem_singleton.mp mq]; exact Nat.le_refl _) z m1
    have few := ok.few
    exact ⟨fun y my => ok.ok y (parts_sub xs [[]] xs (fun _ m => m) (fun q mq y my => by rw [List.mem_singleton.mp mq] at my; cases my) z m1 y my), by omega⟩
  · rw [List.mem_singleton.mp m]
    exact ⟨oks_sharp, by show 1 ≤ 20; decide⟩
theorem keysets_len {xs : List Str} {ps : List (Str × Str)} (ok : KyOk xs ps) : (keysetsF xs ps).length ≤ 33 := by
  have num : (partsF xs).length ≤ 32 := by
    unfold partsF
    rw [parts_num, List.length_singleton, Nat.one_mul]
    exact Nat.le_trans (Nat.pow_le_pow_right (by decide) ok.few) (by decide)
  have z1 := ZO.can_len ZO.sto_t (partsF xs)
  unfold keysetsF sortF
  rw [List.length_append]
  have z2 := List.length_filter_le (closedF ps) ((ZO.can ZO.tLt (partsF xs)).mergeSort fun a b => decide (a.length ≤ b.length))
  rw [List.length_mergeSort] at z2
  show _ + 1 ≤ 33
  omega
end
end S5

set_option Elab.async false
set_option linter.all false
set_option maxRecDepth 100000
namespace S5
open PySem PySem.Spec PyProof.Rows L2 Evl ZE ZS StX ZD
/-- the rest of what the law asks of the top -/
structure Ty (K : PySem.W.Frag) (mg : Str → Option Value) : Prop where
  int : mg "int" = none
  abs : mg "abs" = none
  str : mg "str" = none
  dict : mg "dict" = none
  bool : mg "bool" = none
  range : mg "range" = none
  enumerate : mg "enumerate" = none
  zip : mg "zip" = none
  isinstance : mg "isinstance" = none
section
variable {P : Program} {w : World} {K : PySem.W.Frag} {mg : Str → Option Value} {base : Heap} {aI : Addr}
/-! ### take -/
def oneB (u : Addr) (o : HO) : Hp := fun a => if a = u then some o else none
theorem oneB_le {H : Hp} {u : Addr} {o : HO} (h : H u = some o) : Ex (oneB u o) H := fun a x e => by
  unfold oneB at e
  split at e
  · next c =>
    rw [c, h]
    exact e
  · cases e
def tkP (ds : List PyData) (R : PyData → Prop) (c : Nat) : Prop := ∃ low : Nat, ds = [.int low] ∧ 1 ≤ low ∧ low ≤ 1000 ∧ (R = fun d => ∃ r : Nat, d = .int r ∧ r < low) ∧ c = 1
abbrev sLTake : Stmt := (top 37)
abbrev NLTake : List Str := ["_law_urn", "_law_low_so", "_law_drawn", "_law_once", "_law_far", "_law_twice"]
theorem scLTake : FnScope NLTake ["_law_urn", "_law_low_so"] (defScope sLTake) := ⟨rfl, rfl, rfl, by decide +kernel, rfl, by decide +kernel, by decide +kernel⟩
theorem ok_take {f : Addr} {fd : FuncData} (F : Fun K "_law_take" "_law_take" sLTake f fd) (Ti : Ty K mg) : FnOk P w K mg base CX0 1 f fd ["_law_urn", "_law_low_so"] (spU K tkP) := by
  refine F.ok scLTake (fun vs H Q E h => ?_) (fun cdv A outer s H vs Q E hr h => ?_)
  · obtain ⟨B, u, ws, ds, R, c, n, rfl, _, _, hw, _, _, ⟨low, rfl, _⟩, _⟩ := h
    exact congrArg (· + 1) (DpAll.len hw)
  · obtain ⟨B, u, ws, ds, R, c, n, rfl, b, bu, hw, ⟨x, y, z, hu, x0, y0, y1, z0, z1⟩, few, ⟨low, rfl, l1, l2, rfl, rfl⟩, q⟩ := h
    obtain ⟨v1, rfl, h1⟩ := one hw
    obtain rfl := p_int h1
    refine ⟨_, (pss_cons (ps_if (pt_cmpR op_gt (pe_ix (xIx K) (pv 0) pe_int (fun _ _ => rfl)) pe_int (nomark _)) (pss_cons (ps_set (i := 2) scLTake.nd rfl (by first | exact .inl rfl | exact .inr rfl) (pe_op op_mod (pe_callTy call_int1 (by rfl) Ti.int (by decide +kernel) (pa_cons (pe_ix (xIx K) (pv 0) pe_int (fun _ _ => rfl)) pa_nil)) (pv 1))) (pss_cons (ps_asg (pe_op op_fdiv (pe_ix (xIx K) (pv 0) pe_int (fun _ _ => rfl)) (pv 1)) (pg_sub (pv 0) pe_int set_list)) (pss_one (ps_ret (pv 2))))) pss_nil) (pss_cons (ps_asg (pe_op op_add (pe_ix (xIx K) (pv 0) pe_int (fun _ _ => rfl)) pe_int) (pg_sub (pv 0) pe_int set_list)) (pss_cons (ps_set (i := 3) scLTake.nd rfl (by first | exact .inl rfl | exact .inr rfl) (pe_op op_mod (pe_callTy call_int1 (by rfl) Ti.int (by decide +kernel) (pa_cons (pe_op op_mul (pe_op op_add (pe_ix (xIx K) (pv 0) pe_int (fun _ _ => rfl)) (pe_op op_mul pe_int (pe_ix (xIx K) (pv 0) pe_int (fun _ _ => rfl)))) (pe_op op_add pe_int (pe_ix (xIx K) (pv 0) pe_int (fun _ _ => rfl)))) pa_nil)) pe_int)) (pss_cons (ps_set (i := 4) scLTake.nd rfl (by first | exact .inl rfl | exact .inr rfl) (pe_op op_add (pe_op op_mod (pe_callTy call_int1 (by rfl) Ti.int (by decide +kernel) (pa_cons (pv 3) pa_nil)) pe_int) pe_int)) (pss_cons (ps_set (i := 5) scLTake.nd rfl (by first | exact .inl rfl | exact .inr rfl) (pe_op op_mod (pe_callTy call_int1 (by rfl) Ti.int (by decide +kernel) (pa_cons (pe_op op_mul (pe_op op_add (pe_op op_add (pv 3) (pe_ix (xIx K) (pv 0) pe_int (fun _ _ => rfl))) (pe_op op_fdiv (pe_ix (xIx K) (pv 0) pe_int (fun _ _ => rfl)) pe_int)) (pv 4)) pa_nil)) pe_int)) (pss_one (ps_ret (pe_op op_mod (pe_callTy call_int1 (by rfl) Ti.int (by decide +kernel) (pa_cons (pe_op op_fdiv (pe_op op_mod (pe_callTy call_int1 (by rfl) Ti.int (by decide +kernel) (pa_cons (pe_op op_add (pe_op op_mul (pv 5) pe_int) (pv 3)) pa_nil)) pe_int) pe_int) pa_nil)) (pv 1))))))))), ?_⟩
    have ix : ∀ {σ : L2.St} {x y z : Int} {k : Int} {d : PyData}, σ[0]? = some (some (V.ref u)) → atI [PyData.int x, .int y, .int z] k = some d → EvD K (tOp (rIx K) (tVar 0) (tC (.int k))) σ (oneB u (.lst [.int x, .int y, .int z])) d := fun {σ x y z k d} hi hk =>
      ed_op (ed_var hi (.lst (ds := [.int x, .int y, .int z]) (sq_of (if_pos rfl)) (.cons (.int x) (.cons (.int y) (.cons (.int z) .nil))))) (ed_int k) (rv_ix (.inl rfl) hk)
    have ub := oneB_le hu
    have lp : (0 : Int) < low := by omega
    have i0 : ∀ {x y z : Int}, atI [PyData.int x, .int y, .int z] 0 = some (.int x) := fun {x y z} => rfl
    have i1 : ∀ {x y z : Int}, atI [PyData.int x, .int y, .int z] 1 = some (.int y) := fun {x y z} => rfl
    have i2 : ∀ {x y z : Int}, atI [PyData.int x, .int y, .int z] 2 = some (.int z) := fun {x y z} => rfl
    refine g_if1 (c := decide (0 < x)) (et_of (ed_op (ix rfl i0) (ed_int 0) (rv_int fun _ => .bl _))) ub (fun hc H2 e2 => ?_) fun hc H2 e2 => ?_
    · refine g_asg (d := .int (x % low)) (ed_op (ed_cb (ea_consD (ix rfl i0) ea_nilD) rc_int) (ed_var rfl (.int low)) (rv_I lp fun _ => .int _)) (ub.trans e2) fun v H3 e3 hv => ?_
      obtain rfl := p_int hv
      refine g_set (v := x / low) (j := 0) (xs := [.int x, .int y, .int z]) (ed_op (ix rfl i0) (ed_var rfl (.int low)) (rv_I ⟨lp, by omega⟩ fun _ => .int _)) ((ub.trans e2).trans e3) rfl (ed_int 0) (e3 u _ (e2 u _ hu)) rfl fun H4 e4 => ?_
      obtain ⟨r, hr0⟩ : ∃ r : Nat, x % low = (r : Int) := ⟨(x % low).toNat, (Int.toNat_of_nonneg (Int.emod_nonneg _ (by omega))).symm⟩
      have rl : r < low := by
        have := Int.emod_lt_of_pos x lp
        omega
      have eq0 : Ex (ZE.del H u) (upd H4 u (.lst [.int (x / low), .int y, .int z])) := fun a o ha => by
        have ne : a ≠ u := fun zz => by rw [zz, del_at] at ha; cases ha
        rw [ZE.del_ne ne] at ha
        rw [upd_ne ne]
        exact e4 a o (e3 a o (e2 a o ha))
      exact ⟨_, rfl, by rw [hr0]; exact q (.int r) _ _ ⟨r, rfl, rl⟩ eq0 (.int _) ⟨x / low, y, z, upd_same, Int.ediv_nonneg x0 (by omega), y0, y1, z0, by omega⟩⟩
    · refine g_set (v := z + 1) (j := 2) (xs := [.int x, .int y, .int z]) (ed_op (ix rfl i2) (ed_int 1) (rv_int fun _ => .int _)) (ub.trans e2) rfl (ed_int 2) (e2 u _ hu) rfl fun H3 e3 => ?_
      have ub3 : Ex (oneB u (.lst [.int x, .int y, .int (z + 1)])) (upd H3 u (.lst [.int x, .int y, .int (z + 1)])) := oneB_le upd_same
      have eq0 : Ex (ZE.del H u) (upd H3 u (.lst [.int x, .int y, .int (z + 1)])) := fun a o ha => by
        have ne : a ≠ u := fun zz => by rw [zz, del_at] at ha; cases ha
        rw [ZE.del_ne ne] at ha
        rw [upd_ne ne]
        exact e3 a o (e2 a o ha)
      show tSeq _ _ _ _ (upd H3 u (.lst [.int x, .int y, .int (z + 1)]))
      have hu4 : (upd H3 u (.lst [.int x, .int y, .int (z + 1)])) u = some (.lst [.int x, .int y, .int (z + 1)]) := upd_same
      generalize upd H3 u (.lst [.int x, .int y, .int (z + 1)]) = H4 at ub3 eq0 hu4 ⊢
      have z1' : z + 1 ≤ 100000 := by omega
      generalize hz : z + 1 = z2 at ub3 hu4 z1'
      have z20 : 0 ≤ z2 := by omega
      -- once
      obtain ⟨a, ha⟩ : ∃ a, (y + 48271 * z2) * (39373 + z2) = a := ⟨_, rfl⟩
      refine g_asg (d := .int (a % 2147483647)) (ed_op (ed_cb (ea_consD (ed_is (ed_op (ed_op (ix rfl i1) (ed_op (ed_int 48271) (ix rfl i2) (rv_I (.inl ⟨by decide, by decide⟩) fun _ => .int _)) (rv_int fun _ => .int _)) (ed_op (ed_int 39373) (ix rfl i2) (rv_int fun _ => .int _)) (rv_I (d := .int a) (.inl ⟨by omega, by omega⟩) fun _ => by rw [ha]; exact .int _)) rfl) ea_nilD) rc_int) (ed_int 2147483647) (rv_I (by decide) fun _ => .int _)) ub3 fun v H5 e5 hv => ?_
      obtain rfl := p_int hv
      obtain ⟨o, ho⟩ : ∃ o, a % 2147483647 = o := ⟨_, rfl⟩
      have o0 : 0 ≤ o := by omega
      have o1 : o < 2147483647 := by omega
      rw [ho]
      have ub5 := ub3.trans e5
      -- far
      refine g_asg (K := K) (d := .int (o % 40009 + 7)) (ed_op (ed_op (ed_cb (ea_consD (ed_var rfl (.int o)) ea_nilD) rc_int) (ed_int 40009) (rv_I (by decide) fun _ => .int _)) (ed_int 7) (rv_int fun _ => .int _)) ub5 fun v H6 e6 hv => ?_
      obtain rfl := p_int hv
      obtain ⟨f1, hf⟩ : ∃ f1, o % 40009 + 7 = f1 := ⟨_, rfl⟩
      have f0 : 0 ≤ f1 := by omega
      have f2 : f1 < 100000 := by omega
      rw [hf]
      have ub6 := ub5.trans e6
      -- twice
      obtain ⟨t, ht⟩ : ∃ t, (o + z2 + y / 1000003) * f1 = t := ⟨_, rfl⟩
      refine g_asg (d := .int (t % 2147483629)) (ed_op (ed_cb (ea_consD (ed_op (ed_op (ed_op (ed_var rfl (.int o)) (ix rfl i2) (rv_int fun _ => .int _)) (ed_op (ix rfl i1) (ed_int 1000003) (rv_I ⟨by decide, by decide⟩ fun _ => .int _)) (rv_int fun _ => .int _)) (ed_var rfl (.int f1)) (rv_I (d := .int t) (.inr ⟨by omega, by omega⟩) fun _ => by rw [ht]; exact .int _)) ea_nilD) rc_int) (ed_int 2147483629) (rv_I (by decide) fun _ => .int _)) ub6 fun v H7 e7 hv => ?_
      obtain rfl := p_int hv
      obtain ⟨t1, ht1⟩ : ∃ t1, t % 2147483629 = t1 := ⟨_, rfl⟩
      have t0 : 0 ≤ t1 := by omega
      have t2 : t1 < 2147483629 := by omega
      rw [ht1]
      have ub7 := ub6.trans e7
      obtain ⟨g, hg⟩ : ∃ g : Int, (t1 * 48271 + o) % 2147483587 / 64 = g := ⟨_, rfl⟩
      refine g_ret (K := K) (d := .int (g % low)) (ed_op (ed_cb (ea_consD (ed_op (ed_op (ed_cb (ea_consD (ed_op (ed_op (ed_var rfl (.int t1)) (ed_int 48271) (rv_I (.inl ⟨by omega, by omega⟩) fun _ => .int _)) (ed_var rfl (.int o)) (rv_int fun _ => .int _)) ea_nilD) rc_int) (ed_int 2147483587) (rv_I (by decide) fun _ => .int _)) (ed_int 64) (rv_I (d := .int g) ⟨by decide, by decide⟩ fun _ => by rw [hg]; exact .int _)) ea_nilD) rc_int) (ed_var rfl (.int low)) (rv_I lp fun _ => .int _)) ub7 fun v H8 e8 hv => ?_
      obtain rfl := p_int hv
      obtain ⟨r, hr0⟩ : ∃ r : Nat, g % low = (r : Int) := ⟨(g % low).toNat, (Int.toNat_of_nonneg (Int.emod_nonneg _ (by omega))).symm⟩
      have rl : r < low := by
        have := Int.emod_lt_of_pos g lp
        omega
      rw [hr0]
      have e48 : Ex H4 H8 := ((e5.trans e6).trans e7).trans e8
      exact q (.int r) _ _ ⟨r, rfl, rl⟩ (eq0.trans e48) (.int _) ⟨x, y, z2, e48 u _ hu4, x0, y0, y1, z20, by omega⟩
end
end S5

set_option Elab.async false
set_option linter.all false
set_option maxRecDepth 100000
namespace S5
open PySem PySem.Spec PyProof.Rows L2 Evl ZE ZS StX ZD
section
variable {P : Program} {w : World} {K : PySem.W.Frag} {mg : Str → Option Value} {base : Heap} {aI : Addr}
/-! ### of -/
def ofP (ds : List PyData) (R : PyData → Prop) (c : Nat) : Prop := ∃ D es, ds = [D] ∧ Sq D es ∧ 1 ≤ es.length ∧ es.length ≤ 1000 ∧ (R = fun d => d ∈ es) ∧ c = 1
abbrev sLOf : Stmt := (top 39)
abbrev NLOf : List Str := ["_law_urn", "_law_some_so"]
theorem scLOf : FnScope NLOf ["_law_urn", "_law_some_so"] (defScope sLOf) := ⟨rfl, rfl, rfl, by decide +kernel, rfl, by decide +kernel, by decide +kernel⟩
theorem ok_of {f ft : Addr} {fd fdt : FuncData} (F : Fun K "_law_of" "_law_of" sLOf f fd) (T : Tx K mg aI) (C_law_take : Cal P w K mg base 1 "_law_take" ["_law_urn", "_law_low_so"] (spU K tkP) ft fdt) : FnOk P w K mg base CX0 2 f fd ["_law_urn", "_law_some_so"] (spU K ofP) := by
  refine F.ok scLOf (fun vs H Q E h => ?_) (fun cdv A outer s H vs Q E hr h => ?_)
  · obtain ⟨B, u, ws, ds, R, c, n, rfl, _, _, hw, _, _, ⟨D, es, rfl, _⟩, _⟩ := h
    exact congrArg (· + 1) (DpAll.len hw)
  · obtain ⟨B, u, ws, ds, R, c, n, rfl, b, bu, hw, un, few, ⟨D, es, rfl, sq, l1, l2, rfl, rfl⟩, q⟩ := h
    obtain ⟨v1, rfl, h1⟩ := one hw
    refine ⟨_, (pss_one (ps_ret (pe_ix (xIx K) (pv 1) (pe_call C_law_take.G (hr.mono (by decide)) (by rfl) C_law_take.m C_law_take.kp C_law_take.b .nil pass0 (pa_cons (pv 0) (pa_cons (pe_callB (xLen K) (by rfl) T.len (by decide +kernel) (pa_cons (pv 1) pa_nil)) pa_nil))) (fun _ _ => rfl)))), ?_⟩
    refine ⟨v1, rfl, ?_⟩
    refine u_call (R := fun d => ∃ r : Nat, d = .int r ∧ r < es.length) rfl (ea_consD (ed_cb (ea_consD (ed_var rfl h1) ea_nilD) (rc_len sq)) ea_nilD) ⟨es.length, rfl, l1, l2, rfl, rfl⟩ b bu un few fun d v H2 hr e hv un2 => ?_
    obtain ⟨r, rfl, rl⟩ := hr
    obtain rfl := p_int hv
    have a1 := (At.start b (del_le (p := u))).urn del_at bu e un2.some
    have b1 := urn_base b bu e
    exact rv_ix sq (atI_some rl) (sub H2 H B) H2 v1 _ a1.b (dp_up h1 b1) (.int _) _ fun v H3 e3 hd => q es[r] v H3 (List.getElem_mem _) (a1.ex.trans e3) (a1.out e3 hd) (un2.up e3)
/-! ### mixed -/
def mxP (ds : List PyData) (R : PyData → Prop) (c : Nat) : Prop := ∃ D xs, ds = [D] ∧ Sq D (xs.map .str) ∧ xs.length ≤ 100 ∧ (R = fun d => ∃ ys : List Str, ys.Perm xs ∧ d = tp ys) ∧ c = xs.length
abbrev sLMixed : Stmt := (top 42)
abbrev NLMixed : List Str := ["_law_urn", "_law_pool", "_law_left", "_law_found", "_law_turn"]
theorem scLMixed : FnScope NLMixed ["_law_urn", "_law_pool"] (defScope sLMixed) := ⟨rfl, rfl, rfl, by decide +kernel, rfl, by decide +kernel, by decide +kernel⟩
theorem ok_mixed {f ft : Addr} {fd fdt : FuncData} (F : Fun K "_law_mixed" "_law_mixed" sLMixed f fd) (T : Tx K mg aI) (Ti : Ty K mg) (C_law_take : Cal P w K mg base 1 "_law_take" ["_law_urn", "_law_low_so"] (spU K tkP) ft fdt) : FnOk P w K mg base CX0 2 f fd ["_law_urn", "_law_pool"] (spU K mxP) := by
  refine F.ok scLMixed (fun vs H Q E h => ?_) (fun cdv A outer s H vs Q E hr h => ?_)
  · obtain ⟨B, u, ws, ds, R, c, n, rfl, _, _, hw, _, _, ⟨D, es, rfl, _⟩, _⟩ := h
    exact congrArg (· + 1) (DpAll.len hw)
  · obtain ⟨B, u, ws, ds, R, c, n, rfl, b, bu, hw, un, few, ⟨D, xs, rfl, sq, l1, rfl, rfl⟩, q⟩ := h
    obtain ⟨v1, rfl, h1⟩ := one hw
    refine ⟨_, (pss_cons (ps_par (i := 2) (j := 3) rfl scLMixed.nd rfl rfl (by decide) rfl rfl (pa_cons (pe_callTy (xList K) (by rfl) T.list (by decide +kernel) (pa_cons (pv 1) pa_nil)) (pa_cons (pe_lst pa_nil) pa_nil)) (by rfl)) (pss_cons (ps_for PassesOwn.never rfl (pi_range1 rfl Ti.range (pa_cons (pe_callB (xLen K) (by rfl) T.len (by decide +kernel) (pa_cons (pv 1) pa_nil)) pa_nil)) (pg_name (i := 4) scLMixed.nd rfl (by first | exact .inl rfl | exact .inr rfl)) (pss_one (ps_expr (pe_bm PySem.F.plainAttrs_list PySem.F.slot_list_append PySem.F.type_list_append mt_append (pv 3) (pa_cons (pe_bm PySem.F.plainAttrs_list PySem.F.slot_list_pop PySem.F.type_list_pop mt_popAt (pv 2) (pa_cons (pe_call C_law_take.G (hr.mono (by decide)) (by rfl) C_law_take.m C_law_take.kp C_law_take.b .nil pass0 (pa_cons (pv 0) (pa_cons (pe_callB (xLen K) (by rfl) T.len (by decide +kernel) (pa_cons (pv 2) pa_nil)) pa_nil))) pa_nil)) pa_nil))))) (pss_one (ps_ret (pe_callTy (xTuple K) (by rfl) T.tuple (by decide +kernel) (pa_cons (pv 3) pa_nil)))))), ?_⟩
    obtain ⟨a, ys, rfl, hs, hx⟩ := sq_split h1 sq
    refine ⟨.ref a, rfl, a, ys, rfl, hs.imp (ex_l b) (ex_t b), fun l hl => ⟨by show 0 ≤ sizeLine; decide, fun m hm => ⟨_, _, rfl, ?_⟩⟩⟩
    have a0 : At (ZE.del H u) B H B H := At.start b del_le
    have hus := un.some
    have ul : u ≠ l := fun z => by rw [z, hl] at hus; cases hus
    have m0 : H m = none := fresh_back (Ex.new hl) hm
    have um : u ≠ m := fun z => by rw [z, m0] at hus; cases hus
    have lm : l ≠ m := fun z => by rw [← z, upd_same] at hm; cases hm
    have a2 := (a0.new (o := .lst ys) hl).new (o := .lst []) hm
    have kl0 : (ZE.del H u) l = none := by rw [ZE.del_ne ul.symm]; exact hl
    have km0 : (ZE.del H u) m = none := by rw [ZE.del_ne um.symm]; exact m0
    refine for_rng (N := xs.length) (fun i σ H' => ∃ (rest got : List Str), (∃ o, σ = [some (.ref u), some (.ref a), some (.ref l), some (.ref m), o]) ∧ (got ++ rest).Perm xs ∧ got.length = i ∧ At (ZE.del H u) B H B H' ∧ Mu K B H' l (rest.map .str) ∧ Mu K B H' m (got.map .str) ∧ Urn H' u (n + i))
      (ea_consD (ed_is (ed_cb (ea_consD (ed_var rfl h1) ea_nilD) (rc_len sq)) (by rw [List.length_map])) ea_nilD) a2.b (by omega)
      (fun H3 e3 => ⟨xs, [], ⟨_, rfl⟩, List.Perm.refl _, rfl, a2.grow e3, ((Mu.new b hl hx).grow (Ex.new hm)).grow e3, (Mu.new (a0.new hl).b hm .nil).grow e3, (un.move (by rw [upd_ne um, upd_ne ul])).up e3⟩)
      (fun i σ3 H3 hi ⟨rest, got, ⟨o, hσ⟩, pm, gl, a3, ml, mm, u3⟩ => ?_) (fun σ3 H3 ⟨rest, got, ⟨o, hσ⟩, pm, gl, a3, ml, mm, u3⟩ => ?_)
    · subst hσ
      have len := pm.length_eq
      rw [List.length_append] at len
      obtain ⟨B3, c1, c2, c3, c4⟩ := ml.hold a3 hl
      refine ⟨.ref m, rfl, mu_ty mm, .ref l, rfl, mu_ty ml, ?_⟩
      refine u_call (R := fun d => ∃ r : Nat, d = .int r ∧ r < rest.length) rfl (ea_consD (ed_is (ed_cb (ea_consD (ed_var rfl c3) ea_nilD) (rc_len (.inl rfl))) (by rw [List.length_map])) ea_nilD) ⟨rest.length, rfl, by omega, by omega, rfl, rfl⟩ c2.b (by rw [c4 u ul]; exact bu) u3 (by omega) fun d v H4 hr e4 hv u4 => ?_
      obtain ⟨r, rfl, rl⟩ := hr
      obtain rfl := p_int hv
      have a4 := (a3.urn del_at bu e4 u4.some).less (urn_base a3.b bu e4) (Ex.refl B)
      have keep4 : ∀ c, c ≠ u → ∀ o, H3 c = some o → H4 c = some o := fun c nc o ho => e4 c o (by rw [ZE.del_ne nc]; exact ho)
      have ml4 := ml.move (keep4 l ul.symm)
      have mm4 := mm.move (keep4 m um.symm)
      refine mu_pop (r := r) ml4 (by rw [List.length_map]; exact rl) (by rw [List.length_map]; omega) fun v ws hd ml5 => ?_
      have mb : B l = none := let ⟨_, _, z, _⟩ := ml4; z
      have mbm : B m = none := let ⟨_, _, z, _⟩ := mm4; z
      have a5 := a4.mut (o := .lst ws) mb kl0 ml4.isS
      have mm5 := mm4.other (o := .lst ws) lm.symm
      refine mu_append mm5 (by rw [List.length_map]; omega) hd fun ws2 mm6 => ?_
      have a6 := a5.mut (o := .lst ws2) mbm km0 mm5.isS
      have ml6 := ml5.other (o := .lst ws2) lm
      refine ⟨rest.eraseIdx r, got ++ [rest[r]], ⟨_, rfl⟩, ?_, by rw [List.length_append, List.length_singleton, gl], a6, ?_, ?_, (u4.move (by rw [upd_ne um, upd_ne ul])).le (by omega)⟩
      · rw [List.append_assoc]
        exact ((erase_perm rest r rl).append_left got).trans pm
      · rw [← erase_map]
        exact ml6
      · rw [List.map_append]
        have z : (rest.map PyData.str)[r]'(by rw [List.length_map]; exact rl) = .str rest[r] := List.getElem_map ..
        rw [z] at mm6
        exact mm6
    · subst hσ
      have len := pm.length_eq
      rw [List.length_append] at len
      have rn : rest = [] := List.length_eq_zero_iff.mp (by omega)
      subst rn
      rw [List.append_nil] at pm
      obtain ⟨B3, c1, c2, c3, c4⟩ := mm.hold a3 m0
      refine g_ret (d := tp got) (ed_cb (ea_consD (ed_var rfl c3) ea_nilD) (rc_tuple (.inl rfl))) c2.b fun v H4 e4 hv => q (tp got) v H4 ⟨got, pm, rfl⟩ (c2.ex.trans e4) (c2.out e4 hv) (u3.up e4)
/-! ### few -/
def fwP (ds : List PyData) (R : PyData → Prop) (c : Nat) : Prop := ∃ (D : PyData) (xs : List Str) (most : Nat), ds = [D, .int most] ∧ Sq D (xs.map .str) ∧ xs.length ≤ 100 ∧ most < 500 ∧ (R = fun d => ∃ ys : List Str, (∀ y ∈ ys, y ∈ xs) ∧ ys.length ≤ xs.length ∧ d = tp ys) ∧ c = xs.length + 1
abbrev sLFew : Stmt := (top 43)
abbrev NLFew : List Str := ["_law_urn", "_law_pool", "_law_most_so"]
theorem scLFew : FnScope NLFew ["_law_urn", "_law_pool", "_law_most_so"] (defScope sLFew) := ⟨rfl, rfl, rfl, by decide +kernel, rfl, by decide +kernel, by decide +kernel⟩
theorem ok_few {f ft fm : Addr} {fd fdt fdm : FuncData} (F : Fun K "_law_few" "_law_few" sLFew f fd) (T : Tx K mg aI) (Ti : Ty K mg) (C_law_take : Cal P w K mg base 1 "_law_take" ["_law_urn", "_law_low_so"] (spU K tkP) ft fdt) (C_law_mixed : Cal P w K mg base 2 "_law_mixed" ["_law_urn", "_law_pool"] (spU K mxP) fm fdm) :
    FnOk P w K mg base CX0 3 f fd ["_law_urn", "_law_pool", "_law_most_so"] (spU K fwP) := by
  refine F.ok scLFew (fun vs H Q E h => ?_) (fun cdv A outer s H vs Q E hr h => ?_)
  · obtain ⟨B, u, ws, ds, R, c, n, rfl, _, _, hw, _, _, ⟨D, xs, most, rfl, _⟩, _⟩ := h
    exact congrArg (· + 1) (DpAll.len hw)
  · obtain ⟨B, u, ws, ds, R, c, n, rfl, b, bu, hw, un, few, ⟨D, xs, most, rfl, sq, l1, l2, rfl, rfl⟩, q⟩ := h
    obtain ⟨v1, v2, rfl, h1, h2⟩ := two hw
    refine ⟨_, (pss_one (ps_ret (pe_slice sl_tupA (pe_call C_law_mixed.G (hr.mono (by decide)) (by rfl) C_law_mixed.m C_law_mixed.kp C_law_mixed.b .nil pass0 (pa_cons (pv 0) (pa_cons (pv 1) pa_nil))) po_none (po_some (pe_call C_law_take.G (hr.mono (by decide)) (by rfl) C_law_take.m C_law_take.kp C_law_take.b .nil pass0 (pa_cons (pv 0) (pa_cons (pe_op op_add (pv 2) pe_int) pa_nil))))))), ?_⟩
    have a0 : At (ZE.del H u) B H B H := At.start b del_le
    refine u_call (R := fun d => ∃ ys : List Str, ys.Perm xs ∧ d = tp ys) rfl (ea_consD (ed_var rfl h1) ea_nilD) ⟨D, xs, rfl, sq, l1, rfl, rfl⟩ b bu un (by omega) fun d v H1 hr1 e1 hv1 un1 => ?_
    obtain ⟨ys, pm, rfl⟩ := hr1
    have a1 := a0.urn del_at bu e1 un1.some
    have b1u : sub H1 H B u = none := urn_out un bu
    refine u_call (R := fun d => ∃ r : Nat, d = .int r ∧ r < most + 1) rfl (ea_consD (ed_op (ed_var rfl (dp_up h2 (urn_base b bu e1))) (ed_int 1) (rv_int fun _ => .int _)) ea_nilD) ⟨most + 1, rfl, by omega, by omega, rfl, rfl⟩ a1.b b1u un1 (by omega) fun d x H2 hr2 e2 hx2 un2 => ?_
    obtain ⟨r, rfl, rl⟩ := hr2
    obtain rfl := p_int hx2
    have a2 := a1.urn del_at b1u e2 un2.some
    refine ⟨r, rfl, ?_⟩
    have hv2 := dp_up hv1 (urn_base a1.b b1u e2)
    have pl : ys.length = xs.length := pm.length_eq
    cases hv2 with
    | tup hs ha =>
      refine ⟨_, _, rfl, ex_t a2.b hs, fun w => ?_, fun w p hp => ?_⟩
      · exact q (tp ys) _ H2 ⟨ys, fun y m => pm.mem_iff.mp m, by omega, rfl⟩ a2.ex (a2.out (Ex.refl _) (.tup (ex_t (le_sub a2.b (Ex.refl _)) hs) (dpa_up ha (le_sub a2.b (Ex.refl _))))) un2
      · refine q (tp (ys.take r)) _ _ ⟨ys.take r, fun y m => pm.mem_iff.mp (List.mem_of_mem_take m), by rw [List.length_take]; omega, rfl⟩ (a2.ex.trans (Ex.new hp)) (a2.out (Ex.new hp) (.tup (st_of (new_at hp)) ?_)) (un2.up (Ex.new hp))
        rw [cut_take, List.map_take]
        exact DpAll.take r (dpa_up ha (le_sub a2.b (Ex.new hp)))
end
end S5

set_option Elab.async false
set_option linter.all false
set_option maxRecDepth 100000
namespace S5
open PySem PySem.Spec PyProof.Rows L2 Evl ZE ZS StX ZD
section
variable {P : Program} {w : World} {K : PySem.W.Frag} {mg : Str → Option Value} {base : Heap} {aI : Addr}
/-! ### book -/
def pool7 : List Str := ["a", "city", "item", "lot", "shop", "user", "zzzzzzzz"]
/-- what a drawn book is: rising names, tellings that all go one way -/
structure Bk (most : Nat) (xs : List Str) (ps : List (Str × Str)) : Prop where
  up : ZO.Up ZO.sLt xs
  pool : ∀ x ∈ xs, x ∈ pool7
  len1 : 1 ≤ xs.length
  len2 : xs.length ≤ most
  ins : ∀ p ∈ ps, p.1 ∈ xs ∧ p.2 ∈ xs
  way : (∀ p ∈ ps, ZO.sLt p.1 p.2 = true) ∨ ∀ p ∈ ps, ZO.sLt p.2 p.1 = true
  lp : ps.length ≤ 100
def bkD (xs : List Str) (ps : List (Str × Str)) : PyData := .tuple [tp xs, .tuple (ps.map pr)]
def bkP (ds : List PyData) (R : PyData → Prop) (c : Nat) : Prop := ∃ most : Nat, ds = [.int most] ∧ 1 ≤ most ∧ most ≤ 5 ∧ (R = fun d => ∃ xs ps, Bk most xs ps ∧ d = bkD xs ps) ∧ c = 209
theorem pool_ok : Oks pool7 := fun x m => by
  have : ∀ x ∈ pool7, PyData.strOk x = true := by decide +kernel
  exact this x m
theorem pool_nd : pool7.Nodup := by decide +kernel
def Way (s : Nat) (xs : List Str) (ps : List (Str × Str)) : Prop := ∀ p ∈ ps, p.1 ∈ xs ∧ p.2 ∈ xs ∧ (s = 1 → ZO.sLt p.1 p.2 = true) ∧ (s ≠ 1 → ZO.sLt p.2 p.1 = true)
abbrev sLBook : Stmt := (top 44)
abbrev NLBook : List Str := ["_law_urn", "_law_most_so", "_law_pool", "_law_flats", "_law_pairs_so", "_law_style", "_law_own", "_law_k", "_law_far"]
theorem scLBook : FnScope NLBook ["_law_urn", "_law_most_so"] (defScope sLBook) := ⟨rfl, rfl, rfl, by decide +kernel, rfl, by decide +kernel, by decide +kernel⟩
theorem ok_book {f ft fm : Addr} {fd fdt fdm : FuncData} (F : Fun K "_law_book" "_law_book" sLBook f fd) (T : Tx K mg aI) (Ti : Ty K mg) (C_law_take : Cal P w K mg base 1 "_law_take" ["_law_urn", "_law_low_so"] (spU K tkP) ft fdt) (C_law_mixed : Cal P w K mg base 2 "_law_mixed" ["_law_urn", "_law_pool"] (spU K mxP) fm fdm) :
    FnOk P w K mg base CX0 3 f fd ["_law_urn", "_law_most_so"] (spU K bkP) := by
  refine F.ok scLBook (fun vs H Q E h => ?_) (fun cdv A outer s H vs Q E hr h => ?_)
  · obtain ⟨B, u, ws, ds, R, c, n, rfl, _, _, hw, _, _, ⟨most, rfl, _⟩, _⟩ := h
    exact congrArg (· + 1) (DpAll.len hw)
  · obtain ⟨B, u, ws, ds, R, c, n, rfl, b, bu, hw, un, few, ⟨most, rfl, l1, l2, rfl, rfl⟩, q⟩ := h
    obtain ⟨v1, rfl, h1⟩ := one hw
    obtain rfl := p_int h1
    refine ⟨_, (pss_cons (ps_set (i := 2) scLBook.nd rfl (by first | exact .inl rfl | exact .inr rfl) (pe_callTy (xList K) (by rfl) T.list (by decide +kernel) (pa_cons (pe_call C_law_mixed.G (hr.mono (by decide)) (by rfl) C_law_mixed.m C_law_mixed.kp C_law_mixed.b .nil pass0 (pa_cons (pv 0) (pa_cons (pe_lst (pa_cons pe_str (pa_cons pe_str (pa_cons pe_str (pa_cons pe_str (pa_cons pe_str (pa_cons pe_str (pa_cons pe_str pa_nil)))))))) pa_nil))) pa_nil))) (pss_cons (ps_par3 (i := 3) (j := 4) (l := 5) rfl scLBook.nd rfl rfl rfl (by decide) (by decide) (by decide) rfl rfl rfl (pa_cons (pe_callB cr_sortedS (by rfl) T.sorted (by decide +kernel) (pa_cons (pe_lc (own := [("_law_own", 6)]) rfl scLBook.nd (xSeq K (pe_slice sl_list (pv 2) po_none (po_some (pe_op op_add pe_int (pe_call C_law_take.G (hr.mono (by decide)) (by rfl) C_law_take.m C_law_take.kp C_law_take.b .nil pass0 (pa_cons (pv 0) (pa_cons (pv 1) pa_nil))))))) (blkOk_by (N := NLBook) (sc := defScope sLBook) (by decide +kernel)) (fun _ _ _ _ _ => (pg_name (i := 6) scLBook.nd rfl (by first | exact .inl rfl | exact .inr rfl))) (fun _ _ _ _ _ => pts_nil) (fun _ _ _ _ _ => (pe_callTy SkE.call_str_str (by rfl) Ti.str (by decide +kernel) (pa_cons (pv 6) pa_nil)))) pa_nil)) (pa_cons (pe_lst pa_nil) (pa_cons (pe_call C_law_take.G (hr.mono (by decide)) (by rfl) C_law_take.m C_law_take.kp C_law_take.b .nil pass0 (pa_cons (pv 0) (pa_cons pe_int pa_nil))) pa_nil))) (by rfl)) (pss_cons (ps_for PassesOwn.never rfl (pi_enum (by rfl) Ti.enumerate (pa_cons (pv 3) pa_nil)) (xTup K 2 rfl (pgs_cons (pg_name (i := 7) scLBook.nd rfl (by first | exact .inl rfl | exact .inr rfl)) (pgs_cons (pg_name (i := 6) scLBook.nd rfl (by first | exact .inl rfl | exact .inr rfl)) pgs_nil))) (pss_one (ps_for PassesOwn.never rfl (xSeq K (pe_slice sl_list (pv 3) (po_some (pe_op op_add (pv 7) pe_int)) po_none)) (pg_name (i := 8) scLBook.nd rfl (by first | exact .inl rfl | exact .inr rfl)) (pss_one (ps_if (PW.pt (pw_and (pt_cmpR op_gt (pv 5) pe_int (nomark _)) (pw_and1 (pt_cmpR (xEq K hr.units) (pe_call C_law_take.G (hr.mono (by decide)) (by rfl) C_law_take.m C_law_take.kp C_law_take.b .nil pass0 (pa_cons (pv 0) (pa_cons pe_int pa_nil))) pe_int (nomark _))))) (pss_one (ps_expr (pe_bm PySem.F.plainAttrs_list PySem.F.slot_list_append PySem.F.type_list_append mt_append (pv 4) (pa_cons (pe_ifExp (pt_cmpR (xEq K hr.units) (pv 5) pe_int (nomark _)) (pe_tup (pa_cons (pv 6) (pa_cons (pv 8) pa_nil))) (pe_tup (pa_cons (pv 8) (pa_cons (pv 6) pa_nil)))) pa_nil)))) pss_nil))))) (pss_one (ps_ret (pe_tup (pa_cons (pe_callTy (xTuple K) (by rfl) T.tuple (by decide +kernel) (pa_cons (pv 3) pa_nil)) (pa_cons (pe_callTy (xTuple K) (by rfl) T.tuple (by decide +kernel) (pa_cons (pv 4) pa_nil)) pa_nil)))))))), ?_⟩
    have a0 : At (ZE.del H u) B H B H := At.start b del_le
    have hus := un.some
    have ne_u : ∀ {H' : Hp} {n' : Nat} {l : Addr}, Urn H' u n' → H' l = none → u ≠ l := fun un' hl z => by
      have := un'.some
      rw [z, hl] at this
      cases this
    -- pool
    refine l_asg (l_cb1 (u_call (R := fun d => ∃ ys : List Str, ys.Perm pool7 ∧ d = tp ys) rfl (ea_consD (ed_lst (ds := pool7.map .str) (ea_consD (ed_str _) (ea_consD (ed_str _) (ea_consD (ed_str _) (ea_consD (ed_str _) (ea_consD (ed_str _) (ea_consD (ed_str _) (ea_consD (ed_str _) ea_nilD))))))) (by decide)) ea_nilD) ⟨_, pool7, rfl, .inl rfl, by decide, rfl, rfl⟩ b bu un (by show n + 7 ≤ 100000; omega) fun d v H1 hr1 e1 hv1 un1 => ?_))
    obtain ⟨ys, pm, rfl⟩ := hr1
    have a1 := a0.urn del_at bu e1 un1.some
    have b1u : sub H1 H B u = none := urn_out un bu
    refine rc_listN (.inr rfl) _ H1 [v] a1.b (.cons hv1 .nil) _ fun v2 H2 e2 hv2 => ?_
    have a2 := a1.next e2
    have b2u : sub H2 H1 (sub H1 H B) u = none := urn_out un1 b1u
    have un2 := un1.up e2
    generalize sub H2 H1 (sub H1 H B) = B2 at a2 b2u hv2
    change Urn H2 u (n + 7) at un2
    -- flats, pairs, style
    refine l_par3 (l_cb1 (l_lc (l_cut rfl (u_call (R := fun d => ∃ r : Nat, d = .int r ∧ r < most) rfl (ea_consD (ed_var rfl (.int (most : Int))) ea_nilD) ⟨most, rfl, l1, by omega, rfl, rfl⟩ a2.b b2u un2 (by omega) fun d v H3 hr3 e3 hv3 un3 => ?_))))
    obtain ⟨r, rfl, rl⟩ := hr3
    obtain rfl := p_int hv3
    have a3 := a2.urn' del_at b2u e3 un3.some
    have hvp := dp_up hv2 (Ex.refl B2)
    cases hvp with
    | lst hq ha =>
      rename_i pa vs
      refine ⟨1, r, rfl, rfl, 1 + r, rfl, pa, vs, rfl, ex_l a3.b hq, fun p hp => ?_⟩
      have ct : cutV vs none (some (1 + (r : Int))) = vs.take (1 + r) := by
        rw [show (1 : Int) + (r : Int) = ((1 + r : Nat) : Int) by omega]
        exact cut_take vs (1 + r)
      rw [ct]
      have mp : Mu K B2 (upd H3 p (.lst (vs.take (1 + r)))) p ((ys.take (1 + r)).map .str) := by
        have z := DpAll.take (1 + r) ha
        rw [← List.map_take] at z
        exact Mu.new a3.b hp z
      have a4 := a3.new (o := .lst (vs.take (1 + r))) hp
      have un4 : Urn (upd H3 p (.lst (vs.take (1 + r)))) u (n + 8) := un3.up (Ex.new hp)
      have p0 : H p = none := a3.fresh hp
      obtain ⟨B4, c1, c2, c3, c4⟩ := mp.hold a4 p0
      have b4u : B4 u = none := by rw [c4 u (ne_u un3 hp)]; exact b2u
      generalize upd H3 p (.lst (vs.take (1 + r))) = H4 at a4 un4 c2 mp
      have few5 : (ys.take (1 + r)).length ≤ 5 := by
        rw [List.length_take]
        omega
      refine (ed_lcSA (K := K) (B := B4) (D0 := .list ((ys.take (1 + r)).map .str)) (fun x => .str x) (ed_tC c3) (.inl rfl) (by omega) (fun _ => rfl) fun x m B5 e => ed_cb (ea_consD (ed_var rfl (.str x)) ea_nilD) rc_str) H4 c2.b _ fun v H5 e5 hv5 => ?_
      have un5 := un4.up e5
      have a5 := c2.grow e5
      cases hv5 with
      | lst hq5 ha5 =>
        obtain rfl := strs_dpa ha5
        refine ⟨_, ys.take (1 + r), rfl, ex_l sub_le hq5, by omega, fun fl pf perm srt hpf => ?_⟩
        have ndf : fl.Nodup := perm.nodup_iff.mpr ((List.take_sublist _ _).nodup (pm.nodup_iff.mpr pool_nd))
        have up := ZO.up_of_sorted srt ndf
        have inp : ∀ x ∈ fl, x ∈ pool7 := fun x m => pm.mem_iff.mp (List.mem_of_mem_take (perm.mem_iff.mp m))
        have okf : Oks fl := fun x m => pool_ok x (inp x m)
        have lfl : fl.length = min (1 + r) 7 := by
          rw [perm.length_eq, List.length_take, pm.length_eq]
          rfl
        have pf0 : H pf = none := a5.fresh hpf
        have mf : Mu K B4 (upd H5 pf (.lst (fl.map V.str))) pf (fl.map .str) := Mu.new a5.b hpf (dpa_strs fl)
        have a6 := a5.new (o := .lst (fl.map V.str)) hpf
        have un6 : Urn (upd H5 pf (.lst (fl.map V.str))) u (n + 8) := un5.up (Ex.new hpf)
        obtain ⟨B6, f1, f2, f3, f4⟩ := mf.hold a6 pf0
        have b6u : B6 u = none := by rw [f4 u (ne_u un5 hpf)]; exact b4u
        generalize upd H5 pf (.lst (fl.map V.str)) = H6 at a6 un6 f2 mf
        refine l_nil fun m hm => ?_
        have m0 : H m = none := f2.fresh hm
        have mm : Mu K B6 (upd H6 m (.lst [])) m [] := Mu.new f2.b hm .nil
        have a7 := f2.new (o := .lst []) hm
        have um : u ≠ m := ne_u un6 hm
        have un7 : Urn (upd H6 m (.lst [])) u (n + 8) := un6.up (Ex.new hm)
        generalize upd H6 m (.lst []) = H7 at mm a7 un7
        refine u_call (R := fun d => ∃ r : Nat, d = .int r ∧ r < 3) rfl (ea_consD (ed_int 3) ea_nilD) ⟨3, rfl, by decide, by decide, rfl, rfl⟩ a7.b b6u un7 (by omega) fun d v H8 hr8 e8 hv8 un8 => ?_
        obtain ⟨st, rfl, sl⟩ := hr8
        obtain rfl := p_int hv8
        refine ⟨_, _, _, rfl, ?_⟩
        have a8 := a7.urn' del_at b6u e8 un8.some
        have mm8 := mm.move (keep_del e8 um.symm)
        have km0 : (ZE.del H u) m = none := by rw [ZE.del_ne um.symm]; exact m0
        change Urn H8 u (n + 9) at un8
        refine for_en (fun B2 i σ' H' => ∃ B3 ps, (∃ o6 o7 o8, σ' = [some (.ref u), some (.int (most : Int)), some (V.ref pa), some (.ref pf), some (.ref m), some (.int (st : Int)), o6, o7, o8]) ∧ Ex B6 B2 ∧ Ex B2 B3 ∧ At (ZE.del H u) B H B3 H' ∧ B3 u = none ∧ Mu K B3 H' m (ps.map pr) ∧ Way st fl ps ∧ ps.length ≤ i * 20 ∧ Urn H' u (n + 9 + i * 40))
          (ea_consD (ed_var rfl f3) ea_nilD) a8.b (fun H9 e9 => ⟨_, [], ⟨_, _, _, rfl⟩, le_sub a8.b e9, Ex.refl _, a8.next e9, urn_out un8 b6u, mm8.next a8.b e9, (fun p m => nomatch m), Nat.zero_le _, un8.up e9⟩)
          (fun B2 i σ3 H3 ⟨B3, ps, _, _, c, a, _⟩ => c.trans a.b) (fun B2 i d x σ3 H3 tt hi hx ⟨B3, ps, ⟨o6, o7, o8, hσ⟩, g1, g2, g3, g4, g5, g6, g7, g8⟩ ht => ?_) (fun B2 σ3 H3 ⟨B3, ps, ⟨o6, o7, o8, hσ⟩, g1, g2, g3, g4, g5, g6, g7, g8⟩ => ?_)
        · subst hσ
          rw [List.getElem?_map] at hi
          obtain ⟨own, ho, rfl⟩ := Option.map_eq_some_iff.mp hi
          obtain rfl := p_str hx
          have il : i < fl.length := (List.getElem?_eq_some_iff.mp ho).1
          have mo := List.mem_of_getElem? ho
          have g3' := g3.new (o := .tup [.int (i : Int), .str own]) ht
          have g5' := g5.grow (H2 := upd H3 tt (.tup [.int (i : Int), .str own])) (Ex.new ht)
          have g8' : Urn (upd H3 tt (.tup [.int (i : Int), .str own])) u (n + 9 + i * 40) := g8.up (Ex.new ht)
          generalize upd H3 tt (.tup [.int (i : Int), .str own]) = H9 at g3' g5' g8' ⊢
          refine for_sq (fun B4 j σ' H' => ∃ B5 ps, (∃ o8, σ' = [some (.ref u), some (.int (most : Int)), some (V.ref pa), some (.ref pf), some (.ref m), some (.int (st : Int)), some (.str own), some (.int (i : Int)), o8]) ∧ Ex B3 B4 ∧ Ex B4 B5 ∧ At (ZE.del H u) B H B5 H' ∧ B5 u = none ∧ Mu K B5 H' m (ps.map pr) ∧ Way st fl ps ∧ ps.length ≤ i * 20 + j ∧ Urn H' u (n + 9 + i * 40 + j))
            (ed_drop (k := i + 1) (ed_var rfl (dp_up f3 (g1.trans g2))) (ed_op (ed_var rfl (.int (i : Int))) (ed_int 1) (rv_int (d := .int ((i + 1 : Nat) : Int)) fun _ => .int _))) (.inl rfl) g3'.b
            (fun H10 e10 => ⟨_, ps, ⟨_, rfl⟩, le_sub g3'.b e10, Ex.refl _, g3'.next e10, urn_out g8' g4, g5'.next g3'.b e10, g6, by omega, g8'.up e10⟩) (fun B2 i σ3 H3 ⟨B3, ps, _, _, c, a, _⟩ => c.trans a.b) (fun B4 j d x σ3 H10 hj hx ⟨B5, ps, ⟨o8, hσ⟩, k1, k2, k3, k4, k5, k6, k7, k8⟩ => ?_) (fun B4 σ3 H10 ⟨B5, ps, ⟨o8, hσ⟩, k1, k2, k3, k4, k5, k6, k7, k8⟩ => ?_)
          · subst hσ
            rw [List.getElem?_drop, List.getElem?_map] at hj
            obtain ⟨far, hfar, rfl⟩ := Option.map_eq_some_iff.mp hj
            obtain rfl := p_str hx
            have jl : i + 1 + j < fl.length := (List.getElem?_eq_some_iff.mp hfar).1
            have mfar := List.mem_of_getElem? hfar
            have lt : ZO.sLt own far = true := by
              have z := List.pairwise_iff_getElem.mp up i (i + 1 + j) il jl (by omega)
              rw [(List.getElem?_eq_some_iff.mp ho).2, (List.getElem?_eq_some_iff.mp hfar).2] at z
              exact z
            refine l_if (l_and (c := decide (0 < (st : Int))) (et_of (K := K) (ed_op (ed_var rfl (.int (st : Int))) (ed_int 0) (rv_int fun _ => .bl _))) k3.b (fun hc H11 e11 => ?_) (fun hc H11 e11 => l_testEq (u_call (R := fun d => ∃ r : Nat, d = .int r ∧ r < 4) rfl (ea_consD (ed_int 4) ea_nilD) ⟨4, rfl, by decide, by decide, rfl, rfl⟩ (k3.grow e11).b k4 (k8.up e11) (by omega) fun d v H12 hr12 e12 hv12 un12 => ?_)))
            · exact (if_neg Bool.false_ne_true).mpr ⟨B5, ps, ⟨_, rfl⟩, k1, k2, k3.grow e11, k4, k5.grow e11, k6, by omega, (k8.up e11).le (by omega)⟩
            · obtain ⟨r2, rfl, rl2⟩ := hr12
              obtain rfl := p_int hv12
              refine ⟨_, _, .int _, .int _, int_shaped _, int_shaped _, _, rfl, ?_⟩
              have um11 : u ≠ m := um
              have k3' := (k3.grow e11).urn' del_at k4 e12 un12.some
              have k5' := (k5.grow e11).move (keep_del e12 um.symm)
              rw [eqv_int]
              by_cases cr : (r2 : Int) = 0
              · refine (if_pos (decide_eq_true cr)).mpr ?_
                refine l_append (d := pr (if st = 1 then (own, far) else (far, own))) rfl k5' k3'.b (by rw [List.length_map]; omega) (ed_if (b := decide (st = 1)) (et_of (ed_is (ed_op (ed_var rfl (.int (st : Int))) (ed_int 1) (rv_eq (int_shaped _) (int_shaped _))) ?_)) (fun h1 => ?_) fun h1 => ?_) fun H13 ws e13 m13 => ?_
                · rw [eqv_int]
                  exact congrArg _ (decide_eq_decide.mpr (by omega))
                · rw [if_pos (of_decide_eq_true h1)]
                  exact ed_tup (ea_consD (ed_var rfl (.str own)) (ea_consD (ed_var rfl (.str far)) ea_nilD)) (by show 2 ≤ 100000; decide)
                · rw [if_neg (of_decide_eq_false h1)]
                  exact ed_tup (ea_consD (ed_var rfl (.str far)) (ea_consD (ed_var rfl (.str own)) ea_nilD)) (by show 2 ≤ 100000; decide)
                · have b13 : sub H13 H12 B5 u = none := urn_out un12 k4
                  have mb := (k5'.next k3'.b e13).nb
                  refine ⟨sub H13 H12 B5, ps ++ [if st = 1 then (own, far) else (far, own)], ⟨_, rfl⟩, k1, k2.trans (le_sub k3'.b e13), (k3'.next e13).mut mb km0 (isSome_up e13 k5'.isS), b13, by rw [List.map_append]; exact m13, fun p mp => ?_, ?_, ?_⟩
                  · rcases List.mem_append.mp mp with mp | mp
                    · exact k6 p mp
                    · rw [List.mem_singleton.mp mp]
                      by_cases h1 : st = 1
                      · rw [if_pos h1]
                        exact ⟨mo, mfar, fun _ => lt, fun z => absurd h1 z⟩
                      · rw [if_neg h1]
                        exact ⟨mfar, mo, fun z => absurd z h1, fun _ => lt⟩
                  · rw [List.length_append, List.length_singleton]
                    omega
                  · exact (un12.up e13).move (by rw [upd_ne um])
              · exact (if_neg (by rw [decide_eq_false cr]; exact Bool.false_ne_true)).mpr ⟨B5, ps, ⟨_, rfl⟩, k1, k2, k3', k4, k5', k6, by omega, un12⟩
          · rw [List.length_drop, List.length_map] at k7 k8
            exact ⟨B5, ps, ⟨_, _, _, hσ⟩, g1, (g2.trans k1).trans k2, k3, k4, k5, k6, by omega, k8.le (by omega)⟩
        · subst hσ
          rw [List.length_map] at g7 g8
          obtain ⟨B7, h1, h2, h3, h4⟩ := g5.hold g3 m0
          refine g_ret (d := bkD fl ps) (ed_tup (ea_consD (ed_cb (ea_consD (ed_var rfl (dp_up f3 ((g1.trans g2).trans h1))) ea_nilD) (rc_tupleN (.inl rfl))) (ea_consD (ed_cb (ea_consD (ed_var rfl h3) ea_nilD) (rc_tupleN (.inl rfl))) ea_nilD)) (by show 2 ≤ 100000; decide)) h2.b fun v H9 e9 hv => q _ v H9 ⟨fl, ps, ⟨up, inp, by omega, by omega, fun p m => ⟨(g6 p m).1, (g6 p m).2.1⟩, ?_, by omega⟩, rfl⟩ (h2.ex.trans e9) (h2.out e9 hv) ((g8.up e9).le (by omega))
          by_cases h1 : st = 1
          · exact .inl fun p m => (g6 p m).2.2.1 h1
          · exact .inr fun p m => (g6 p m).2.2.2 h1
end
end S5

set_option Elab.async false
set_option linter.all false
set_option maxRecDepth 100000
namespace S5
open PySem PySem.Spec PyProof.Rows L2 Evl ZE ZS StX ZD
section
variable {P : Program} {w : World} {K : PySem.W.Frag} {mg : Str → Option Value} {base : Heap} {aI : Addr}
/-! ### told: the law's own -/
abbrev Tab := Str → List Str
def stepT (own : Str) (tab : Tab) (far : Str) : Tab := fun y => if y = own then tab own ++ (tab far).filter (fun b => !decide (b ∈ tab own)) else tab y
def rowT (tab : Tab) (own : Str) : Tab := (tab own).foldl (stepT own) tab
def turnT (xs : List Str) (tab : Tab) : Tab := xs.foldl rowT tab
def iterT (xs : List Str) (tab : Tab) : Nat → Tab
  | 0 => tab
  | n + 1 => turnT xs (iterT xs tab n)
def tellT (xs : List Str) (ps : List (Str × Str)) : Tab := iterT xs (toldF ps) xs.length
def tlF (xs : List Str) (ps : List (Str × Str)) (x : Str) : List Str := xs.filter fun b => decide (b ∈ tellT xs ps x)
structure Bo (xs : List Str) (ps : List (Str × Str)) : Prop where
  ok : Oks xs
  few : xs.length ≤ 5
  lp : ps.length ≤ 100
  ins : ∀ p ∈ ps, p.1 ∈ xs ∧ p.2 ∈ xs
def GoodT (xs : List Str) (tab : Tab) : Prop := ∀ x, (∀ b ∈ tab x, b ∈ xs) ∧ ∀ b, (tab x).count b ≤ 100
theorem good_len {xs : List Str} {tab : Tab} (h : GoodT xs tab) (few : xs.length ≤ 5) (x : Str) : (tab x).length ≤ 500 := by
  have z := len_count xs (tab x) 100 (h x).1 (h x).2
  have : xs.length * 100 ≤ 5 * 100 := Nat.mul_le_mul_right _ few
  omega
theorem good_step {xs : List Str} {tab : Tab} (h : GoodT xs tab) (own far : Str) : GoodT xs (stepT own tab far) := fun y => by
  unfold stepT
  by_cases c : y = own
  · rw [if_pos c]
    refine ⟨fun b m => (List.mem_append.mp m).elim ((h own).1 b) fun m => (h far).1 b (List.mem_filter.mp m).1, fun b => ?_⟩
    rw [List.count_append]
    by_cases z : b ∈ tab own
    · have : ((tab far).filter fun b => !decide (b ∈ tab own)).count b = 0 := List.count_eq_zero.mpr fun m => by
        have := (List.mem_filter.mp m).2
        simp [z] at this
      rw [this]
      exact (h own).2 b
    · rw [List.count_eq_zero.mpr z, Nat.zero_add]
      exact Nat.le_trans (List.Sublist.count_le b List.filter_sublist) ((h far).2 b)
  · rw [if_neg c]
    exact h y
theorem good_foldl {xs : List Str} (own : Str) : ∀ (l : List Str) {tab : Tab}, GoodT xs tab → GoodT xs (l.foldl (stepT own) tab)
  | [], _, h => h
  | x :: l, _, h => good_foldl own l (good_step h own x)
theorem good_turn {xs : List Str} : ∀ (l : List Str) {tab : Tab}, GoodT xs tab → GoodT xs (l.foldl rowT tab)
  | [], _, h => h
  | x :: l, tab, h => good_turn l (good_foldl x (tab x) h)
theorem good_iter {xs : List Str} {tab : Tab} (h : GoodT xs tab) : ∀ n, GoodT xs (iterT xs tab n)
  | 0 => h
  | n + 1 => good_turn xs (good_iter h n)
theorem good_start {xs : List Str} {ps : List (Str × Str)} (bo : Bo xs ps) : GoodT xs (toldF ps) := fun x => ⟨fun b m => by
  obtain ⟨p, mp, rfl⟩ := List.mem_map.mp m
  exact (bo.ins p (List.mem_filter.mp mp).1).2, fun b => Nat.le_trans (List.count_le_length) (by
    unfold toldF
    rw [List.length_map]
    exact Nat.le_trans (List.length_filter_le _ _) bo.lp)⟩
def gT (tab : Tab) (x : Str) : PyData := .list ((tab x).map .str)
theorem gT_step {xs : List Str} {tab : Tab} {own far : Str} (m : own ∈ xs) : setF (mapF (gT tab) xs) own (.list ((tab own).map PyData.str ++ ((tab far).filter fun b => !decide (b ∈ tab own)).map .str)) = mapF (gT (stepT own tab far)) xs := setF_map m (by
    unfold gT stepT
    rw [if_pos rfl, List.map_append]) fun y c => by
    unfold gT stepT
    rw [if_neg c]
def tdP (K : PySem.W.Frag) (ds : List PyData) (R : Hp → V → Prop) : Prop := ∃ xs ps, ds = [bkD xs ps] ∧ Bo xs ps ∧ R = dictR K (mapF (fun x => tp (tlF xs ps x)) xs)
abbrev sLTold : Stmt := (top 45)
abbrev NLTold : List Str := ["_law_book_here", "_law_flats", "_law_pairs_so", "_law_table", "_law_own", "_law_pair", "_law_turn", "_law_far", "_law_bit"]
theorem scLTold : FnScope NLTold ["_law_book_here"] (defScope sLTold) := ⟨rfl, rfl, rfl, by decide +kernel, rfl, by decide +kernel, by decide +kernel⟩
theorem ok_told {f : Addr} {fd : FuncData} (F : Fun K "_law_told" "_law_told" sLTold f fd) (T : Tx K mg aI) (Ti : Ty K mg) : FnOk P w K mg base CX0 1 f fd ["_law_book_here"] (spR K (tdP K)) := by
  refine F.ok scLTold (fun vs H Q E h => ?_) (fun cdv A outer s H vs Q E hr h => ?_)
  · obtain ⟨B, ds, R, _, hv, ⟨xs, ps, rfl, _⟩, _⟩ := h
    exact DpAll.len hv
  · obtain ⟨B, ds, R, b, hv, ⟨xs, ps, rfl, bo, rfl⟩, q⟩ := h
    obtain ⟨v1, rfl, h1⟩ := one hv
    have few := bo.few
    have lp := bo.lp
    refine ⟨_, (pss_cons (ps_asg (pv 0) (xTup K 2 rfl (pgs_cons (pg_name (i := 1) scLTold.nd rfl (by first | exact .inl rfl | exact .inr rfl)) (pgs_cons (pg_name (i := 2) scLTold.nd rfl (by first | exact .inl rfl | exact .inr rfl)) pgs_nil)))) (pss_cons (ps_set (i := 3) scLTold.nd rfl (by first | exact .inl rfl | exact .inr rfl) (pe_callTy (xDictP K rfl) (by rfl) Ti.dict (by decide +kernel) (pa_cons (pe_lc (own := [("_law_own", 4)]) rfl scLTold.nd (xSeq K (pv 1)) (blkOk_by (N := NLTold) (sc := defScope sLTold) (by decide +kernel)) (fun _ _ _ _ _ => (pg_name (i := 4) scLTold.nd rfl (by first | exact .inl rfl | exact .inr rfl))) (fun _ _ _ _ _ => pts_nil) (fun _ _ _ _ _ => (pe_tup (pa_cons (pv 4) (pa_cons (pe_lc (own := [("_law_pair", 5)]) rfl scLTold.nd (xSeq K (pv 2)) (by exact blkOk_by (by rfl)) (fun _ _ _ _ _ => (pg_name (i := 5) scLTold.nd rfl (by first | exact .inl rfl | exact .inr rfl))) (fun _ _ _ _ _ => pts_one (pt_cmpR (xEq K hr.units) (pe_ix (xIx K) (pv 5) pe_int (fun _ _ => rfl)) (pv 4) (nomark _))) (fun _ _ _ _ _ => (pe_ix (xIx K) (pv 5) pe_int (fun _ _ => rfl)))) pa_nil))))) pa_nil))) (pss_cons (ps_for PassesOwn.never rfl (pi_range1 rfl Ti.range (pa_cons (pe_callB (xLen K) (by rfl) T.len (by decide +kernel) (pa_cons (pv 1) pa_nil)) pa_nil)) (pg_name (i := 6) scLTold.nd rfl (by first | exact .inl rfl | exact .inr rfl)) (pss_one (ps_for PassesOwn.never rfl (xSeq K (pv 1)) (pg_name (i := 4) scLTold.nd rfl (by first | exact .inl rfl | exact .inr rfl)) (pss_one (ps_for PassesOwn.never rfl (xSeq K (pe_callTy (xList K) (by rfl) T.list (by decide +kernel) (pa_cons (pe_dget (hu_of hr) (pv 3) (pv 4) (fun _ _ => rfl)) pa_nil))) (pg_name (i := 7) scLTold.nd rfl (by first | exact .inl rfl | exact .inr rfl)) (pss_one (ps_dput (hu_of hr) (pv 3) (pv 4) (pe_op (xCatL K) (pe_dget (hu_of hr) (pv 3) (pv 4) (fun _ _ => rfl)) (pe_lc (own := [("_law_bit", 8)]) rfl scLTold.nd (xSeq K (pe_dget (hu_of hr) (pv 3) (pv 7) (fun _ _ => rfl))) (blkOk_by (N := NLTold) (sc := defScope sLTold) (by decide +kernel)) (fun _ _ _ _ _ => (pg_name (i := 8) scLTold.nd rfl (by first | exact .inl rfl | exact .inr rfl))) (fun _ _ _ _ _ => pts_one (pt_cmpR (xNin K (u65 hr)) (pv 8) (pe_dget (hu_of hr) (pv 3) (pv 4) (fun _ _ => rfl)) (by rfl))) (fun _ _ _ _ _ => (pv 8)))) rfl))))))) (pss_one (ps_ret (pe_callTy (xDictP K rfl) (by rfl) Ti.dict (by decide +kernel) (pa_cons (pe_lc (own := [("_law_own", 4)]) rfl scLTold.nd (xSeq K (pv 1)) (blkOk_by (N := NLTold) (sc := defScope sLTold) (by decide +kernel)) (fun _ _ _ _ _ => (pg_name (i := 4) scLTold.nd rfl (by first | exact .inl rfl | exact .inr rfl))) (fun _ _ _ _ _ => pts_nil) (fun _ _ _ _ _ => (pe_tup (pa_cons (pv 4) (pa_cons (pe_callTy (xTuple K) (by rfl) T.tuple (by decide +kernel) (pa_cons (pe_lc (own := [("_law_far", 7)]) rfl scLTold.nd (xSeq K (pv 1)) (by exact blkOk_by (by rfl)) (fun _ _ _ _ _ => (pg_name (i := 7) scLTold.nd rfl (by first | exact .inl rfl | exact .inr rfl))) (fun _ _ _ _ _ => pts_one (pt_cmpR (xIn K (u65 hr)) (pv 7) (pe_dget (hu_of hr) (pv 3) (pv 4) (fun _ _ => rfl)) (by rfl))) (fun _ _ _ _ _ => (pv 7))) pa_nil)) pa_nil))))) pa_nil))))))), ?_⟩
    -- flats, pairs
    refine l_unpack rfl h1 b fun vf vp hf hp => ?_
    -- table
    refine l_asg (d_new (xs := xs) (g := gT (toldF ps)) (B := B) ?_ b fun t H2 B2 ht0 e2 bb bh bs md => ?_)
    · refine ed_lcSA (fun x => .tuple [.str x, gT (toldF ps) x]) (ed_var rfl hf) (.inr rfl) (by omega) (fun _ => rfl) fun x m B1 e => ed_tup (ea_consD (ed_var rfl (.str x)) (ea_consD (ed_is (ed_lcM (P := P1 K _ _ 5) pr_inj (fun p => decide (p.1 = x)) (fun p => .str p.2) (ed_var rfl (dp_up hp e)) (.inr rfl) (by omega) (tg_name fun _ => rfl) (fun p mp σ2 B2 e2 ⟨v, hs, hd⟩ => ?_) (fun p mp _ σ2 B2 e2 ⟨v, hs, hd⟩ => ?_) p1_up) ?_) ea_nilD)) (by show 2 ≤ 100000; decide)
      · subst hs
        exact et_of (ed_is (ed_op (ed_op (ed_var rfl hd) (ed_int 0) (rv_ix (ds := [.str p.1, .str p.2]) (.inr rfl) rfl)) (ed_var rfl (.str x)) (rv_eq (str_shaped (bo.ok _ (bo.ins p mp).1)) (str_shaped (bo.ok x m)))) (congrArg _ (eq_str (bo.ok _ (bo.ins p mp).1) (bo.ok x m))))
      · subst hs
        exact ed_op (ed_var rfl hd) (ed_int 1) (rv_ix (ds := [.str p.1, .str p.2]) (.inr rfl) rfl)
      · unfold gT toldF
        rw [List.map_map]
        rfl
    have a2 := (At.start b (Ex.refl H)).mid e2 bb bs
    have t0 : H t = none := ht0
    -- again and again
    refine for_rng (N := xs.length) (fun i σ' H' => ∃ B3, (∃ o4 o6 o7, σ' = [some v1, some vf, some vp, some (.ref t), o4, none, o6, o7, none]) ∧ Ex B2 B3 ∧ At H B H B3 H' ∧ MuD K B3 H' t (5 + i * 2500) (mapF (gT (iterT xs (toldF ps) i)) xs))
      (ea_consD (ed_is (ed_cb (ea_consD (ed_var rfl (dp_up hf bb)) ea_nilD) (rc_len (.inr rfl))) (by rw [List.length_map])) ea_nilD) a2.b (by omega)
      (fun H3 e3 => ⟨B2, ⟨_, _, _, rfl⟩, Ex.refl _, a2.grow e3, (md.le (by omega)).grow e3⟩) (fun i σ3 H3 hi ⟨B3, ⟨o4, o6, o7, hσ⟩, g1, g2, g3⟩ => ?_) (fun σ3 H3 ⟨B3, ⟨o4, o6, o7, hσ⟩, g1, g2, g3⟩ => ?_)
    · subst hσ
      generalize hT : iterT xs (toldF ps) i = tab at g3
      have gd : GoodT xs tab := hT ▸ good_iter (good_start bo) i
      refine for_sqE (B := B3) (ds := xs.map .str) (ed_var rfl (dp_up hf (bb.trans g1))) (.inr rfl) g2.b fun v H4 e4 hv => ⟨sub H4 H3 B3, fun j σ' H' => ∃ B4 tab2, (∃ o4 o7, σ' = [some v1, some vf, some vp, some (.ref t), o4, none, some (.int (i : Int)), o7, none]) ∧ Ex (sub H4 H3 B3) B4 ∧ At H B H B4 H' ∧ tab2 = (xs.take j).foldl rowT tab ∧ MuD K B4 H' t (5 + i * 2500 + j * 500) (mapF (gT tab2) xs),
        hv, ⟨_, tab, ⟨_, _, rfl⟩, Ex.refl _, g2.next e4, rfl, (g3.next g2.b e4).le (by omega)⟩, fun j σ3 H3 ⟨B4, _, _, c, a, _⟩ => c.trans a.b, fun j d x σ3 H5 hj hx ⟨B4, tab2, ⟨o4, o7, hσ⟩, k1, k2, k3, k4⟩ => ?_, fun σ3 H5 ⟨B4, tab2, ⟨o4, o7, hσ⟩, k1, k2, k3, k4⟩ => ?_⟩
      · subst hσ
        rw [List.getElem?_map] at hj
        obtain ⟨own, ho, rfl⟩ := Option.map_eq_some_iff.mp hj
        obtain rfl := p_str hx
        have mo := List.mem_of_getElem? ho
        have jl : j < xs.length := (List.getElem?_eq_some_iff.mp ho).1
        have gd2 : GoodT xs tab2 := k3 ▸ good_turn (xs.take j) gd
        obtain ⟨kvs, w1, w2, w3, w4⟩ := k4.hold k2 t0
        have ln := good_len gd2 few own
        refine for_sqE (B := upd B4 t (.dK kvs)) (D0 := .list ((tab2 own).map .str)) (ds := (tab2 own).map .str) (ed_cb (ea_consD (ed_dget (d := gT tab2 own) rfl rfl upd_same w4 (if_pos mo)) ea_nilD) (rc_listN (.inl rfl))) (.inl rfl) w3.b fun v H6 e6 hv => ⟨sub H6 H5 B4, fun l σ' H' => ∃ B5 tab3, (∃ o7, σ' = [some v1, some vf, some vp, some (.ref t), some (.str own), none, some (.int (i : Int)), o7, none]) ∧ Ex (sub H6 H5 B4) B5 ∧ At H B H B5 H' ∧ tab3 = ((tab2 own).take l).foldl (stepT own) tab2 ∧ MuD K B5 H' t (5 + i * 2500 + j * 500 + l) (mapF (gT tab3) xs),
          dp_less hv (fun z => z) e6 w1, ⟨_, tab2, ⟨_, rfl⟩, Ex.refl _, k2.next e6, rfl, (k4.next k2.b e6).le (by omega)⟩, fun j σ3 H3 ⟨B4, _, _, c, a, _⟩ => c.trans a.b, fun l d x σ3 H7 hl hx ⟨B5, tab3, ⟨o7, hσ⟩, m1, m2, m3, m4⟩ => ?_, fun σ3 H7 ⟨B5, tab3, ⟨o7, hσ⟩, m1, m2, m3, m4⟩ => ?_⟩
        · subst hσ
          rw [List.getElem?_map] at hl
          obtain ⟨far, hfar, rfl⟩ := Option.map_eq_some_iff.mp hl
          obtain rfl := p_str hx
          have ll : l < (tab2 own).length := (List.getElem?_eq_some_iff.mp hfar).1
          have mfar : far ∈ xs := (gd2 own).1 far (List.mem_of_getElem? hfar)
          have gd3 : GoodT xs tab3 := m3 ▸ good_foldl own _ gd2
          obtain ⟨kvs2, y1, y2, y3, y4⟩ := m4.hold m2 t0
          have l1 := good_len gd3 few own
          have l2 := good_len gd3 few far
          refine s_tdput (x := own) (d := .list ((tab3 own).map PyData.str ++ ((tab3 far).filter fun b => !decide (b ∈ tab3 own)).map .str)) rfl rfl m4 y1 m2.b (by omega) (ed_op (ed_dget (d := gT tab3 own) rfl rfl upd_same y4 (if_pos mo)) (ed_lcS (fun b => !decide (b ∈ tab3 own)) .str (ed_dget (d := gT tab3 far) rfl rfl upd_same y4 (if_pos mfar)) (.inl rfl) (by omega) (fun _ => rfl) (fun x m B1 e => ?_) fun x m _ B1 e => ed_var rfl (.str x)) (rv_catL ?_)) fun H8 kvs3 e8 md8 => ?_
          · have ox := bo.ok x ((gd3 far).1 x m)
            have oo : Oks (tab3 own) := fun z mz => bo.ok z ((gd3 own).1 z mz)
            exact et_of (ed_is (ed_op (ed_var rfl (.str x)) (ed_dget (d := gT tab3 own) rfl rfl (e t _ upd_same) (y4.up e) (if_pos mo)) (rv_notIn (ds := (tab3 own).map .str) (.inl rfl) (str_shaped ox) (sq_shaped (.inl rfl) (tx_strs oo 0) (by decide)))) (congrArg (fun z => PyData.bool (!z)) (any_str ox oo)))
          · rw [List.length_map, List.length_map]
            have := List.length_filter_le (fun b => !decide (b ∈ tab3 own)) (tab3 far)
            omega
          · have n8 := (m4.next m2.b e8).nb
            exact ⟨_, stepT own tab3 far, ⟨_, rfl⟩, m1.trans (le_sub m2.b e8), (m2.next e8).mut n8 t0 (isSome_up e8 m4.isS), by rw [foldl_snoc _ _ hfar, m3], md8.as (gT_step mo)⟩
        · rw [List.length_map, List.take_length] at m3
          rw [List.length_map] at m4
          refine ⟨B5, tab3, ⟨_, _, hσ⟩, (k1.trans (le_sub k2.b e6)).trans m1, m2, ?_, m4.le (by omega)⟩
          rw [foldl_snoc _ _ ho, m3, k3]
          rfl
      · rw [List.length_map, List.take_length] at k3
        rw [List.length_map] at k4
        refine ⟨B4, ⟨_, _, _, hσ⟩, (g1.trans (le_sub g2.b e4)).trans k1, k2, ?_⟩
        have e0 : iterT xs (toldF ps) (i + 1) = tab2 := by rw [k3, ← hT]; rfl
        rw [e0]
        exact k4.le (by omega)
    · subst hσ
      change MuD K B3 H3 t (5 + xs.length * 2500) (mapF (gT (tellT xs ps)) xs) at g3
      have gd : GoodT xs (tellT xs ps) := good_iter (good_start bo) _
      obtain ⟨kvs, w1, w2, w3, w4⟩ := g3.hold g2 t0
      have hf3 := dp_up hf ((bb.trans g1).trans w2)
      dsimp only
      refine l_ret (d_new (xs := xs) (g := fun x => tp (tlF xs ps x)) (B := upd B3 t (.dK kvs)) ?_ w3.b fun p H4 B4 hp4 e4 bb4 bh4 bs4 md4 => ?_)
      · refine ed_lcSA (fun x => .tuple [.str x, tp (tlF xs ps x)]) (ed_var rfl hf3) (.inr rfl) (by omega) (fun _ => rfl) fun x m B1 e => ed_tup (ea_consD (ed_var rfl (.str x)) (ea_consD (ed_cb (ea_consD (ed_lcS (fun b => decide (b ∈ tellT xs ps x)) .str (ed_var rfl (dp_up hf3 e)) (.inr rfl) (by omega) (fun _ => rfl) (fun y my B2 e2 => ?_) fun y my _ B2 e2 => ed_var rfl (.str y)) ea_nilD) (rc_tupleN (.inl rfl))) ea_nilD)) (by show 2 ≤ 100000; decide)
        have oo : Oks (tellT xs ps x) := fun z mz => bo.ok z ((gd x).1 z mz)
        exact et_of (ed_is (ed_op (ed_var rfl (.str y)) (ed_dget (d := gT (tellT xs ps) x) rfl rfl ((e.trans e2) t _ upd_same) (w4.up (e.trans e2)) (if_pos m)) (rv_in (ds := (tellT xs ps x).map .str) (.inl rfl) (str_shaped (bo.ok y my)) (sq_shaped (.inl rfl) (tx_strs oo 0) (by decide)))) (congrArg _ (any_str (bo.ok y my) oo)))
      · obtain ⟨kvs4, z1, z2, z3, z4⟩ := md4
        have a4 := w3.mid e4 bb4 bs4
        have p0 : H p = none := g2.fresh hp4
        exact q _ H4 a4.ex ⟨p, kvs4, rfl, by rw [sub_yes fun z => by rw [p0] at z; exact Bool.false_ne_true z.1]; exact z1, z4.up a4.base⟩
end
end S5

set_option Elab.async false
set_option linter.all false
set_option maxRecDepth 100000
namespace S5
open PySem PySem.Spec PyProof.Rows L2 Evl ZE ZS StX ZD
section
variable {P : Program} {w : World} {K : PySem.W.Frag} {mg : Str → Option Value} {base : Heap} {aI : Addr}
/-! ### wide: the law's own -/
def wideF (xs : List Str) (tl : Str → List Str) (bag : List Str) : List Str := if ("#" : Str) ∈ bag then ["#"] else xs.filter fun x => decide (x ∈ bag ++ bag.flatMap tl)
def wdP (ds : List PyData) (d : PyData) : Prop := ∃ A xs ps bag, ds = [bkD xs ps, A] ∧ Sq A (bag.map .str) ∧ Bo xs ps ∧ Oks bag ∧ bag.length ≤ 60 ∧ (∀ x ∈ bag, x ∈ xs ∨ x = ("#" : Str)) ∧ d = tp (wideF xs (tlF xs ps) bag)
theorem tl_len {xs : List Str} (ps : List (Str × Str)) (few : xs.length ≤ 5) (x : Str) : (tlF xs ps x).length ≤ 5 := Nat.le_trans (List.length_filter_le _ _) few
theorem flat_len {α β : Type} (f : α → List β) (n : Nat) : ∀ l : List α, (∀ x ∈ l, (f x).length ≤ n) → (l.flatMap f).length ≤ l.length * n
  | [], _ => Nat.zero_le _
  | x :: l, h => by
    have z := flat_len f n l fun y m => h y (List.Mem.tail _ m)
    have z2 := h x (List.Mem.head _)
    rw [List.flatMap_cons, List.length_append, List.length_cons, Nat.succ_mul]
    omega
abbrev sLWide : Stmt := (top 46)
abbrev NLWide : List Str := ["_law_book_here", "_law_bag", "_law_told_so", "_law_found", "_law_own"]
theorem scLWide : FnScope NLWide ["_law_book_here", "_law_bag"] (defScope sLWide) := ⟨rfl, rfl, rfl, by decide +kernel, rfl, by decide +kernel, by decide +kernel⟩
theorem ok_wide {f ft : Addr} {fd fdt : FuncData} (F : Fun K "_law_wide" "_law_wide" sLWide f fd) (T : Tx K mg aI) (Ti : Ty K mg) (C_law_told : Cal P w K mg base 1 "_law_told" ["_law_book_here"] (spR K (tdP K)) ft fdt) : FnOk P w K mg base CX0 2 f fd ["_law_book_here", "_law_bag"] (spD K wdP) := by
  refine F.ok scLWide (fun vs H Q E h => ?_) (fun cdv A outer s H vs Q E hr h => ?_)
  · obtain ⟨B, ds, d, b, hv, ⟨A1, xs, ps, bag, rfl, _⟩, _⟩ := h
    exact DpAll.len hv
  · obtain ⟨B, ds, d, b, hv, ⟨A1, xs, ps, bag, rfl, sA, bo, ob, lb, ins, rfl⟩, q⟩ := h
    obtain ⟨v1, v2, rfl, h1, h2⟩ := two hv
    have few := bo.few
    have okS : PyData.strOk "#" = true := oks_sharp _ (List.Mem.head _)
    refine ⟨_, (pss_cons (ps_if (pt_cmpR (xIn K (u65 hr)) pe_str (pv 1) (by rfl)) (pss_one (ps_ret (pe_tup (pa_cons pe_str pa_nil)))) pss_nil) (pss_cons (ps_asg (pe_tup (pa_cons (pe_call C_law_told.G (hr.mono (by decide)) (by rfl) C_law_told.m C_law_told.kp C_law_told.b .nil pass0 (pa_cons (pv 0) pa_nil)) (pa_cons (pe_callTy (xList K) (by rfl) T.list (by decide +kernel) (pa_cons (pv 1) pa_nil)) pa_nil))) (xTup K 2 rfl (pgs_cons (pg_name (i := 2) scLWide.nd rfl (by first | exact .inl rfl | exact .inr rfl)) (pgs_cons (pg_name (i := 3) scLWide.nd rfl (by first | exact .inl rfl | exact .inr rfl)) pgs_nil)))) (pss_cons (ps_for PassesOwn.never rfl (xSeq K (pv 1)) (pg_name (i := 4) scLWide.nd rfl (by first | exact .inl rfl | exact .inr rfl)) (pss_one (ps_set (i := 3) scLWide.nd rfl (by first | exact .inl rfl | exact .inr rfl) (pe_op (xCatL K) (pv 3) (pe_callTy (xList K) (by rfl) T.list (by decide +kernel) (pa_cons (pe_dget (hu_of hr) (pv 2) (pv 4) (fun _ _ => rfl)) pa_nil)))))) (pss_one (ps_ret (pe_callTy (xTuple K) (by rfl) T.tuple (by decide +kernel) (pa_cons (pe_lc (own := [("_law_own", 4)]) rfl scLWide.nd (xSeq K (pe_ix (xIx K) (pv 0) pe_int (fun _ _ => rfl))) (blkOk_by (N := NLWide) (sc := defScope sLWide) (by decide +kernel)) (fun _ _ _ _ _ => (pg_name (i := 4) scLWide.nd rfl (by first | exact .inl rfl | exact .inr rfl))) (fun _ _ _ _ _ => pts_one (pt_cmpR (xIn K (u65 hr)) (pv 4) (pv 3) (by rfl))) (fun _ _ _ _ _ => (pv 4))) pa_nil))))))), ?_⟩
    refine g_if1 (c := decide (("#" : Str) ∈ bag)) (et_of (ed_is (ed_op (ed_str "#") (ed_var rfl h2) (rv_in (ds := bag.map .str) sA (str_shaped okS) (sq_shaped sA (tx_strs ob 0) (by decide)))) (congrArg _ (any_str okS ob)))) b (fun hc H2 e2 => ?_) fun hc H2 e2 => ?_
    · have e0 : wideF xs (tlF xs ps) bag = (["#"] : List Str) := if_pos (of_decide_eq_true hc)
      exact g_ret (d := tp (wideF xs (tlF xs ps) bag)) (ed_is (ed_tup (ea_consD (ed_str "#") ea_nilD) (by decide)) (by rw [e0]; rfl)) (b.trans e2) fun v H3 e3 hv => q v H3 (e2.trans e3) (dp_up hv (sub_step e2))
    · have hc' := of_decide_eq_false hc
      have e0 : wideF xs (tlF xs ps) bag = xs.filter fun x => decide (x ∈ bag ++ bag.flatMap (tlF xs ps)) := if_neg hc'
      rw [e0] at q
      have a2 := (At.start b (Ex.refl H)).grow e2
      refine l_tup2 ((er_callR dictR_up (ea_consD (ed_var rfl h1) ea_nilD) ⟨xs, ps, rfl, bo, rfl⟩) H2 a2.b _ fun v3 H3 e3 hv3 => ?_)
      obtain ⟨t, kvs, rfl, ht, htd⟩ := hv3
      have a3 := a2.next e3
      have u3 := le_sub a2.b e3
      refine (ed_cb (B := sub H3 H2 B) (ea_consD (ed_var rfl (dp_up h2 u3)) ea_nilD) (rc_listN sA)) H3 a3.b _ fun v4 H4 e4 hv4 => e_tup2 fun p hp => ?_
      have a4 := (a3.next e4).new (o := .tup [.ref t, v4]) hp
      have u4 := le_sub a3.b e4
      have ht4 := u4 t _ ht
      have td4 := htd.up u4
      generalize sub H4 H3 (sub H3 H2 B) = B4 at a4 u4 hv4 ht4 td4
      have u04 : Ex B B4 := u3.trans u4
      refine for_sq (fun B5 i σ' H' => ∃ B6 v o4, σ' = [some v1, some v2, some (.ref t), some v, o4] ∧ Ex B4 B5 ∧ Ex B5 B6 ∧ At H B H B6 H' ∧ Dp K B6 v (.list ((bag ++ (bag.take i).flatMap (tlF xs ps)).map .str))) (ed_var rfl (dp_up h2 u04)) sA a4.b
        (fun H5 e5 => ⟨_, v4, _, rfl, le_sub a4.b e5, Ex.refl _, a4.next e5, dp_up (by rw [List.take_zero]; show Dp K B4 v4 (.list ((bag ++ []).map .str)); rw [List.append_nil]; exact hv4) (le_sub a4.b e5)⟩) (fun B2 i σ3 H3 ⟨_, _, _, _, _, c, a, _⟩ => c.trans a.b) (fun B5 i d x σ3 H5 hi hx ⟨B6, v, o4, hσ, g1, g2, g3, g4⟩ => ?_) (fun B5 σ3 H5 ⟨B6, v, o4, hσ, g1, g2, g3, g4⟩ => ?_)
      · subst hσ
        rw [List.getElem?_map] at hi
        obtain ⟨own, ho, rfl⟩ := Option.map_eq_some_iff.mp hi
        obtain rfl := p_str hx
        have mo := List.mem_of_getElem? ho
        have il : i < bag.length := (List.getElem?_eq_some_iff.mp ho).1
        have mx : own ∈ xs := (ins own mo).elim id fun z => absurd (z ▸ mo) hc'
        have fl := flat_len (tlF xs ps) 5 (bag.take i) fun x _ => tl_len ps few x
        rw [List.length_take, Nat.min_eq_left (by omega)] at fl
        have tl5 := tl_len ps few own
        refine g_asg1 (d := .list ((bag ++ (bag.take (i + 1)).flatMap (tlF xs ps)).map .str)) (ed_is (ed_op (ed_var rfl g4) (ed_cb (ea_consD (ed_dget (d := tp (tlF xs ps own)) rfl rfl ((g1.trans g2) t _ ht4) (td4.up (g1.trans g2)) (if_pos mx)) ea_nilD) (rc_listN (.inr rfl))) (rv_catL (by rw [List.length_map, List.length_map, List.length_append]; omega))) ?_) g3.b fun v5 H6 e6 hv5 => ⟨_, v5, _, rfl, g1, g2.trans (le_sub g3.b e6), g3.next e6, hv5⟩
        rw [← List.map_append, List.append_assoc, List.take_succ, ho, List.flatMap_append]
        congr 3
        show _ = (bag.take i).flatMap (tlF xs ps) ++ ([own].flatMap (tlF xs ps))
        rw [List.flatMap_singleton]
      · subst hσ
        rw [List.length_map, List.take_length] at g4
        have fl := flat_len (tlF xs ps) 5 bag fun x _ => tl_len ps few x
        have of : Oks (bag ++ bag.flatMap (tlF xs ps)) := fun x m => (List.mem_append.mp m).elim (ob x) fun m => by
          obtain ⟨y, my, mxy⟩ := List.mem_flatMap.mp m
          exact bo.ok x (List.mem_filter.mp mxy).1
        refine g_ret (ed_is (ed_cb (ea_consD (ed_lcS (fun x => decide (x ∈ bag ++ bag.flatMap (tlF xs ps))) .str (ed_op (ed_var rfl (dp_up h1 ((u04.trans g1).trans g2))) (ed_int 0) (rv_ix (ds := [tp xs, .tuple (ps.map pr)]) (d := tp xs) (.inr rfl) rfl)) (.inr rfl) (by omega) (fun _ => rfl) (fun x m B1 e => ?_) fun x m _ B1 e => ed_var rfl (.str x)) ea_nilD) (rc_tupleN (.inl rfl))) rfl) g3.b fun v H6 e6 hv => q v H6 (g3.ex.trans e6) (g3.out e6 hv)
        exact et_of (ed_is (ed_op (ed_var rfl (.str x)) (ed_var rfl (dp_up g4 e)) (rv_in (ds := (bag ++ bag.flatMap (tlF xs ps)).map .str) (.inl rfl) (str_shaped (bo.ok x m)) (sq_shaped (.inl rfl) (tx_strs of 0) (by decide)))) (congrArg _ (any_str (bo.ok x m) of)))
end
end S5

set_option Elab.async false
set_option linter.all false
set_option maxRecDepth 100000
namespace S5
open PySem PySem.Spec PyProof.Rows L2 Evl ZE ZS StX ZD
section
variable {P : Program} {w : World} {K : PySem.W.Frag} {mg : Str → Option Value} {base : Heap} {aI : Addr}
/-! ### sizes -/
def Sz (n : Nat) (a : List Str) : Prop := Oks a ∧ a.length ≤ n
theorem Sz.bag {n : Nat} {a : List Str} (h : Sz n a) (l : n ≤ 20 := by decide) : Bag (tp a) a := ⟨.inr rfl, h.1, Nat.le_trans h.2 l⟩
theorem ne_tp {a b : List Str} {n m : Nat} (h : Sz n a) (h' : Sz m b) (e : a = b) : (!PyData.eqv (tp a) (tp b)) = false := by
  rw [eq_tp h.1 h'.1, decide_eq_true e]
  rfl
theorem three' {vs : List V} {H : Hp} {d1 d2 d3 : PyData} (h : DpAll K H vs [d1, d2, d3]) : ∃ v u x, vs = [v, u, x] ∧ Dp K H v d1 ∧ Dp K H u d2 ∧ Dp K H x d3 := by
  cases h with
  | cons h1 t =>
    obtain ⟨u, x, rfl, h2, h3⟩ := two t
    exact ⟨_, _, _, rfl, h1, h2, h3⟩
def smOk : Nat → PyData → Bool
  | _, .str x => PyData.strOk x
  | _, .bool _ => true
  | _, .int _ => true
  | _, .none => true
  | n + 1, .list ds => decide (ds.length < 1000) && ds.all (smOk n)
  | n + 1, .tuple ds => decide (ds.length < 1000) && ds.all (smOk n)
  | _, _ => false
def smP (n : Nat) (ds : List PyData) (d : PyData) : Prop := ∃ x, ds = [x, x] ∧ smOk n x = true ∧ d = .bool true
theorem sm_tp {n : Nat} {a : List Str} (h : Oks a) (l : a.length ≤ 20) : smOk (n + 1) (tp a) = true := by
  show (decide ((a.map PyData.str).length < 1000) && (a.map PyData.str).all (smOk n)) = true
  rw [List.length_map, decide_eq_true (by omega), Bool.true_and, List.all_eq_true]
  intro d m
  obtain ⟨x, hx, rfl⟩ := List.mem_map.mp m
  cases n <;> exact h x hx
theorem sm_list {n : Nat} {ds : List PyData} (l : ds.length ≤ 20) (h : ∀ d ∈ ds, smOk n d = true) : smOk (n + 1) (.list ds) = true := by
  show (decide (ds.length < 1000) && ds.all (smOk n)) = true
  rw [decide_eq_true (by omega), Bool.true_and, List.all_eq_true]
  exact h
end
end S5

set_option Elab.async false
set_option linter.all false
set_option maxRecDepth 100000
namespace S5
open PySem PySem.Spec PyProof.Rows L2 Evl ZE ZS StX ZD RZ
section
variable {P : Program} {w : World} {K : PySem.W.Frag} {mg : Str → Option Value} {base : Heap} {aI : Addr}
/-! ### same, of a thing with itself -/
theorem sm_lay : ∀ (n : Nat) (d : PyData), smOk n d = true → d.canLay0 = true ∧ d.depth ≤ n
  | 0, .str x, h => ⟨by simpa [PyData.canLay0, smOk] using h, by simp [PyData.depth]⟩
  | n + 1, .str x, h => ⟨by simpa [PyData.canLay0, smOk] using h, by simp [PyData.depth]⟩
  | 0, .bool _, _ => ⟨by simp [PyData.canLay0], by simp [PyData.depth]⟩
  | n + 1, .bool _, _ => ⟨by simp [PyData.canLay0], by simp [PyData.depth]⟩
  | 0, .int _, _ => ⟨by simp [PyData.canLay0], by simp [PyData.depth]⟩
  | n + 1, .int _, _ => ⟨by simp [PyData.canLay0], by simp [PyData.depth]⟩
  | 0, .none, _ => ⟨by simp [PyData.canLay0], by simp [PyData.depth]⟩
  | n + 1, .none, _ => ⟨by simp [PyData.canLay0], by simp [PyData.depth]⟩
  | n + 1, .list ds, h => by
    have h' : ∀ d ∈ ds, smOk n d = true := by simpa [smOk] using (Bool.and_eq_true_iff.mp h).2
    exact ⟨by simp only [PyData.canLay0]; exact lay_all ds fun d m => (sm_lay n d (h' d m)).1, by
      have := depth_all ds n fun d m => (sm_lay n d (h' d m)).2
      simp only [PyData.depth]; omega⟩
  | n + 1, .tuple ds, h => by
    have h' : ∀ d ∈ ds, smOk n d = true := by simpa [smOk] using (Bool.and_eq_true_iff.mp h).2
    exact ⟨by simp only [PyData.canLay0]; exact lay_all ds fun d m => (sm_lay n d (h' d m)).1, by
      have := depth_all ds n fun d m => (sm_lay n d (h' d m)).2
      simp only [PyData.depth]; omega⟩
theorem sm_shaped {n : Nat} {d : PyData} (h : smOk n d = true) (hn : n ≤ 64) : SeqAt.shaped d = true := by
  have z := sm_lay n d h
  unfold SeqAt.shaped
  rw [z.1, Bool.true_and]
  exact decide_eq_true (Nat.le_trans z.2 hn)
theorem sm_refl {n : Nat} {d : PyData} (h : smOk n d = true) : PyData.eqv d d = true := SeqAt.eqv_refl d (sm_lay n d h).1
theorem rv_isN {d : PyData} {r : R2} {b : Bool} (e : r = fun x y H Q => y = .non ∧ Q (.bl (decide (x = .non))) H) (hb : ∀ H v, Dp K H v d → decide (v = .non) = b) : RvD K r d .none (.bool b) := by
  subst e
  exact rv_sc (fun _ => .bl _) fun H x y hx hy Q q => by
    cases hy
    exact ⟨rfl, by rw [hb H x hx]; exact q⟩
/-- None, a truth value or a text | a number | a list or a tuple -/
def nb : PyData → Bool
  | .none => true
  | _ => false
theorem nb_dp {H : Hp} {v : V} {x : PyData} (h : Dp K H v x) : decide (v = .non) = nb x := by
  cases h <;> first | rfl | exact decide_eq_false (fun z => by cases z)
theorem kinds {n : Nat} {x : PyData} (h : smOk n x = true) : ∃ l t bo st it, kitB (tyN x) "list" = some l ∧ kitB (tyN x) "tuple" = some t ∧ kitB (tyN x) "bool" = some bo ∧ kitB (tyN x) "str" = some st ∧ kitB (tyN x) "int" = some it ∧
    (((l || t) = false ∧ (nb x || (bo || st)) = true) ∨ ((l || t) = false ∧ nb x = false ∧ bo = false ∧ st = false ∧ it = true) ∨ ((l || t) = true ∧ ∃ k ds, n = k + 1 ∧ Sq x ds ∧ ds.length < 1000 ∧ ∀ d ∈ ds, smOk k d = true)) := by
  cases x with
  | str z => exact ⟨false, false, false, true, false, (show kitB "str" "list" = some false by decide +kernel), (show kitB "str" "tuple" = some false by decide +kernel), (show kitB "str" "bool" = some false by decide +kernel), (show kitB "str" "str" = some true by decide +kernel), (show kitB "str" "int" = some false by decide +kernel), .inl ⟨rfl, rfl⟩⟩
  | bool z => exact ⟨false, false, true, false, true, (show kitB "bool" "list" = some false by decide +kernel), (show kitB "bool" "tuple" = some false by decide +kernel), (show kitB "bool" "bool" = some true by decide +kernel), (show kitB "bool" "str" = some false by decide +kernel), (show kitB "bool" "int" = some true by decide +kernel), .inl ⟨rfl, rfl⟩⟩
  | none => exact ⟨false, false, false, false, false, (show kitB "NoneType" "list" = some false by decide +kernel), (show kitB "NoneType" "tuple" = some false by decide +kernel), (show kitB "NoneType" "bool" = some false by decide +kernel), (show kitB "NoneType" "str" = some false by decide +kernel), (show kitB "NoneType" "int" = some false by decide +kernel), .inl ⟨rfl, rfl⟩⟩
  | int z => exact ⟨false, false, false, false, true, (show kitB "int" "list" = some false by decide +kernel), (show kitB "int" "tuple" = some false by decide +kernel), (show kitB "int" "bool" = some false by decide +kernel), (show kitB "int" "str" = some false by decide +kernel), (show kitB "int" "int" = some true by decide +kernel), .inr (.inl ⟨rfl, rfl, rfl, rfl, rfl⟩)⟩
  | list ds =>
    cases n with
    | zero => cases h
    | succ k => exact ⟨true, false, false, false, false, (show kitB "list" "list" = some true by decide +kernel), (show kitB "list" "tuple" = some false by decide +kernel), (show kitB "list" "bool" = some false by decide +kernel), (show kitB "list" "str" = some false by decide +kernel), (show kitB "list" "int" = some false by decide +kernel), .inr (.inr ⟨rfl, k, ds, rfl, .inl rfl, by simpa [smOk] using (Bool.and_eq_true_iff.mp h).1, by simpa [smOk] using (Bool.and_eq_true_iff.mp h).2⟩)⟩
  | tuple ds =>
    cases n with
    | zero => cases h
    | succ k => exact ⟨false, true, false, false, false, (show kitB "tuple" "list" = some false by decide +kernel), (show kitB "tuple" "tuple" = some true by decide +kernel), (show kitB "tuple" "bool" = some false by decide +kernel), (show kitB "tuple" "str" = some false by decide +kernel), (show kitB "tuple" "int" = some false by decide +kernel), .inr (.inr ⟨rfl, k, ds, rfl, .inr rfl, by simpa [smOk] using (Bool.and_eq_true_iff.mp h).1, by simpa [smOk] using (Bool.and_eq_true_iff.mp h).2⟩)⟩
  | dict _ => cases n <;> cases h
abbrev sLSame : Stmt := (top 40)
abbrev NLSame : List Str := ["_law_got", "_law_goal", "_law_mine_so", "_law_own"]
theorem scLSame : FnScope NLSame ["_law_got", "_law_goal"] (defScope sLSame) := ⟨rfl, rfl, rfl, by decide +kernel, rfl, by decide +kernel, by decide +kernel⟩
theorem ok_same {f : Addr} {fd : FuncData} (F : Fun K "_law_same" "_law_same" sLSame f fd) (T : Tx K mg aI) (Ti : Ty K mg) (m : mg "_law_same" = some (.ref f)) (kp : PySem.W.keepIn K (.ref f) = true) (bd : Binds K fd ["_law_got", "_law_goal"] []) : ∀ n, n ≤ 10 → FnOk P w K mg base CX0 (n + 1) f fd ["_law_got", "_law_goal"] (spD K (smP n)) := by
  intro n
  induction n with
  | zero =>
    intro _
    refine F.ok scLSame (fun vs H Q E h => ?_) (fun cdv A outer s H vs Q E hr h => ?_)
    · obtain ⟨B, ds, d, b, hv, ⟨x, rfl, _⟩, _⟩ := h
      exact DpAll.len hv
    · obtain ⟨B, ds, d, b, hv, ⟨x, rfl, ho, rfl⟩, q⟩ := h
      obtain ⟨v, u, rfl, h1, h2⟩ := two hv
      refine ⟨_, (pss_cons (ps_if (pt_val (pe_callB (xIsiT K) (by rfl) Ti.isinstance (by decide +kernel) (pa_cons (pv 1) (pa_cons (pe_tup (pa_cons (pe_bltn (v := .ty "list") (u := .type "list") (by rfl) T.list (by decide +kernel) (by rfl)) (pa_cons (pe_bltn (v := .ty "tuple") (u := .type "tuple") (by rfl) T.tuple (by decide +kernel) (by rfl)) pa_nil))) pa_nil)))) pss_never pss_nil) (pss_cons (ps_if (PW.pt (pw_or (pt_cmpR op_isN (pv 1) pe_non (nomark _)) (pw_or1 (pt_val (pe_callB (xIsiT K) (by rfl) Ti.isinstance (by decide +kernel) (pa_cons (pv 1) (pa_cons (pe_tup (pa_cons (pe_bltn (v := .ty "bool") (u := .type "bool") (by rfl) Ti.bool (by decide +kernel) (by rfl)) (pa_cons (pe_bltn (v := .ty "str") (u := .type "str") (by rfl) Ti.str (by decide +kernel) (by rfl)) pa_nil))) pa_nil))))))) (pss_one (ps_ret (pe_and (pe_cmpR (xEq K hr.units) (pv 0) (pv 1) (nomark _)) (pe_and (pe_cmpR (xEq K hr.units) (pe_callB (xIsi K) (by rfl) Ti.isinstance (by decide +kernel) (pa_cons (pv 0) (pa_cons (pe_bltn (v := .ty "bool") (u := .type "bool") (by rfl) Ti.bool (by decide +kernel) (by rfl)) pa_nil))) (pe_callB (xIsi K) (by rfl) Ti.isinstance (by decide +kernel) (pa_cons (pv 1) (pa_cons (pe_bltn (v := .ty "bool") (u := .type "bool") (by rfl) Ti.bool (by decide +kernel) (by rfl)) pa_nil))) (nomark _)) (pe_one (pe_cmpR (xEq K hr.units) (pe_cmpR op_isN (pv 0) pe_non (nomark _)) (pe_cmpR op_isN (pv 1) pe_non (nomark _)) (nomark _))))))) pss_nil) (pss_one (ps_ret (pe_and (pe_callB (xIsi K) (by rfl) Ti.isinstance (by decide +kernel) (pa_cons (pv 0) (pa_cons (pe_bltn (v := .ty "int") (u := .type "int") (by rfl) Ti.int (by decide +kernel) (by rfl)) pa_nil))) (pe_and (pe_not (pe_callB (xIsi K) (by rfl) Ti.isinstance (by decide +kernel) (pa_cons (pv 0) (pa_cons (pe_bltn (v := .ty "bool") (u := .type "bool") (by rfl) Ti.bool (by decide +kernel) (by rfl)) pa_nil)))) (pe_one (pe_cmpR (xEq K hr.units) (pv 0) (pv 1) (nomark _))))))))), ?_⟩
      obtain ⟨l, t, bo, st, it, kl, kt, kb, ks, ki, kk⟩ := kinds ho
      rcases kk with ⟨klt, kbs⟩ | ⟨klt, knb, rfl, rfl, rfl⟩ | ⟨klt, k, es, ek, _⟩
      · refine g_if1 (c := false) (et_ofB (ed_is (ed_isi2 (ed_var rfl h2) kl kt) (by rw [klt]))) b (fun z => nomatch z) fun _ H2 e2 => ?_
        refine g_if1 (c := true) (et_is (et_or (et_of (ed_op (ed_var rfl h2) ed_non (rv_isN (b := nb x) rfl fun _ _ => nb_dp))) fun _ => et_ofB (ed_isi2 (ed_var rfl h2) kb ks)) kbs) (b.trans e2) (fun _ H3 e3 => ?_) fun z => nomatch z
        refine g_ret (d := .bool true) (ed_is (ed_andV (a := true) (ed_is (ed_op (ed_var rfl h1) (ed_var rfl h2) (rv_eq (sm_shaped ho (by omega)) (sm_shaped ho (by omega)))) (congrArg _ (sm_refl ho))) fun _ => ed_andV (a := true) (b := true) (ed_is (ed_op (ed_isi1 (ed_var rfl h1) kb) (ed_isi1 (ed_var rfl h2) kb) (rv_eq (bool_shaped _) (bool_shaped _))) (by rw [eqv_bool, beq_self_eq_true])) fun _ => ed_is (ed_op (ed_op (ed_var rfl h1) ed_non (rv_isN (b := nb x) rfl fun _ _ => nb_dp)) (ed_op (ed_var rfl h2) ed_non (rv_isN (b := nb x) rfl fun _ _ => nb_dp)) (rv_eq (bool_shaped _) (bool_shaped _))) (by rw [eqv_bool, beq_self_eq_true])) rfl) ((b.trans e2).trans e3) fun v H4 e4 hv => q v H4 ((e2.trans e3).trans e4) (by cases hv; exact .bl true)
      · refine g_if1 (c := false) (et_ofB (ed_is (ed_isi2 (ed_var rfl h2) kl kt) (by rw [klt]))) b (fun z => nomatch z) fun _ H2 e2 => ?_
        refine g_if1 (c := false) (et_is (et_or (et_of (ed_op (ed_var rfl h2) ed_non (rv_isN (b := nb x) rfl fun _ _ => nb_dp))) fun _ => et_ofB (ed_isi2 (ed_var rfl h2) kb ks)) (by rw [knb]; rfl)) (b.trans e2) (fun z => nomatch z) fun _ H3 e3 => ?_
        refine g_ret (d := .bool true) (ed_is (ed_andV (a := true) (ed_isi1 (ed_var rfl h1) ki) fun _ => ed_andV (a := true) (b := true) (ed_is (ed_notV (ed_isi1 (ed_var rfl h1) kb)) rfl) fun _ => ed_is (ed_op (ed_var rfl h1) (ed_var rfl h2) (rv_eq (sm_shaped ho (by omega)) (sm_shaped ho (by omega)))) (congrArg _ (sm_refl ho))) rfl) ((b.trans e2).trans e3) fun v H4 e4 hv => q v H4 ((e2.trans e3).trans e4) (by cases hv; exact .bl true)
      · cases ek
  | succ n ih =>
    intro hn
    refine F.ok scLSame (fun vs H Q E h => ?_) (fun cdv A outer s H vs Q E hr h => ?_)
    · obtain ⟨B, ds, d, b, hv, ⟨x, rfl, _⟩, _⟩ := h
      exact DpAll.len hv
    · obtain ⟨B, ds, d, b, hv, ⟨x, rfl, ho, rfl⟩, q⟩ := h
      obtain ⟨v, u, rfl, h1, h2⟩ := two hv
      have C_law_same : Cal P w K mg base (n + 1) "_law_same" ["_law_got", "_law_goal"] (spD K (smP n)) f fd := ⟨m, kp, bd, ih (by omega)⟩
      refine ⟨_, (pss_cons (ps_if (pt_val (pe_callB (xIsiT K) (by rfl) Ti.isinstance (by decide +kernel) (pa_cons (pv 1) (pa_cons (pe_tup (pa_cons (pe_bltn (v := .ty "list") (u := .type "list") (by rfl) T.list (by decide +kernel) (by rfl)) (pa_cons (pe_bltn (v := .ty "tuple") (u := .type "tuple") (by rfl) T.tuple (by decide +kernel) (by rfl)) pa_nil))) pa_nil)))) (pss_cons (ps_if (PW.pt (pw_or (pt_cmpR (xNe K hr.units) (pe_callB (xIsi K) (by rfl) Ti.isinstance (by decide +kernel) (pa_cons (pv 0) (pa_cons (pe_bltn (v := .ty "list") (u := .type "list") (by rfl) T.list (by decide +kernel) (by rfl)) pa_nil))) (pe_callB (xIsi K) (by rfl) Ti.isinstance (by decide +kernel) (pa_cons (pv 1) (pa_cons (pe_bltn (v := .ty "list") (u := .type "list") (by rfl) T.list (by decide +kernel) (by rfl)) pa_nil))) (nomark _)) (pw_or1 (pt_cmpR (xNe K hr.units) (pe_callB (xIsi K) (by rfl) Ti.isinstance (by decide +kernel) (pa_cons (pv 0) (pa_cons (pe_bltn (v := .ty "tuple") (u := .type "tuple") (by rfl) T.tuple (by decide +kernel) (by rfl)) pa_nil))) (pe_callB (xIsi K) (by rfl) Ti.isinstance (by decide +kernel) (pa_cons (pv 1) (pa_cons (pe_bltn (v := .ty "tuple") (u := .type "tuple") (by rfl) T.tuple (by decide +kernel) (by rfl)) pa_nil))) (nomark _))))) (pss_one (ps_ret pe_bl)) pss_nil) (pss_one (ps_ret (pe_and (pe_cmpR (xEq K hr.units) (pe_callB (xLen K) (by rfl) T.len (by decide +kernel) (pa_cons (pv 0) pa_nil)) (pe_callB (xLen K) (by rfl) T.len (by decide +kernel) (pa_cons (pv 1) pa_nil)) (nomark _)) (pe_one (pe_callB (xAll K rfl) (by rfl) T.all (by decide +kernel) (pa_cons (pe_lc (own := [("_law_mine_so", 2), ("_law_own", 3)]) rfl scLSame.nd (xZip K (by rfl) Ti.zip (pa_cons (pv 0) (pa_cons (pv 1) pa_nil))) (blkOk_by (N := NLSame) (sc := defScope sLSame) (by decide +kernel)) (fun _ _ _ _ _ => (xTup K 2 rfl (pgs_cons (pg_name (i := 2) scLSame.nd rfl (by first | exact .inl rfl | exact .inr rfl)) (pgs_cons (pg_name (i := 3) scLSame.nd rfl (by first | exact .inl rfl | exact .inr rfl)) pgs_nil)))) (fun _ _ _ _ _ => pts_nil) (fun _ _ _ _ _ => (pe_call C_law_same.G hr (by rfl) C_law_same.m C_law_same.kp C_law_same.b .nil pass0 (pa_cons (pv 2) (pa_cons (pv 3) pa_nil))))) pa_nil))))))) pss_nil) (pss_cons (ps_if (PW.pt (pw_or (pt_cmpR op_isN (pv 1) pe_non (nomark _)) (pw_or1 (pt_val (pe_callB (xIsiT K) (by rfl) Ti.isinstance (by decide +kernel) (pa_cons (pv 1) (pa_cons (pe_tup (pa_cons (pe_bltn (v := .ty "bool") (u := .type "bool") (by rfl) Ti.bool (by decide +kernel) (by rfl)) (pa_cons (pe_bltn (v := .ty "str") (u := .type "str") (by rfl) Ti.str (by decide +kernel) (by rfl)) pa_nil))) pa_nil))))))) (pss_one (ps_ret (pe_and (pe_cmpR (xEq K hr.units) (pv 0) (pv 1) (nomark _)) (pe_and (pe_cmpR (xEq K hr.units) (pe_callB (xIsi K) (by rfl) Ti.isinstance (by decide +kernel) (pa_cons (pv 0) (pa_cons (pe_bltn (v := .ty "bool") (u := .type "bool") (by rfl) Ti.bool (by decide +kernel) (by rfl)) pa_nil))) (pe_callB (xIsi K) (by rfl) Ti.isinstance (by decide +kernel) (pa_cons (pv 1) (pa_cons (pe_bltn (v := .ty "bool") (u := .type "bool") (by rfl) Ti.bool (by decide +kernel) (by rfl)) pa_nil))) (nomark _)) (pe_one (pe_cmpR (xEq K hr.units) (pe_cmpR op_isN (pv 0) pe_non (nomark _)) (pe_cmpR op_isN (pv 1) pe_non (nomark _)) (nomark _))))))) pss_nil) (pss_one (ps_ret (pe_and (pe_callB (xIsi K) (by rfl) Ti.isinstance (by decide +kernel) (pa_cons (pv 0) (pa_cons (pe_bltn (v := .ty "int") (u := .type "int") (by rfl) Ti.int (by decide +kernel) (by rfl)) pa_nil))) (pe_and (pe_not (pe_callB (xIsi K) (by rfl) Ti.isinstance (by decide +kernel) (pa_cons (pv 0) (pa_cons (pe_bltn (v := .ty "bool") (u := .type "bool") (by rfl) Ti.bool (by decide +kernel) (by rfl)) pa_nil)))) (pe_one (pe_cmpR (xEq K hr.units) (pv 0) (pv 1) (nomark _))))))))), ?_⟩
      obtain ⟨l, t, bo, st, it, kl, kt, kb, ks, ki, kk⟩ := kinds ho
      rcases kk with ⟨klt, kbs⟩ | ⟨klt, knb, rfl, rfl, rfl⟩ | ⟨klt, k, es, ek, sq, few, oks⟩
      · refine g_if1 (c := false) (et_ofB (ed_is (ed_isi2 (ed_var rfl h2) kl kt) (by rw [klt]))) b (fun z => nomatch z) fun _ H2 e2 => ?_
        refine g_if1 (c := true) (et_is (et_or (et_of (ed_op (ed_var rfl h2) ed_non (rv_isN (b := nb x) rfl fun _ _ => nb_dp))) fun _ => et_ofB (ed_isi2 (ed_var rfl h2) kb ks)) kbs) (b.trans e2) (fun _ H3 e3 => ?_) fun z => nomatch z
        refine g_ret (d := .bool true) (ed_is (ed_andV (a := true) (ed_is (ed_op (ed_var rfl h1) (ed_var rfl h2) (rv_eq (sm_shaped ho (by omega)) (sm_shaped ho (by omega)))) (congrArg _ (sm_refl ho))) fun _ => ed_andV (a := true) (b := true) (ed_is (ed_op (ed_isi1 (ed_var rfl h1) kb) (ed_isi1 (ed_var rfl h2) kb) (rv_eq (bool_shaped _) (bool_shaped _))) (by rw [eqv_bool, beq_self_eq_true])) fun _ => ed_is (ed_op (ed_op (ed_var rfl h1) ed_non (rv_isN (b := nb x) rfl fun _ _ => nb_dp)) (ed_op (ed_var rfl h2) ed_non (rv_isN (b := nb x) rfl fun _ _ => nb_dp)) (rv_eq (bool_shaped _) (bool_shaped _))) (by rw [eqv_bool, beq_self_eq_true])) rfl) ((b.trans e2).trans e3) fun v H4 e4 hv => q v H4 ((e2.trans e3).trans e4) (by cases hv; exact .bl true)
      · refine g_if1 (c := false) (et_ofB (ed_is (ed_isi2 (ed_var rfl h2) kl kt) (by rw [klt]))) b (fun z => nomatch z) fun _ H2 e2 => ?_
        refine g_if1 (c := false) (et_is (et_or (et_of (ed_op (ed_var rfl h2) ed_non (rv_isN (b := nb x) rfl fun _ _ => nb_dp))) fun _ => et_ofB (ed_isi2 (ed_var rfl h2) kb ks)) (by rw [knb]; rfl)) (b.trans e2) (fun z => nomatch z) fun _ H3 e3 => ?_
        refine g_ret (d := .bool true) (ed_is (ed_andV (a := true) (ed_isi1 (ed_var rfl h1) ki) fun _ => ed_andV (a := true) (b := true) (ed_is (ed_notV (ed_isi1 (ed_var rfl h1) kb)) rfl) fun _ => ed_is (ed_op (ed_var rfl h1) (ed_var rfl h2) (rv_eq (sm_shaped ho (by omega)) (sm_shaped ho (by omega)))) (congrArg _ (sm_refl ho))) rfl) ((b.trans e2).trans e3) fun v H4 e4 hv => q v H4 ((e2.trans e3).trans e4) (by cases hv; exact .bl true)
      · obtain rfl : n = k := Nat.succ.inj ek
        refine g_if1 (c := true) (et_ofB (ed_is (ed_isi2 (ed_var rfl h2) kl kt) (by rw [klt]))) b (fun _ H2 e2 => ?_) fun z => nomatch z
        refine g_if1 (c := false) (et_is (et_or (et_of (ed_op (ed_isi1 (ed_var rfl h1) kl) (ed_isi1 (ed_var rfl h2) kl) (rv_ne (bool_shaped _) (bool_shaped _)))) fun _ => et_of (ed_op (ed_isi1 (ed_var rfl h1) kt) (ed_isi1 (ed_var rfl h2) kt) (rv_ne (bool_shaped _) (bool_shaped _)))) (by rw [eqv_bool, eqv_bool, beq_self_eq_true, beq_self_eq_true]; rfl)) (b.trans e2) (fun z => nomatch z) fun _ H3 e3 => ?_
        refine g_ret (d := .bool true) (ed_is (ed_andV (a := true) (b := true) (ed_is (ed_op (ed_cb (ea_consD (ed_var rfl h1) ea_nilD) (rc_len sq)) (ed_cb (ea_consD (ed_var rfl h2) ea_nilD) (rc_len sq)) (rv_eq (int_shaped _) (int_shaped _))) (by rw [eqv_int, decide_eq_true rfl])) fun _ => ed_is (ed_cb (ea_consD (ed_lcZ (fun _ => .bool true) (ea_consD (ed_var rfl h1) (ea_consD (ed_var rfl h2) ea_nilD)) sq (by omega) (fun _ _ => rfl) fun d md x y B1 e hx hy => ed_call0 (ea_consD (ed_var rfl hx) (ea_consD (ed_var rfl hy) ea_nilD)) (sp_d ⟨d, rfl, oks d md, rfl⟩)) ea_nilD) (rc_allS (f := fun _ => true) es)) (by simp)) rfl) ((b.trans e2).trans e3) fun v H4 e4 hv => q v H4 ((e2.trans e3).trans e4) (by cases hv; exact .bl true)
end
end S5

set_option Elab.async false
set_option linter.all false
set_option maxRecDepth 100000
/-! Methods called by keywords alone. -/
namespace ZT
open PySem PySem.Spec PyProof.Rows L2
section
variable {X : Cx} {CX : CXT} {k : Nat} {f C : Addr} {fd : FuncData} {ps ks : List Str} {sp : Sp} {E : XK} {m : Str} {pos apos : Pos} {o : Expr} {kws : List Keyword} {ta : TE} {tk : TA} {g : List Value → List Value → List Value} {gV : List V → List V → List V}
/-- o.m(k = v, ..) -/
def tMethN (C : Addr) (m : Str) (n : Nat) (sp : Sp) (gV : List V → List V → List V) (E : XK) (ta : TE) (tk : TA) : TE := fun σ H Q => ta σ H fun x H1 => ∃ a dx fs, x = .ref a ∧ H1 a = some (.ins C dx fs) ∧ fs.lookup m = none ∧ tk σ H1 fun zs H2 => zs.length = n ∧ sp (gV [.ref a] zs) H2 Q E
theorem pe_methN {pl : Sem Bool} (he : PE X o ta) (c : Cls X.K C) (hm : Meth X.K C m f) (F : FnOk X.prog X.w X.K X.mg X.base CX k f fd ps sp) (hr : Room k X.A) (hb : KBn X.K fd ps 1 ks g gV) (hx : Passes CX X E) (hkw : PK X kws tk)
    (hall : (backToKw pos (keywordEach kws X.env)).all (·.1.isSome) = true := by rfl) (hks : (backToKw pos (keywordEach kws X.env)).filterMap (·.1) = ks := by rfl)
    (hpl : ((backTo pos (starEach [] X.env)).any (·.1) || (backToKw pos (keywordEach kws X.env)).any (·.1.isNone)) = false := by rfl)
    (ht : eval (.Call (.Attribute o m apos) [] kws pos) X.env = (do
      let ov ← eval o X.env
      standAt apos.atName
      let (f, first) ← holding [ov] (getMethod ov m pl)
      callWith pos f first (backTo pos (starEach [] X.env)) (backToKw pos (keywordEach kws X.env))) := by rfl) :
    PE X (.Call (.Attribute o m apos) [] kws pos) (tMethN C m ks.length sp gV E ta tk) := by
  refine ⟨fun pins s σ H Q I h => PySem.W.methodCall_KW (pl := pl) (thn (he.run pins s σ H _ I h) fun u s1 ⟨x, H1, I1, rx, a, dx, fs, ex, ea, l, q⟩ => ?_) ht⟩
  subst ex
  obtain rfl : u = Value.ref a := rx
  refine getmeth_ok I1 ea c hm l (PySem.W.callWith_KW0 (first := [.ref a]) (h₀ := X.base) I.ok.mod.kin hm.kp hall ?_ hpl)
  refine thn (hkw.run pos pins s1 σ H1 _ I1 q) fun ws s2 ⟨zs, H2, I2, rz, l2, q2⟩ => ⟨I2.kIn, ?_⟩
  rw [hks]
  exact run_fnN (us := [.ref a]) (vs := [.ref a]) F hr hb hx I2 (.cons rfl .nil) rz rfl l2 q2
end
/-- a def without defaults, called by some values and then by keywords in order -/
theorem kwm_mk {K : PySem.W.Frag} {x qual : Str} {st : Stmt} {f : Addr} {fd : FuncData} {ps ks : List Str} (F : Fun K x qual st f fd) (n : Nat)
    (h : ∀ (kV doc pm : Value) (an : Option Addr) (cdv ct : Value) (us ws : List Value), us.length = n → ws.length = ks.length → bindArgs (PySem.W.fnOf x qual (defArgs st) (defBody st) (defScope st) .none kV doc pm an cdv ct) ⟨us, ks.zip ws⟩ = pure (ps.zip (us ++ ws))) : KBn K fd ps n ks (fun us ws => us ++ ws) (fun vs zs => vs ++ zs) := by
  obtain ⟨oc, od, kV, doc, pm, an, cdv, ct, osl, rfl, lk, hcd⟩ := F.ex
  exact ⟨fun s us ws _ l1 l2 => .of_eq (h kV doc pm an cdv ct us ws l1 l2), fun r1 r2 => r1.append r2⟩
end ZT

set_option Elab.async false
set_option linter.all false
set_option maxRecDepth 100000
/-! Texts as data: join, split, letters, slices, one behind another. -/
namespace ZX
open PySem PySem.Spec PyProof.Rows L2 Evl ZE ZS StX RZ
/-- what join reads -/
def rJoin (K : PySem.W.Frag) : V → List V → Hp → VK → Prop := fun x xs H Q => ∃ a p, ∃ ys : List Str, x = .str a ∧ xs = [.ref p] ∧ (SqL K H p (ys.map V.str) ∨ SqT K H p (ys.map V.str)) ∧ (ys.map (·.length)).sum + ys.length * a.length ≤ 16777216 ∧ Q (.str (Txt.join a ys)) H
def rSplit : V → List V → Hp → VK → Prop := fun x xs H Q => ∃ a b, x = .str a ∧ xs = [.str b] ∧ (b.length == 0) = false ∧ a.length + 2 ≤ sizeLine ∧ rNewStrs (Txt.split a b) H Q
section
variable {X : Cx} (K : PySem.W.Frag) {o e : Expr} {to te : TE} {apos pos : Pos}
theorem xJoin (ho : PE X o to) (he : PE X e te) (hs : starEach [e] X.env = [(false, eval e X.env)] := by rfl) (hbase : attributeBase o "join" X.env (eval o X.env) = eval o X.env := by rfl) (hline : (apos.endLine == pos.line) = true := by rfl) (hK : X.K = K := by rfl) :
    PE X (.Call (.Attribute o "join" apos) [e] [] pos) (tM1 (rJoin K) to te) := hK ▸ pe_join ho he hs hbase hline
theorem xSplit (ho : PE X o to) (he : PE X e te) (hs : starEach [e] X.env = [(false, eval e X.env)] := by rfl) (hbase : attributeBase o "split" X.env (eval o X.env) = eval o X.env := by rfl) (hline : (apos.endLine == pos.line) = true := by rfl) :
    PE X (.Call (.Attribute o "split" apos) [e] [] pos) (tM1 rSplit to te) := pe_split ho he hs hbase hline
end
/-- the letters of a text -/
def lets (x : Str) : List Str := x.cps.toList.map fun c => ⟨#[c]⟩
section
variable {K : PySem.W.Frag} {σ : L2.St} {B H : Hp} {te tl ta : TE} {tas : TA} {tt : TT} {d D0 : PyData} {ds : List PyData} {a b x : Str} {ys : List Str}
theorem strs_vals {H : Hp} : ∀ {ys : List Str} {vs : List V}, DpAll K H vs (ys.map PyData.str) → vs = ys.map V.str
  | [], _, .nil => rfl
  | y :: ys, _, .cons h t => by
    cases h
    rw [strs_vals t]
    rfl
theorem ed_join (h : EvD K te σ B D0) (s : Sq D0 (ys.map .str)) (few : (ys.map (·.length)).sum + ys.length * a.length ≤ 16777216) : EvD K (tM1 (rJoin K) (tC (.str a)) te) σ B (.str (Txt.join a ys)) := fun H1 b Q q =>
  ⟨⟨a, rfl⟩, h H1 b _ fun v H2 e2 hv => by
    obtain ⟨p, vs, rfl, hs, hx⟩ := sq_split hv s
    obtain rfl := strs_vals hx
    exact ⟨a, p, ys, rfl, rfl, hs.imp (ex_l sub_le) (ex_t sub_le), few, q _ H2 e2 (.str _)⟩⟩
theorem ed_split (h : EvD K te σ B (.str x)) (hb : (b.length == 0) = false) (few : x.length ≤ 1000) : EvD K (tM1 rSplit te (tC (.str b))) σ B (.list ((Txt.split x b).map .str)) := fun H1 b1 Q q => h H1 b1 _ fun v H2 e2 hv => by
  cases hv
  refine ⟨⟨x, rfl⟩, x, b, rfl, rfl, hb, sz_of (by omega), fun p hp => ?_⟩
  exact q _ _ (e2.trans (Ex.new hp)) (.lst (sq_of (new_at2 e2 hp)) (dpa_strs _))
/-- c in z, c one letter -/
theorem rv_inC {c : Nat} : RvD K rInS (.str ⟨#[c]⟩) (.str x) (.bool (decide (c ∈ x.cps.toList))) := rv_sc (fun _ => .bl _) fun H v u hv hu Q q => by
  cases hv
  cases hu
  exact ⟨c, x, rfl, rfl, q⟩
/-- [e for c in text if test] -/
theorem ed_lcX {j : Nat} {vs : List Nat} (f : Str → Bool) (g : Str → PyData) (hl : EvD K tl σ B (.str x)) (few : x.cps.size < 40000) (hw : ∀ v, wipe ((wipe σ vs).set j (some v)) vs = wipe σ vs)
    (ht : ∀ c ∈ lets x, ∀ B1, Ex B B1 → EvT tt ((wipe σ vs).set j (some (.str c))) B1 (f c)) (he : ∀ c ∈ lets x, f c = true → ∀ B1, Ex B B1 → EvD K te ((wipe σ vs).set j (some (.str c))) B1 (g c)) :
    EvD K (tLc (iStr tl) (gName j) tt te vs) σ B (.list (((lets x).filter f).map g)) := fun H1 b Q q => hl H1 b _ fun v H2 e2 hv => by
  cases hv
  refine ⟨x, rfl, fun D hD => ?_⟩
  have h1D : H1 D = none := fresh_back e2 hD
  have b2 := b.trans e2
  have hlen : (lets x).length = x.cps.size := by unfold lets; rw [List.length_map, Array.length_toList]
  have dB : B D = none := fresh_back b h1D
  refine ⟨fun i m H => m = x.cps.size - i ∧ i ≤ x.cps.size ∧ Cm K H1 B B H2 D ((((lets x).take i).filter f).map g) H, ⟨x.cps.size, by simp, Nat.zero_le _, ?_⟩, ?_⟩
  · exact ⟨[], B, Ex.refl _, b2.trans (Ex.new hD), le_sub b (e2.trans (Ex.new hD)), dB, Ex.new hD, upd_same, .nil⟩
  · rintro i m H ⟨rfl, hi, c⟩
    by_cases lt : i < x.cps.size
    · refine .inr ⟨lt, fun H' => Cm K H1 B B H2 D ((((lets x).take (i + 1)).filter f).map g) H', fun H' p' => ⟨x.cps.size - (i + 1), by omega, rfl, lt, p'⟩, ?_⟩
      rintro v H' ⟨rfl, c0, hc0, rfl⟩
      have hl2 : (lets x)[i]? = some ⟨#[c0]⟩ := by
        unfold lets
        rw [List.getElem?_map, Array.getElem?_toList, hc0]
        rfl
      have ml := List.mem_of_getElem? hl2
      refine ⟨hw _, cm_turn (b := f ⟨#[c0]⟩) (d := g ⟨#[c0]⟩) c e2 hD ?_ (fun Bi e => ht _ ml Bi e) (fun fd Bi e => he _ ml fd Bi e) fun H'' c' => ?_⟩
      · have z1 := List.length_filter_le f ((lets x).take i)
        rw [List.length_map]
        rw [List.length_take] at z1
        omega
      · rw [filt_snoc f g hl2]
        exact c'
    · have ei : i = x.cps.size := by omega
      subst ei
      rw [← hlen, List.take_length] at c
      obtain ⟨acc, Bi, c1, c2, c3, c4, c5, c6, c7⟩ := c
      exact .inl ⟨Nat.le_refl _, q (.ref D) H (e2.trans c5) (own_dp h1D c6 c3 c7)⟩
end
end ZX

set_option Elab.async false
set_option linter.all false
set_option maxRecDepth 100000
namespace S5
open PySem PySem.Spec PyProof.Rows L2 Evl ZE ZS StX ZD RZ ZT ZX TL
section
variable {P : Program} {w : World} {K : PySem.W.Frag} {mg : Str → Option Value} {base : Heap} {aI : Addr}
/-! ### names in texts -/
def alpha : Str := "abcdefghijklmnopqrstuvwxyz"
def lowF (c : Str) : Bool := match c.cps.toList with
  | [n] => decide (n ∈ alpha.cps.toList)
  | _ => false
def saltF (x : Str) : Bool := decide ((x.length : Int) ≤ 8) && (lets x).all lowF
def nameF (x : Str) : Bool := !decide (x = Str.empty) && saltF x
def Tok' (x : Str) : Prop := PyData.strOk x = true ∧ x.length ≤ 1000
def saP (ds : List PyData) (d : PyData) : Prop := ∃ x, ds = [.str x] ∧ Tok' x ∧ d = .bool (saltF x)
def naP (ds : List PyData) (d : PyData) : Prop := ∃ x, ds = [.str x] ∧ Tok' x ∧ d = .bool (nameF x)
theorem rc_lenT {x : Str} (l : x.length ≤ 1000) : RcD K (fun xs H Q => ∃ z : Str, xs = [.str z] ∧ z.length ≤ sizeLine ∧ Q (.int z.length) H) [.str x] (.int x.length) := rc_sc (fun _ => .int _) fun H vs hv Q q => by
  obtain ⟨v, rfl, h⟩ := one hv
  cases h
  exact ⟨x, rfl, sz_of (by omega), q⟩
theorem let_one {x c : Str} (m : c ∈ lets x) : ∃ n, c = ⟨#[n]⟩ := by
  obtain ⟨n, _, rfl⟩ := List.mem_map.mp m
  exact ⟨n, rfl⟩
abbrev sIsSalt : Stmt := (top 10)
abbrev NIsSalt : List Str := ["text", "letter"]
theorem scIsSalt : FnScope NIsSalt ["text"] (defScope sIsSalt) := ⟨rfl, rfl, rfl, by decide +kernel, rfl, by decide +kernel, by decide +kernel⟩
theorem ok_is_salt {f : Addr} {fd : FuncData} {tok : Tok} (F : Fun K "is_salt" "is_salt" sIsSalt f fd) (T : Tx K mg aI) (gl : mg "LETTERS" = some (.str alpha tok)) : FnOk P w K mg base CX0 1 f fd ["text"] (spD K saP) := by
  refine F.ok scIsSalt (fun vs H Q E h => ?_) (fun cdv A outer s H vs Q E hr h => ?_)
  · obtain ⟨B, ds, d, b, hv, ⟨x, rfl, _⟩, _⟩ := h
    exact DpAll.len hv
  · obtain ⟨B, ds, d, b, hv, ⟨x, rfl, ⟨ox, lx⟩, rfl⟩, q⟩ := h
    obtain ⟨v, rfl, h1⟩ := one hv
    obtain rfl := p_str h1
    refine ⟨_, (pss_one (ps_ret (pe_and (pe_cmpR op_le (pe_callB call_len_str (by rfl) T.len (by decide +kernel) (pa_cons (pv 0) pa_nil)) pe_int (nomark _)) (pe_one (pe_callB (xAll K rfl) (by rfl) T.all (by decide +kernel) (pa_cons (pe_lc (own := [("letter", 1)]) rfl scIsSalt.nd (pi_str (pv 0)) (blkOk_by (N := NIsSalt) (sc := defScope sIsSalt) (by decide +kernel)) (fun _ _ _ _ _ => (pg_name (i := 1) scIsSalt.nd rfl (by first | exact .inl rfl | exact .inr rfl))) (fun _ _ _ _ _ => pts_nil) (fun _ _ _ _ _ => (pe_cmpR op_inS (pv 1) (pe_glob (v := V.str alpha) rfl gl ⟨tok, rfl⟩) (by rfl)))) pa_nil)))))), ?_⟩
    refine g_ret (d := .bool (saltF x)) (ed_andV (a := decide ((x.length : Int) ≤ 8)) (b := (lets x).all lowF) (ed_op (ed_cb (ea_consD (ed_var rfl (.str x)) ea_nilD) (rc_lenT lx)) (ed_int 8) (rv_int fun _ => .bl _)) fun _ => ed_cb (ea_consD (ed_is (ed_lcX (fun _ => true) (fun c => .bool (lowF c)) (ed_var rfl (.str x)) (by have : x.cps.size = x.length := rfl; omega) (fun _ => rfl) (fun _ _ _ _ => fun H1 e Q q => q H1 (Ex.refl H1)) fun c mc _ B1 e => ?_) (by rw [List.filter_eq_self.mpr fun _ _ => rfl])) ea_nilD) (rc_allS (lets x))) b q
    obtain ⟨n, rfl⟩ := let_one mc
    exact ed_op (ed_var rfl (.str _)) (ed_tC (.str alpha)) rv_inC
abbrev sIsName : Stmt := (top 11)
abbrev NIsName : List Str := ["text"]
theorem scIsName : FnScope NIsName ["text"] (defScope sIsName) := ⟨rfl, rfl, rfl, by decide +kernel, rfl, by decide +kernel, by decide +kernel⟩
theorem ok_is_name {f fs : Addr} {fd fds : FuncData} (F : Fun K "is_name" "is_name" sIsName f fd) (T : Tx K mg aI) (Cis_salt : Cal P w K mg base 1 "is_salt" ["text"] (spD K saP) fs fds) : FnOk P w K mg base CX0 2 f fd ["text"] (spD K naP) := by
  refine F.ok scIsName (fun vs H Q E h => ?_) (fun cdv A outer s H vs Q E hr h => ?_)
  · obtain ⟨B, ds, d, b, hv, ⟨x, rfl, _⟩, _⟩ := h
    exact DpAll.len hv
  · obtain ⟨B, ds, d, b, hv, ⟨x, rfl, ⟨ox, lx⟩, rfl⟩, q⟩ := h
    obtain ⟨v, rfl, h1⟩ := one hv
    obtain rfl := p_str h1
    refine ⟨_, (pss_one (ps_ret (pe_and (pe_cmpR (xNe K hr.units) (pv 0) pe_str (nomark _)) (pe_one (pe_call Cis_salt.G (hr.mono (by decide)) (by rfl) Cis_salt.m Cis_salt.kp Cis_salt.b .nil pass0 (pa_cons (pv 0) pa_nil)))))), ?_⟩
    have o0 : PyData.strOk Str.empty = true := by decide +kernel
    exact g_ret (d := .bool (nameF x)) (ed_andV (ed_is (ed_op (ed_var rfl (.str x)) (ed_str _) (rv_ne (str_shaped ox) (str_shaped o0))) (congrArg (fun z => PyData.bool (!z)) (eq_str ox o0))) fun _ => ed_call0 (ea_consD (ed_var rfl (.str x)) ea_nilD) (sp_d ⟨x, rfl, ⟨ox, lx⟩, rfl⟩)) b q
/-! ### split -/
theorem spl_mem (S : List Nat) : ∀ (l : List Nat) (k : Nat) (acc p : List Nat), p ∈ spl S k acc l → (∀ c ∈ p, c ∈ acc ∨ c ∈ l) ∧ p.length ≤ acc.length + l.length
  | [], k, acc, p, h => by
    rw [spl_nil] at h
    rw [List.mem_singleton.mp h]
    exact ⟨fun c m => .inl m, Nat.le_add_right _ _⟩
  | c :: r, 0, acc, p, h => by
    unfold spl at h
    split at h
    · rcases List.mem_cons.mp h with rfl | h
      · exact ⟨fun c m => .inl m, Nat.le_add_right _ _⟩
      · have z := spl_mem S r _ [] p h
        refine ⟨fun c m => .inr ((z.1 c m).elim (fun m => nomatch m) (List.Mem.tail _)), ?_⟩
        have := z.2
        rw [List.length_nil] at this
        rw [List.length_cons]
        omega
    · have z := spl_mem S r _ _ p h
      refine ⟨fun x m => (z.1 x m).elim (fun m => (List.mem_append.mp m).imp id fun m => by rw [List.mem_singleton.mp m]; exact List.Mem.head _) fun m => .inr (List.Mem.tail _ m), ?_⟩
      have := z.2
      rw [List.length_append, List.length_singleton] at this
      rw [List.length_cons]
      omega
  | c :: r, k + 1, acc, p, h => by
    have z := spl_mem S r k acc p (by unfold spl at h; exact h)
    refine ⟨fun x m => (z.1 x m).imp id (List.Mem.tail _), ?_⟩
    have := z.2
    rw [List.length_cons]
    omega
theorem spl_len (S : List Nat) : ∀ (l : List Nat) (k : Nat) (acc : List Nat), (spl S k acc l).length ≤ l.length + 1
  | [], k, acc => by rw [spl_nil]; exact Nat.le_refl _
  | c :: r, 0, acc => by
    unfold spl
    split
    · have z := spl_len S r (S.length - 1) []
      rw [List.length_cons, List.length_cons]
      omega
    · have z := spl_len S r 0 (acc ++ [c])
      rw [List.length_cons]
      omega
  | c :: r, k + 1, acc => by
    have z := spl_len S r k acc
    unfold spl
    rw [List.length_cons]
    omega
def cutF (x : Str) : List Str := Txt.split x "+"
theorem cut_map (x : Str) : (cutF x).map tl = spl (tl "+") 0 [] (tl x) := split_spl x "+" (by decide +kernel) (kind_ok (by decide +kernel))
theorem cut_tok {x p : Str} (h : Tok' x) (m : p ∈ cutF x) : Tok' p := by
  have z := spl_mem (tl "+") (tl x) 0 [] (tl p) (by rw [← cut_map]; exact List.mem_map_of_mem m)
  refine ⟨?_, ?_⟩
  · have o := h.1
    unfold PyData.strOk at o ⊢
    rw [← Array.all_toList, List.all_eq_true] at o ⊢
    exact fun c mc => o c ((z.1 c mc).elim (fun m => nomatch m) id)
  · have := z.2
    have e1 : p.length = (tl p).length := by unfold tl; exact Array.length_toList.symm
    have e2 : x.length = (tl x).length := by unfold tl; exact Array.length_toList.symm
    have := h.2
    rw [List.length_nil] at *
    omega
theorem cut_len {x : Str} (h : Tok' x) : (cutF x).length ≤ 1001 := by
  have z := spl_len (tl "+") (tl x) 0 []
  rw [← cut_map, List.length_map] at z
  have e2 : x.length = (tl x).length := by unfold tl; exact Array.length_toList.symm
  have := h.2
  omega
theorem cut_oks {x : Str} (h : Tok' x) : Oks (cutF x) := fun p m => (cut_tok h m).1
def nitF (x : Str) : PyData := if x = "-" then tp [] else if x = "#" then tp ["#"] else if (cutF x).all nameF = true then tp (cutF x) else .none
def niP (ds : List PyData) (d : PyData) : Prop := ∃ x, ds = [.str x] ∧ Tok' x ∧ d = nitF x
abbrev sNamesInText : Stmt := (top 31)
abbrev NNamesInText : List Str := ["text", "names", "name"]
theorem scNamesInText : FnScope NNamesInText ["text"] (defScope sNamesInText) := ⟨rfl, rfl, rfl, by decide +kernel, rfl, by decide +kernel, by decide +kernel⟩
theorem ok_names_in_text {f fs : Addr} {fd fds : FuncData} (F : Fun K "names_in_text" "names_in_text" sNamesInText f fd) (T : Tx K mg aI) (Cis_name : Cal P w K mg base 2 "is_name" ["text"] (spD K naP) fs fds) : FnOk P w K mg base CX0 3 f fd ["text"] (spD K niP) := by
  refine F.ok scNamesInText (fun vs H Q E h => ?_) (fun cdv A outer s H vs Q E hr h => ?_)
  · obtain ⟨B, ds, d, b, hv, ⟨x, rfl, _⟩, _⟩ := h
    exact DpAll.len hv
  · obtain ⟨B, ds, d, b, hv, ⟨x, rfl, tx, rfl⟩, q⟩ := h
    obtain ⟨v, rfl, h1⟩ := one hv
    obtain rfl := p_str h1
    have ox := tx.1
    refine ⟨_, (pss_cons (ps_if (pt_cmpR (xEq K hr.units) (pv 0) pe_str (nomark _)) (pss_one (ps_ret (pe_tup pa_nil))) pss_nil) (pss_cons (ps_if (pt_cmpR (xEq K hr.units) (pv 0) pe_str (nomark _)) (pss_one (ps_ret (pe_glob (v := .ref aI) rfl T.mgITSELF (by rfl)))) pss_nil) (pss_cons (ps_set (i := 1) scNamesInText.nd rfl (by first | exact .inl rfl | exact .inr rfl) (pe_callTy (xTuple K) (by rfl) T.tuple (by decide +kernel) (pa_cons (xSplit (pv 0) pe_str) pa_nil))) (pss_one (ps_ret (pe_ifExp (pt_val (pe_callB (xAll K rfl) (by rfl) T.all (by decide +kernel) (pa_cons (pe_lc (own := [("name", 2)]) rfl scNamesInText.nd (xSeq K (pv 1)) (blkOk_by (N := NNamesInText) (sc := defScope sNamesInText) (by decide +kernel)) (fun _ _ _ _ _ => (pg_name (i := 2) scNamesInText.nd rfl (by first | exact .inl rfl | exact .inr rfl))) (fun _ _ _ _ _ => pts_nil) (fun _ _ _ _ _ => (pe_call Cis_name.G (hr.mono (by decide)) (by rfl) Cis_name.m Cis_name.kp Cis_name.b .nil pass0 (pa_cons (pv 2) pa_nil)))) pa_nil))) (pv 1) pe_non)))))), ?_⟩
    have o1 : PyData.strOk "-" = true := by decide +kernel
    have o2 : PyData.strOk "#" = true := by decide +kernel
    refine g_if1 (c := decide (x = "-")) (et_of (ed_is (ed_op (ed_var rfl (.str x)) (ed_str _) (rv_eq (str_shaped ox) (str_shaped o1))) (congrArg _ (eq_str ox o1)))) b (fun hc H2 e2 => ?_) fun hc H2 e2 => ?_
    · have e0 : nitF x = tp [] := if_pos (of_decide_eq_true hc)
      rw [e0] at q
      exact g_ret (d := tp []) (ed_tup ea_nilD (by decide)) (b.trans e2) fun v H3 e3 hv => q v H3 (e2.trans e3) (dp_up hv (sub_step e2))
    refine g_if1 (c := decide (x = "#")) (et_of (ed_is (ed_op (ed_var rfl (.str x)) (ed_str _) (rv_eq (str_shaped ox) (str_shaped o2))) (congrArg _ (eq_str ox o2)))) (b.trans e2) (fun hc2 H3 e3 => ?_) fun hc2 H3 e3 => ?_
    · have e0 : nitF x = tp ["#"] := (if_neg (of_decide_eq_false hc)).trans (if_pos (of_decide_eq_true hc2))
      rw [e0] at q
      exact g_ret (ed_c T.itself) ((b.trans e2).trans e3) fun v H4 e4 hv => q v H4 ((e2.trans e3).trans e4) (dp_up hv (sub_step (e2.trans e3)))
    have a3 := (At.start b (Ex.refl H)).grow (e2.trans e3)
    refine g_asg (K := K) (d := tp (cutF x)) (ed_cb (ea_consD (ed_split (ed_var rfl (.str x)) (by decide +kernel) tx.2) ea_nilD) (rc_tuple (.inl rfl))) a3.b fun v2 H4 e4 h2 => ?_
    have a4 := a3.next e4
    have lc := cut_len tx
    refine g_ret (K := K) (d := if (cutF x).all nameF = true then tp (cutF x) else .none) (ed_if (b := (cutF x).all nameF) (et_ofB (ed_cb (ea_consD (ed_is (ed_lcS (fun _ => true) (fun z => .bool (nameF z)) (ed_var rfl h2) (.inr rfl) (by omega) (fun _ => rfl) (fun _ _ _ _ => fun H1 e Q q => q H1 (Ex.refl H1)) fun z mz _ B1 e => ed_call0 (ea_consD (ed_var rfl (.str z)) ea_nilD) (sp_d ⟨z, rfl, cut_tok tx mz, rfl⟩)) (by rw [List.filter_eq_self.mpr fun _ _ => rfl])) ea_nilD) (rc_allS (cutF x)))) (fun hc => ?_) fun hc => ?_) a4.b fun v H5 e5 hv => ?_
    · rw [if_pos hc]
      exact ed_var rfl h2
    · rw [if_neg (by rw [hc]; exact Bool.false_ne_true)]
      exact ed_non
    · have e0 : nitF x = if (cutF x).all nameF = true then tp (cutF x) else .none := (if_neg (of_decide_eq_false hc)).trans (if_neg (of_decide_eq_false hc2))
      exact q v H5 (a4.ex.trans e5) (by rw [e0]; exact a4.out e5 hv)
end
end S5

set_option Elab.async false
set_option linter.all false
set_option maxRecDepth 100000
/-! len(o), x in o, o == y, o != y as an own class's methods answer. -/
namespace PySem.W
open PySem PySem.Calls PyProof.Rows Builtin
section
variable {prog : Program} {w : World} {A : Around} {E : Value → Shared → Prop} {s : Shared} {K : Frag} {x C L f : Addr} {h₀ : Heap} {m : Str → Option Value} {ox : Obj} {od : Option Obj} {b tb : Value}
theorem ne_own {Q : Value → Shared → Prop} (hu : A.units + 1 < cLine) (F : Fr h₀ L s.heap m) (X₀ : K.In h₀) (I : InstAt s.heap x ox C od) (hb : Looks (model prog w) s.heap (typeOf b) tb) (hn : notFirst K C tb = true)
    (hne : findIn K (.ref C) "__ne__" = some (some (.builtin "object.__ne__"))) (hm : mroIn K C (.type "object") = some true) (hs : findIn K (.ref C) "__eq__" = some (some (.ref f))) (hf : isFn K (.ref f) = true)
    (h : wpAny (model prog w) A.in1 (call (.ref f) [.ref x, b]) (fun v s' => ∃ r, v = .bool r ∧ Q (.bool (!r)) s') E s) : wpAny (model prog w) A (richCompare .NotEq (.ref x) b) Q E s := by
  have X := X₀.keeps F.keep
  have bd := PySem.F.cmp_object.ne.bind
  have in1 : A.in1.units < cLine := hu
  have one : wpAny (model prog w) A (tryCompare (.ref x) "__ne__" b) (fun r s' => ∃ v, r = some v ∧ Q v s') E s := by
    unfold tryCompare
    refine wpAny_bind ?_
    simp only [callSpecialIfBound?, bindSpecialIfBound?]
    refine wpAny_holding (wpAny_bind (wpAny_bind (wpAny_bind (I.type.here ((looks_findIn X hne).here ?_)))))
    simp only [bd]
    refine wpAny_bind (wpAny_askSetting (wpAny_ite ?_))
    have fin : wpAny (model prog w) A (call (.builtin "object.__ne__") ([.ref x] ++ [b]) >>= fun v => pure (some v)) (fun r s' => wpAny (model prog w) A (match r with | some .notImplemented | none => pure none | some v => pure (some v)) (fun r s' => ∃ v, r = some v ∧ Q v s') E s') E s := by
      refine wpAny_bind (wpAny_call (codeAny_call_builtin PySem.F.cmp_object.ne.plain PySem.F.cmpEntry_ne (check_slot (i := "object.__ne__") (owner := "object") (n := "__ne__") PySem.F.cmpKind_ne PySem.F.cmpSplit_ne (I.type.andThen (looks_mroIn X hm)) (PySem.F.cmpArgs_ne _ _) ?_)))
      unfold Builtin.«object.__ne__»
      refine wpAny_bind (m := slotArgs _ _ _) (wpAny_pure ?_)
      refine wpAny_bind (wpAny_cRoomFor in1 ?_)
      refine wpAny_bind (ifBound_K X I hs hf (wpAny_mono h (fun v s' hv => ?_) fun _ _ e => e))
      obtain ⟨r, rfl, q⟩ := hv
      refine wpAny_bind (wpAny_truthy_bool ?_)
      refine wpAny_pure ?_
      refine wpAny_pure ?_
      refine wpAny_pure ?_
      exact ⟨_, rfl, q⟩
    split
    · exact wpAny_bind (wpAny_pure (wpAny_pure (by exact fin)))
    · exact wpAny_tryCatch (wpAny_bind (wpAny_pure (wpAny_pure (by exact fin))))
  have hu0 : A.units < cLine := Nat.lt_of_succ_lt hu
  unfold richCompare
  simp only [oneThing_ref]
  refine wpAny_holding (wpAny_bind (wpAny_cRoomFor hu0 ?_))
  refine wpAny_bind (I.type.here (wpAny_bind (hb.here ?_)))
  split
  · rename_i q
    have e : subIn K tb (.ref C) = some false := by
      rcases Bool.or_eq_true_iff.mp hn with e | e
      · rw [beq_iff_eq.mp e] at q; simp at q
      · exact beq_iff_eq.mp e
    refine wpAny_bind ((looks_subIn X e).here ?_)
    simp only [Bool.false_eq_true, if_false]
    refine wpAny_bind (wpAny_mono one (fun r s' z => ?_) fun _ _ e => e)
    obtain ⟨v, rfl, hq⟩ := z
    exact wpAny_pure hq
  · refine wpAny_bind (wpAny_pure ?_)
    simp only [Bool.false_eq_true, if_false]
    refine wpAny_bind (wpAny_mono one (fun r s' z => ?_) fun _ _ e => e)
    obtain ⟨v, rfl, hq⟩ := z
    exact wpAny_pure hq
end
end PySem.W
namespace ZT
open PySem PySem.Spec PyProof.Rows L2
section
variable {X : Cx} {CX : CXT} {k : Nat} {f C : Addr} {fd : FuncData} {ps : List Str} {sp : Sp} {E : XK}
/-- a def run at an around that stands within the running body's -/
theorem run_at {pins : List (Addr × Obj)} {σ : L2.St} {H : Hp} {s : Shared} {Q : VK} {us : List Value} {vs : List V} {A : Around} (F : FnOk X.prog X.w X.K X.mg X.base CX k f fd ps sp) (hr : Room k A) (hA : A.frames = X.A.frames) (hb : Binds X.K fd ps []) (hx : Passes CX X E)
    (I : Inv X pins σ H s) (r : Vals vs us) (h : sp vs H Q E) : wpAny (model X.prog X.w) A (call (.ref f) us) (EP X pins σ Q) X.xe s := by
  have e0 : Env0 X.prog X.w X.K X.mg X.base A X.stack s H := by
    have e := I.env0
    exact ⟨by rw [hA]; exact e.frames, e.mod, e.bs, e.bsz, e.funs, e.frf, e.hok, e.bare⟩
  have hl : (us ++ []).length = ps.length := by rw [List.append_nil, ← r.length]; exact F.len _ _ _ _ h
  have hb' := hb s us I.kIn hl
  rw [List.append_nil] at hb'
  refine wpAny_call (codeAny_mono (F.run A X.stack s H ⟨us, []⟩ us vs Q E hr e0 hb' r h) fun r s' hq => ?_)
  cases r with
  | error e => exact hx pins σ H s e s' I hq
  | ok fl =>
    cases fl with
    | ret u => exact I.after hq
    | next => exact False.elim hq
    | brk => exact False.elim hq
    | cont => exact False.elim hq
/-- len(o) -/
def rLenO (C : Addr) (sp : Sp) (E : XK) : List V → Hp → VK → Prop := fun xs H Q => ∃ a dx fs, xs = [.ref a] ∧ H a = some (.ins C dx fs) ∧ sp [.ref a] H (fun v H' => ∃ n : Int, v = .int n ∧ 0 ≤ n ∧ n < 2 ^ 63 ∧ Q (.int n) H') E
theorem call_lenO (hm : Meth X.K C "__len__" f) (F : FnOk X.prog X.w X.K X.mg X.base CX k f fd ps sp) (hr : Room (k + 1) X.A) (hb : Binds X.K fd ps []) (hx : Passes CX X E) : CallR X (.builtin "len") (rLenO C sp E) := by
  intro pins s σ H xs us Q I r h
  obtain ⟨a, dx, fs, rfl, ha, q⟩ := h
  obtain ⟨u1, rfl, r1⟩ : ∃ u1, us = [u1] ∧ RelV (.ref a) u1 := by
    cases r with
    | cons r1 r2 => cases r2; exact ⟨_, rfl, r1⟩
  cases (show u1 = Value.ref a from r1)
  obtain ⟨mA, J, _⟩ := ins_get I.hok ha
  obtain ⟨od, J, _⟩ := J.look
  obtain ⟨m, hF⟩ := I.fr
  refine PySem.W.len_K hF I.ok.mod.kin J hm.at_ hm.fn (wpAny_mono (run_at (A := X.A.in1) F hr.in1 rfl hb hx I (show Vals [V.ref a] [Value.ref a] from .cons rfl .nil) q) (fun v s' hv => ?_) fun _ _ e => e)
  obtain ⟨w, H', I', rv, n, rfl, h0, h1, q'⟩ := hv
  obtain ⟨t, rfl⟩ := (show ∃ t, v = Value.int n t from rv)
  exact ⟨⟨h0, h1⟩, .int n, H', I'.tok _, ⟨_, rfl⟩, q'⟩
/-- x in o, x not in o: f is the truth's turning -/
def rInO (C : Addr) (sp : Sp) (E : XK) (g : Bool → Bool) : R2 := fun x y H Q => ∃ a dx fs, y = .ref a ∧ H a = some (.ins C dx fs) ∧ sp [.ref a, x] H (fun v H' => ∃ b, v = .bl b ∧ Q (.bl (g b)) H') E
theorem op_inO (hm : Meth X.K C "__contains__" f) (F : FnOk X.prog X.w X.K X.mg X.base CX k f fd ps sp) (hr : Room k X.A) (hb : Binds X.K fd ps []) (hx : Passes CX X E) : OpR X (compareOp .In) (rInO C sp E fun b => b) := by
  intro pins s σ H x y v u Q I rx ry h
  obtain ⟨a, dx, fs, rfl, ha, q⟩ := h
  cases (show u = Value.ref a from ry)
  obtain ⟨mA, J, _⟩ := ins_get I.hok ha
  obtain ⟨od, J, _⟩ := J.look
  obtain ⟨m, hF⟩ := I.fr
  refine PySem.W.in_K hF I.ok.mod.kin J hm.at_ hm.fn (wpAny_mono (run_at F hr rfl hb hx I (show Vals [V.ref a, x] [Value.ref a, v] from .cons rfl (.cons rx .nil)) q) (fun v s' hv => ?_) fun _ _ e => e)
  obtain ⟨w, H', I', rv, b, rfl, q'⟩ := hv
  cases (show v = Value.bool b from rv)
  exact wpAny_truthy_bool ⟨.bl b, H', I', rfl, q'⟩
theorem op_ninO (hm : Meth X.K C "__contains__" f) (F : FnOk X.prog X.w X.K X.mg X.base CX k f fd ps sp) (hr : Room k X.A) (hb : Binds X.K fd ps []) (hx : Passes CX X E) : OpR X (compareOp .NotIn) (rInO C sp E fun b => !b) := by
  intro pins s σ H x y v u Q I rx ry h
  obtain ⟨a, dx, fs, rfl, ha, q⟩ := h
  cases (show u = Value.ref a from ry)
  obtain ⟨mA, J, _⟩ := ins_get I.hok ha
  obtain ⟨od, J, _⟩ := J.look
  obtain ⟨m, hF⟩ := I.fr
  refine PySem.W.notIn_K hF I.ok.mod.kin J hm.at_ hm.fn (wpAny_mono (run_at F hr rfl hb hx I (show Vals [V.ref a, x] [Value.ref a, v] from .cons rfl (.cons rx .nil)) q) (fun v s' hv => ?_) fun _ _ e => e)
  obtain ⟨w, H', I', rv, b, rfl, q'⟩ := hv
  cases (show v = Value.bool b from rv)
  exact wpAny_truthy_bool ⟨.bl (!b), H', I', rfl, q'⟩
/-- o == y, o != y: y's class is not below o's -/
def rEqO (K : PySem.W.Frag) (C : Addr) (sp : Sp) (E : XK) (g : Bool → Bool) : R2 := fun x y H Q => ∃ a dx fs t, x = .ref a ∧ H a = some (.ins C dx fs) ∧ TyX K H y t ∧ PySem.W.notFirst K C t = true ∧ sp [.ref a, y] H (fun v H' => ∃ b, v = .bl b ∧ Q (.bl (g b)) H') E
theorem op_eqO (hm : Meth X.K C "__eq__" f) (F : FnOk X.prog X.w X.K X.mg X.base CX k f fd ps sp) (hr : Room k X.A) (hb : Binds X.K fd ps []) (hx : Passes CX X E) : OpR X (compareOp .Eq) (rEqO X.K C sp E fun b => b) := by
  intro pins s σ H x y v u Q I rx ry h
  obtain ⟨a, dx, fs, t, rfl, ha, ty, nf, q⟩ := h
  cases (show v = Value.ref a from rx)
  obtain ⟨mA, J, _⟩ := ins_get I.hok ha
  obtain ⟨od, J, _⟩ := J.look
  obtain ⟨m, hF⟩ := I.fr
  obtain ⟨P, Z, p, _⟩ := kit_of I ry ty
  show wpAny (model X.prog X.w) X.A (richCompare .Eq (.ref a) u) (EP X pins σ Q) X.xe s
  refine PySem.W.cmp_K (op := .Eq) hr.units0 hF I.ok.mod.kin J (Z.ty _ _ I.kIn p) nf hm.at_ hm.fn (wpAny_mono (run_at F hr rfl hb hx I (show Vals [V.ref a, y] [Value.ref a, u] from .cons rfl (.cons ry .nil)) q) (fun v s' hv => ?_) fun _ _ e => e)
  obtain ⟨w, H', I', rv, b, rfl, q'⟩ := hv
  cases (show v = Value.bool b from rv)
  exact ⟨.bl b, H', I', rfl, q'⟩
theorem op_neO (hm : Meth X.K C "__eq__" f) (F : FnOk X.prog X.w X.K X.mg X.base CX k f fd ps sp) (hr : Room (k + 1) X.A) (hb : Binds X.K fd ps []) (hx : Passes CX X E) (hne : PySem.W.findIn X.K (.ref C) "__ne__" = some (some (.builtin "object.__ne__"))) (ho : PySem.W.mroIn X.K C (.type "object") = some true) :
    OpR X (compareOp .NotEq) (rEqO X.K C sp E fun b => !b) := by
  intro pins s σ H x y v u Q I rx ry h
  obtain ⟨a, dx, fs, t, rfl, ha, ty, nf, q⟩ := h
  cases (show v = Value.ref a from rx)
  obtain ⟨mA, J, _⟩ := ins_get I.hok ha
  obtain ⟨od, J, _⟩ := J.look
  obtain ⟨m, hF⟩ := I.fr
  obtain ⟨P, Z, p, _⟩ := kit_of I ry ty
  show wpAny (model X.prog X.w) X.A (richCompare .NotEq (.ref a) u) (EP X pins σ Q) X.xe s
  refine PySem.W.ne_own hr.in1.units0 hF I.ok.mod.kin J (Z.ty _ _ I.kIn p) nf hne ho hm.at_ hm.fn (wpAny_mono (run_at (A := X.A.in1) F hr.in1 rfl hb hx I (show Vals [V.ref a, y] [Value.ref a, u] from .cons rfl (.cons ry .nil)) q) (fun v s' hv => ?_) fun _ _ e => e)
  obtain ⟨w, H', I', rv, b, rfl, q'⟩ := hv
  cases (show v = Value.bool b from rv)
  exact ⟨b, rfl, .bl (!b), H', I', rfl, q'⟩
end
end ZT
namespace ZT
open PySem PySem.Spec PyProof.Rows L2
section
variable {X : Cx} {CX : CXT} {k : Nat} {f C : Addr} {fd : FuncData} {ps : List Str} {sp : Sp} {dvs : List V} {ds : List Value} {E : L2.St → XK} {x : Str} {p pos : Pos} {e : Expr} {es : List Expr} {t : TA}
/-- C(e, ..) where what is raised is wished for at the caller's slots -/
theorem run_makeS {pins : List (Addr × Obj)} {σ : L2.St} {H : Hp} {s : Shared} {Q : VK} {us : List Value} {vs : List V} (M : Mk X.K C f) (F : FnOk X.prog X.w X.K X.mg X.base CX k f fd ps sp) (hr : Room (k + 1) X.A) (hb : Binds X.K fd ps ds) (hd : Vals dvs ds)
    (hx : PassesAt CX X σ (E σ)) (I : Inv X pins σ H s) (r : Vals vs us)
    (h : ∀ x dx, H x = none → H dx = none → dx ≠ x → sp (.ref x :: (vs ++ dvs)) (upd (upd H dx (.own x)) x (.ins C dx [])) (fun v H2 => v = .non ∧ Q (.ref x) H2) (E σ)) :
    wpAny (model X.prog X.w) X.A (call (.ref C) us) (EP X pins σ Q) X.xe s := by
  have hq := h (s.heap.objs.size + 1) s.heap.objs.size (I.hok.fresh (Nat.le_succ _)) (I.hok.fresh (Nat.le_refl _)) (Nat.ne_of_lt (Nat.lt_succ_self _))
  have I2 := Inv.made (C := C) I
  have r2 : Vals (V.ref (s.heap.objs.size + 1) :: (vs ++ dvs)) (Value.ref (s.heap.objs.size + 1) :: (us ++ ds)) := .cons rfl (r.append hd)
  have hl : (Value.ref (s.heap.objs.size + 1) :: us ++ ds).length = ps.length := by
    have e := r2.length
    rw [F.len _ _ _ _ hq] at e
    exact e.symm
  refine wpAny_call (make_map (f := f) I.kIn M.makes M.init (beq_iff_eq.mp M.fn) (codeAny_mono (F.run _ X.stack _ _ ⟨Value.ref (s.heap.objs.size + 1) :: us, []⟩ (Value.ref (s.heap.objs.size + 1) :: (us ++ ds)) _ _ (E σ) (hr.make C us [])
    (I2.env0.make C us []) (hb _ (Value.ref (s.heap.objs.size + 1) :: us) I2.kIn hl) r2 hq) fun r s' hq' => ?_))
  cases r with
  | error e => exact hx pins _ _ e s' I2 hq'
  | ok fl =>
    cases fl with
    | ret u =>
      obtain ⟨v, H', I3, rv, ev, q3⟩ := I2.after hq'
      subst ev
      exact ⟨rv, ⟨V.ref (s.heap.objs.size + 1), H', I3, rfl, q3⟩⟩
    | next => exact False.elim hq'
    | brk => exact False.elim hq'
    | cont => exact False.elim hq'
theorem pe_makeS (M : Mk X.K C f) (F : FnOk X.prog X.w X.K X.mg X.base CX k f fd ps sp) (hr : Room (k + 1) X.A) (hg : Gl X x) (hm : X.mg x = some (.ref C)) (hb : Binds X.K fd ps ds) (hd : Vals dvs ds) (hx : ∀ σ, PassesAt CX X σ (E σ))
    (ha : PA X (e :: es) t) (hdb : (x == ("__debug__" : Str)) = false := by decide) (he : starEach (e :: es) X.env = (false, eval e X.env) :: starEach es X.env := by rfl) (hpl : (backTo pos (starEach es X.env)).any (·.1) = false := by rfl) :
    PE X (.Call (.Name x p) (e :: es) [] pos) (tMakeS C sp dvs E t) := by
  refine ⟨fun pins s σ H Q I h => ?_⟩
  refine wpAny_Call_Name_kw (ld_glob I hg hm ?_ hdb)
  refine PySem.W.callWith_K (h₀ := X.base) I.ok.mod.kin M.kp (thn (ha.run pos pins s σ H _ I h) fun us s1 ⟨vs, H1, I1, r, q⟩ => ⟨I1.kIn, ?_⟩) he hpl
  exact run_makeS M F hr hb hd (hx σ) I1 r q
end
end ZT

set_option Elab.async false
set_option linter.all false
set_option maxRecDepth 100000
/-! Data without lists stays where a list is taken out of the base; two lists of one's own at a time. -/
namespace ZE
open PySem PySem.Spec PyProof.Rows L2 Evl ZS StX RZ
-- no list within
mutual
def noL : PyData → Bool
  | .tuple ds => noLs ds
  | .list _ => false
  | .dict _ => false
  | _ => true
def noLs : List PyData → Bool
  | [] => true
  | d :: ds => noL d && noLs ds
end
section
variable {K : PySem.W.Frag} {B B2 : Hp}
mutual
theorem dp_keepT (k : ∀ a xs, SqT K B a xs → SqT K B2 a xs) : ∀ (d : PyData) (v : V), noL d = true → Dp K B v d → Dp K B2 v d
  | .none, _, _, h => by cases h; exact .non
  | .bool b, _, _, h => by cases h; exact .bl b
  | .int i, _, _, h => by cases h; exact .int i
  | .str x, _, _, h => by cases h; exact .str x
  | .list ds, _, n, _ => by cases n
  | .tuple ds, _, n, h => by
    cases h with
    | tup hs ha => exact .tup (k _ _ hs) (dpa_keepT k ds _ n ha)
  | .dict _, _, n, _ => by cases n
theorem dpa_keepT (k : ∀ a xs, SqT K B a xs → SqT K B2 a xs) : ∀ (ds : List PyData) (vs : List V), noLs ds = true → DpAll K B vs ds → DpAll K B2 vs ds
  | [], _, _, h => by cases h; exact .nil
  | d :: ds, _, n, h => by
    cases h with
    | cons h hs =>
      have z := Bool.and_eq_true_iff.mp (show (noL d && noLs ds) = true from n)
      exact .cons (dp_keepT k d _ z.1 h) (dpa_keepT k ds _ z.2 hs)
end
/-- a list's place is no tuple's -/
theorem sqt_del {l : Addr} {ws : List V} (hl : B l = some (.lst ws)) (a : Addr) (xs : List V) (h : SqT K B a xs) : SqT K (del B l) a xs := by
  rcases h with (h | ⟨o, h⟩) | h
  · exact .inl (.inl (by rw [del_ne fun z => by rw [z, hl] at h; cases h]; exact h))
  · exact .inl (.inr ⟨o, by rw [del_ne fun z => by rw [z, hl] at h; cases h]; exact h⟩)
  · exact .inr h
theorem noLs_all : ∀ {ds : List PyData}, (∀ d ∈ ds, noL d = true) → noLs ds = true
  | [], _ => rfl
  | d :: ds, h => by
    show (noL d && noLs ds) = true
    rw [h d (List.Mem.head _), noLs_all fun e m => h e (List.Mem.tail _ m)]
    rfl
theorem noL_tp (xs : List Str) : noL (tp xs) = true := noLs_all fun d m => by
  obtain ⟨x, _, rfl⟩ := List.mem_map.mp m
  rfl
theorem TdR.keepT {kvs : List (L2.Key × V)} {F : Str → Option PyData} (h : TdR K B kvs F) (n : ∀ x d, F x = some d → noL d = true) (k : ∀ a xs, SqT K B a xs → SqT K B2 a xs) : TdR K B2 kvs F := fun x => by
  have z := h x
  cases q : F x with
  | none => rw [q] at z; exact z
  | some d =>
    rw [q] at z
    obtain ⟨v, h1, h2⟩ := z
    exact ⟨v, h1, dp_keepT k _ _ (n x d q) h2⟩
section
variable {σ : L2.St} {H : Hp} {te : TE} {d : PyData} {es ds : List PyData} {D : Ends} {u : TS} {i : Nat} {Hk B0 H0 : Hp} {l l0 : Addr} {es0 : List PyData} {t ta tb : TE} {tt : TT}
theorem Mu.base (m : Mu K B H l es) (e : Ex B B2) (n : B2 l = none) : Mu K B2 H l es := by
  obtain ⟨ws, h1, h2, h3⟩ := m
  exact ⟨ws, h1, n, dpa_up h3 e⟩
/-- x = e, e a list of one's own, beside another one -/
theorem g_asgO2 (h : EvL K te σ B ds) (a : At Hk B0 H0 B H) (m0 : Mu K B H l0 es0) (q : ∀ l H2 Bi, Ex H H2 → H l = none → Ex B Bi → At Hk B0 H0 Bi H2 → Mu K Bi H2 l ds → Mu K Bi H2 l0 es0 → l ≠ l0 → u D (σ.set i (some (.ref l))) H2) : tSeq (tAsg te (gName i)) u D σ H := h H a.b _ fun l vs H2 Bi e hl hv bb eb bl hd => by
  refine q l H2 Bi e hl bb (a.mid e bb eb) ⟨vs, hv, bl, hd⟩ ?_ fun z => ?_
  · obtain ⟨ws, h1, h2, h3⟩ := m0
    refine ⟨ws, e _ _ h1, ?_, dpa_up h3 bb⟩
    cases w : Bi l0 with
    | none => rfl
    | some o =>
      have z := eb _ _ w
      rw [sub_no ⟨by rw [h1]; rfl, h2⟩] at z
      cases z
  · have := m0.isS
    rw [← z, hl] at this
    cases this
/-- l.append(e) beside another one -/
theorem g_append2 (hi : σ[i]? = some (some (V.ref l))) (m : Mu K B H l es) (a : At Hk B0 H0 B H) (hk : Hk l = none) (few : es.length < 100000) (h : EvD K te σ B d) (m0 : Mu K B H l0 es0) (ne : l0 ≠ l)
    (q : ∀ H2 B2, Ex B B2 → At Hk B0 H0 B2 H2 → Mu K B2 H2 l (es ++ [d]) → Mu K B2 H2 l0 es0 → (∃ ws, ∃ H3, Ex H H3 ∧ H2 = upd H3 l (.lst ws)) → u D σ H2) : tSeq (tDrop (tBM K "list" rAppend (tVar i) (tCons te tNil))) u D σ H :=
  l_append (D := { D with nx := u D }) hi m a.b few h fun H2 ws e m2 => q _ _ (le_sub a.b e) ((a.next e).mut (m.next a.b e).nb hk (isSome_up e m.isS)) m2 ((m0.next a.b e).other ne) ⟨ws, H2, e, rfl⟩
/-- if test then e, the test's answer known -/
theorem el_ifT (h : EvT tt σ B true) (h1 : EvL K ta σ B es) : EvL K (tIf tt ta tb) σ B es := fun H1 b Q q => h H1 b _ fun H2 e2 =>
  h1 H2 (b.trans e2) _ fun l vs H3 Bi e3 hl hv bb eb bl hd => q l vs H3 Bi (e2.trans e3) (fresh_back e2 hl) hv bb (eb.trans (sub_step e2)) bl hd
end
end
end ZE

set_option Elab.async false
set_option linter.all false
set_option maxRecDepth 100000
/-! Static methods called off a class; f-strings as data. -/
namespace ZT
open PySem PySem.Spec PyProof.Rows L2
/-- C.m is a staticmethod: its record at p, its def at g -/
structure SMet (K : PySem.W.Frag) (C : Addr) (mc : Value) (m : Str) (p g : Addr) : Prop where
  at_ : PySem.W.findCls K (.ref C) mc m = some (.get (.builtin "staticmethod.__get__") (.ref p) .none (.ref C))
  rc : ∃ rest, PySem.W.recIn K p "staticmethod" = some (.ref g :: rest)
  kp : PySem.W.keepIn K (.ref g) = true
section
variable {X : Cx} {CX : CXT} {k : Nat} {C p g : Addr} {fd : FuncData} {ps ks : List Str} {mc : Value} {sp : Sp} {dvs : List V} {ds : List Value} {E : L2.St → XK} {E1 : XK} {o e : Expr} {es : List Expr} {kws : List Keyword} {m : Str} {pos apos : Pos} {ta : TE} {t tk : TA} {pl : Sem Bool} {gv : List Value → List Value → List Value} {gV : List V → List V → List V}
theorem getmethsm_ok {pins : List (Addr × Obj)} {σ : L2.St} {H : Hp} {s : Shared} {A : Around} {Er : Value → Shared → Prop} {Q : Value × List Value → Shared → Prop} (I : Inv X pins σ H s) (r : ClX.CRead X.K C mc) (c : SMet X.K C mc m p g)
    (h : ∀ s', Inv X pins σ H s' → Q (.ref g, []) s') : wpAny (model X.prog X.w) A (getMethod (.ref C) m pl) Q Er s := by
  obtain ⟨rest, hp⟩ := c.rc
  refine PySem.W.method_cls I.kIn r.ga (PySem.W.cls_bind I.kIn r.rd c.at_ ?_)
  exact wpAny_call (PySem.W.sm_get (s := { s with toks := s.toks + 1 }) I.kIn hp (PySem.W.handed_on rfl (h _ (I.tok _))))
/-- C.m(e, ..) -/
def tSMeth (C : Addr) (sp : Sp) (dvs : List V) (E : L2.St → XK) (ta : TE) (t : TA) : TE := fun σ H Q => ta σ H fun x H1 => x = .ref C ∧ t σ H1 fun vs H2 => sp (vs ++ dvs) H2 Q (E σ)
theorem pe_smeth (he : PE X o ta) (r : ClX.CRead X.K C mc) (c : SMet X.K C mc m p g) (F : FnOk X.prog X.w X.K X.mg X.base CX k g fd ps sp) (hr : Room k X.A) (hb : Binds X.K fd ps ds) (hd : Vals dvs ds) (hx : ∀ σ, PassesAt CX X σ (E σ)) (ha : PA X (e :: es) t)
    (hst : starEach (e :: es) X.env = (false, eval e X.env) :: starEach es X.env := by rfl) (hpl : (backTo pos (starEach es X.env)).any (·.1) = false := by rfl)
    (ht : eval (.Call (.Attribute o m apos) (e :: es) [] pos) X.env = (do
      let ov ← eval o X.env
      standAt apos.atName
      let (f, first) ← holding [ov] (getMethod ov m pl)
      callWith pos f first (backTo pos (starEach (e :: es) X.env)) (backToKw pos (keywordEach [] X.env))) := by rfl) :
    PE X (.Call (.Attribute o m apos) (e :: es) [] pos) (tSMeth C sp dvs E ta t) := by
  refine ⟨fun pins s σ H Q I h => ?_⟩
  refine PySem.W.methodCall_KW (pl := pl) (thn (he.run pins s σ H _ I h) fun u s1 ⟨x, H1, I1, rx, ex, q⟩ => ?_) ht
  subst ex
  obtain rfl : u = Value.ref C := rx
  refine getmethsm_ok I1 r c fun s2 I2 => ?_
  refine PySem.W.callWith_K (first := []) (h₀ := X.base) I.ok.mod.kin c.kp (thn (ha.run pos pins s2 σ H1 _ I2 q) fun us s3 ⟨vs, H2, I3, rv, q2⟩ => ⟨I3.kIn, ?_⟩) hst hpl
  exact run_fnSD F hr hb hd (hx σ) I3 rv q2
/-- C.m(k = v, ..) -/
def tSMethN (C : Addr) (n : Nat) (sp : Sp) (gV : List V → List V → List V) (E : XK) (ta : TE) (tk : TA) : TE := fun σ H Q => ta σ H fun x H1 => x = .ref C ∧ tk σ H1 fun zs H2 => zs.length = n ∧ sp (gV [] zs) H2 Q E
theorem pe_smethN (he : PE X o ta) (r : ClX.CRead X.K C mc) (c : SMet X.K C mc m p g) (F : FnOk X.prog X.w X.K X.mg X.base CX k g fd ps sp) (hr : Room k X.A) (hb : KBn X.K fd ps 0 ks gv gV) (hx : Passes CX X E1) (hkw : PK X kws tk)
    (hall : (backToKw pos (keywordEach kws X.env)).all (·.1.isSome) = true := by rfl) (hks : (backToKw pos (keywordEach kws X.env)).filterMap (·.1) = ks := by rfl)
    (hpl : ((backTo pos (starEach [] X.env)).any (·.1) || (backToKw pos (keywordEach kws X.env)).any (·.1.isNone)) = false := by rfl)
    (ht : eval (.Call (.Attribute o m apos) [] kws pos) X.env = (do
      let ov ← eval o X.env
      standAt apos.atName
      let (f, first) ← holding [ov] (getMethod ov m pl)
      callWith pos f first (backTo pos (starEach [] X.env)) (backToKw pos (keywordEach kws X.env))) := by rfl) :
    PE X (.Call (.Attribute o m apos) [] kws pos) (tSMethN C ks.length sp gV E1 ta tk) := by
  refine ⟨fun pins s σ H Q I h => ?_⟩
  refine PySem.W.methodCall_KW (pl := pl) (thn (he.run pins s σ H _ I h) fun u s1 ⟨x, H1, I1, rx, ex, q⟩ => ?_) ht
  subst ex
  obtain rfl : u = Value.ref C := rx
  refine getmethsm_ok I1 r c fun s2 I2 => ?_
  refine PySem.W.callWith_KW0 (first := []) (h₀ := X.base) I.ok.mod.kin c.kp hall ?_ hpl
  refine thn (hkw.run pos pins s2 σ H1 _ I2 q) fun ws s3 ⟨zs, H2, I3, rz, l2, q2⟩ => ⟨I3.kIn, ?_⟩
  rw [hks]
  exact run_fnN (us := []) (vs := []) F hr hb hx I3 .nil rz rfl l2 q2
end
end ZT
namespace ZE
open PySem PySem.Spec PyProof.Rows L2 Evl ZS StX RZ
section
variable {K : PySem.W.Frag} {σ : L2.St} {B H : Hp} {ta tb tc : TE} {x y z : Str}
/-- {e}, e a text -/
theorem ed_fmt (h : EvD K ta σ B (.str x)) (l : x.length ≤ 100000) : EvD K (tFmt ta) σ B (.str x) := fun H1 b Q q => h H1 b _ fun v H2 e2 hv => by
  cases hv
  exact .inl ⟨x, rfl, sz_of l, q _ H2 e2 (.str x)⟩
/-- f'{e}..{f}' -/
theorem ed_joined3 (h1 : EvD K ta σ B (.str x)) (h2 : EvD K tb σ B (.str y)) (h3 : EvD K tc σ B (.str z)) (l : x.length + y.length + z.length ≤ 100000) : EvD K (fun σ H Q => tJs [ta, tb, tc] Str.empty σ H fun out H1 => Q (.str out) H1) σ B (.str (x ++ y ++ z)) := fun H1 b Q q => h1 H1 b _ fun v H2 e2 hv => by
  cases hv
  have l0 : (Str.empty ++ x).length = x.length := by
    show (#[] ++ x.cps).size = x.cps.size
    rw [Array.empty_append]
  have e0 : Str.empty ++ x = x := by
    show (⟨#[] ++ x.cps⟩ : Str) = x
    rw [Array.empty_append]
  have lap : ∀ a b : Str, (a ++ b).length = a.length + b.length := fun a b => Array.size_append
  refine ⟨x, rfl, sz_of (by omega), h2 H2 (b.trans e2) _ fun v H3 e3 hv => ?_⟩
  cases hv
  refine ⟨y, rfl, sz_of (by rw [lap]; omega), h3 H3 ((b.trans e2).trans e3) _ fun v H4 e4 hv => ?_⟩
  cases hv
  refine ⟨z, rfl, sz_of (by rw [lap, lap]; omega), ?_⟩
  rw [e0]
  exact q _ H4 ((e2.trans e3).trans e4) (.str _)
end
end ZE

set_option Elab.async false
set_option linter.all false
set_option maxRecDepth 100000
namespace S5
open PySem PySem.Spec PyProof.Rows L2 Evl ZE ZS StX ZD RZ ZT ZX TL
section
variable {P : Program} {w : World} {K : PySem.W.Frag} {mg : Str → Option Value} {base : Heap} {aI : Addr}
/-! ### digits -/
def digs : Str := "0123456789"
def digF (c : Str) : Bool := match c.cps.toList with
  | [n] => decide (n ∈ digs.cps.toList)
  | _ => false
def dgF (x : Str) : Bool := !decide (x = Str.empty) && (lets x).all digF
def dgP (ds : List PyData) (d : PyData) : Prop := ∃ x, ds = [.str x] ∧ Tok' x ∧ d = .bool (dgF x)
abbrev sIsDigits : Stmt := (top 9)
abbrev NIsDigits : List Str := ["text", "sign"]
theorem scIsDigits : FnScope NIsDigits ["text"] (defScope sIsDigits) := ⟨rfl, rfl, rfl, by decide +kernel, rfl, by decide +kernel, by decide +kernel⟩
theorem ok_is_digits {f : Addr} {fd : FuncData} {tok : Tok} (F : Fun K "is_digits" "is_digits" sIsDigits f fd) (T : Tx K mg aI) (gl : mg "DIGITS" = some (.str digs tok)) : FnOk P w K mg base CX0 1 f fd ["text"] (spD K dgP) := by
  refine F.ok scIsDigits (fun vs H Q E h => ?_) (fun cdv A outer s H vs Q E hr h => ?_)
  · obtain ⟨B, ds, d, b, hv, ⟨x, rfl, _⟩, _⟩ := h
    exact DpAll.len hv
  · obtain ⟨B, ds, d, b, hv, ⟨x, rfl, ⟨ox, lx⟩, rfl⟩, q⟩ := h
    obtain ⟨v, rfl, h1⟩ := one hv
    obtain rfl := p_str h1
    refine ⟨_, (pss_one (ps_ret (pe_and (pe_cmpR (xNe K hr.units) (pv 0) pe_str (nomark _)) (pe_one (pe_callB (xAll K rfl) (by rfl) T.all (by decide +kernel) (pa_cons (pe_lc (own := [("sign", 1)]) rfl scIsDigits.nd (pi_str (pv 0)) (blkOk_by (N := NIsDigits) (sc := defScope sIsDigits) (by decide +kernel)) (fun _ _ _ _ _ => (pg_name (i := 1) scIsDigits.nd rfl (by first | exact .inl rfl | exact .inr rfl))) (fun _ _ _ _ _ => pts_nil) (fun _ _ _ _ _ => (pe_cmpR op_inS (pv 1) (pe_glob (v := V.str digs) rfl gl ⟨tok, rfl⟩) (by rfl)))) pa_nil)))))), ?_⟩
    have o0 : PyData.strOk Str.empty = true := by decide +kernel
    refine g_ret (d := .bool (dgF x)) (ed_andV (ed_is (ed_op (ed_var rfl (.str x)) (ed_str _) (rv_ne (str_shaped ox) (str_shaped o0))) (congrArg (fun z => PyData.bool (!z)) (eq_str ox o0))) fun _ => ed_cb (ea_consD (ed_is (ed_lcX (fun _ => true) (fun c => .bool (digF c)) (ed_var rfl (.str x)) (by have : x.cps.size = x.length := rfl; omega) (fun _ => rfl) (fun _ _ _ _ => fun H1 e Q q => q H1 (Ex.refl H1)) fun c mc _ B1 e => ?_) (by rw [List.filter_eq_self.mpr fun _ _ => rfl])) ea_nilD) (rc_allS (lets x))) b q
    obtain ⟨n, rfl⟩ := let_one mc
    exact ed_op (ed_var rfl (.str _)) (ed_tC (.str digs)) rv_inC
theorem dg_all {x : Str} (h : dgF x = true) : NumText.AllDigits (tl x) ∧ tl x ≠ [] := by
  obtain ⟨h1, h2⟩ := Bool.and_eq_true_iff.mp h
  have ne : x ≠ Str.empty := fun z => by rw [decide_eq_true z] at h1; cases h1
  refine ⟨fun c m => ?_, fun z => ne (ext_tl z)⟩
  have z := List.all_eq_true.mp h2 ⟨#[c]⟩ (List.mem_map.mpr ⟨c, m, rfl⟩)
  have z : c ∈ digs.cps.toList := of_decide_eq_true z
  have e : digs.cps.toList = [48, 49, 50, 51, 52, 53, 54, 55, 56, 57] := by decide +kernel
  rw [e] at z
  simp only [List.mem_cons, List.not_mem_nil, or_false] at z
  omega
/-! ### shares -/
def shB (n d : Int) : Bool := (decide (0 < n) && decide (n ≤ d)) && decide (((Nat.gcd n.natAbs d.natAbs : Nat) : Int) = 1)
def isP (ds : List PyData) (r : PyData) : Prop := ∃ n d : Int, ds = [.tuple [.int n, .int d]] ∧ r = .bool (shB n d)
theorem ed_chain {σ : L2.St} {B : Hp} {r r' : R2} {ta tb tc : TE} {d1 d2 d3 : PyData} {a b : Bool} (h1 : EvD K ta σ B d1) (h2 : EvD K tb σ B d2) (hr : RvD K r d1 d2 (.bool a)) (h3 : a = true → EvD K tc σ B d3) (hr' : a = true → RvD K r' d2 d3 (.bool b)) : EvD K (tChain r r' ta tb tc) σ B (.bool (a && b)) := fun H1 bb Q q =>
  h1 H1 bb _ fun x H2 e2 hx => h2 H2 (bb.trans e2) _ fun y H3 e3 hy => hr (sub H3 H1 B) H3 x y sub_le (dp_up hx (sub_mono e3)) (dp_up hy (sub_step e2)) _ fun z H4 e4 hz => by
    obtain rfl := p_bl hz
    have e14 := (e2.trans e3).trans e4
    refine ⟨a, rfl, ?_⟩
    cases a with
    | false => exact (if_neg Bool.false_ne_true).mpr (q _ H4 e14 (.bl _))
    | true =>
      refine (if_pos rfl).mpr (h3 rfl H4 (bb.trans e14) _ fun w' H5 e5 hw => ?_)
      exact hr' rfl (sub H5 H1 B) H5 y w' sub_le (dp_up hy ((sub_step e2).trans (sub_mono (e4.trans e5)))) (dp_up hw (sub_step e14)) _ fun z H6 e6 hz => q z H6 ((e14.trans e5).trans e6) (dp_up hz (later (e14.trans e5)))
theorem rc_gcd {n d : Int} : RcD K rGcd [.int n, .int d] (.int ((Nat.gcd n.natAbs d.natAbs : Nat) : Int)) := rc_sc (fun _ => .int _) fun H vs hv Q q => by
  obtain ⟨v, u, rfl, h1, h2⟩ := two hv
  obtain rfl := p_int h1
  obtain rfl := p_int h2
  exact ⟨n, d, rfl, q⟩
abbrev sIsShare : Stmt := (top 6)
abbrev NIsShare : List Str := ["pair", "n", "d"]
theorem scIsShare : FnScope NIsShare ["pair"] (defScope sIsShare) := ⟨rfl, rfl, rfl, by decide +kernel, rfl, by decide +kernel, by decide +kernel⟩
theorem ok_is_share {f : Addr} {fd : FuncData} (F : Fun K "is_share" "is_share" sIsShare f fd) (mgcd : mg "gcd" = some (.builtin "math.gcd")) : FnOk P w K mg base CX0 1 f fd ["pair"] (spD K isP) := by
  refine F.ok scIsShare (fun vs H Q E h => ?_) (fun cdv A outer s H vs Q E hr h => ?_)
  · obtain ⟨B, ds, d, b, hv, ⟨n, m, rfl, _⟩, _⟩ := h
    exact DpAll.len hv
  · obtain ⟨B, ds, r, b, hv, ⟨n, d, rfl, rfl⟩, q⟩ := h
    obtain ⟨v, rfl, h1⟩ := one hv
    refine ⟨_, (pss_cons (ps_asg (pv 0) (xTup K 2 rfl (pgs_cons (pg_name (i := 1) scIsShare.nd rfl (by first | exact .inl rfl | exact .inr rfl)) (pgs_cons (pg_name (i := 2) scIsShare.nd rfl (by first | exact .inl rfl | exact .inr rfl)) pgs_nil)))) (pss_one (ps_ret (pe_and (pe_chain op_lt op_le pe_int (pv 1) (pv 2)) (pe_one (pe_cmpR (xEq K hr.units) (pe_callBfun cr_gcd (by rfl) mgcd (pa_cons (pv 1) (pa_cons (pv 2) pa_nil))) pe_int (nomark _))))))), ?_⟩
    refine l_unpack rfl h1 b fun vf vp hf hp => ?_
    obtain rfl := p_int hf
    obtain rfl := p_int hp
    exact g_ret (d := .bool (shB n d)) (ed_andV (ed_chain (ed_int 0) (ed_var rfl (.int n)) (rv_int fun _ => .bl _) (fun _ => ed_var rfl (.int d)) fun _ => rv_int fun _ => .bl _) fun _ => ed_is (ed_op (ed_cb (ea_consD (ed_var rfl (.int n)) (ea_consD (ed_var rfl (.int d)) ea_nilD)) rc_gcd) (ed_int 1) (rv_eq (int_shaped _) (int_shaped _))) (by rw [eqv_int])) b q
end
end S5

set_option Elab.async false
set_option linter.all false
set_option maxRecDepth 100000
namespace S5
open PySem PySem.Spec PyProof.Rows L2 Evl ZE ZS StX ZD RZ ZT ZX TL
section
variable {P : Program} {w : World} {K : PySem.W.Frag} {mg : Str → Option Value} {base : Heap} {aI : Addr}
/-! ### the text of a share -/
def numT (n : Nat) : Str := Str.ofString (toString ((n : Nat) : Int))
def shT (n d : Nat) : Str := if (1 : Int) < (d : Int) then numT n ++ ("/" : Str) ++ numT d else numT n
theorem num_len {n : Nat} (h : n < 10 ^ 100) : (numT n).length ≤ 100 := by
  rw [len_tl]
  show (tl (Str.ofString (toString ((n : Nat) : Int)))).length ≤ 100
  rw [tl_num]
  exact numL_len (by decide) h
theorem num_ok (n : Nat) : PyData.strOk (numT n) = true := by
  unfold PyData.strOk
  rw [← Array.all_toList, List.all_eq_true]
  intro c m
  have m : c ∈ tl (numT n) := m
  have e : tl (numT n) = numL n := tl_num n
  rw [e] at m
  have := numL_digits n c m
  exact decide_eq_true (by omega)
theorem num_log {n : Nat} (h : n < 10 ^ 100) : ((n : Nat) : Int).natAbs.log2 < 1920 := by
  rw [Int.natAbs_natCast]
  by_cases z : n = 0
  · rw [z]
    decide
  · have h1 : (10 : Nat) ^ 100 ≤ 16 ^ 100 := Nat.pow_le_pow_left (by decide) 100
    have h2 : (16 : Nat) ^ 100 = 2 ^ (4 * 100) := by rw [Nat.pow_mul]
    have h3 : (2 : Nat) ^ (4 * 100) < 2 ^ 1920 := Nat.pow_lt_pow_right (by decide) (by decide)
    exact (Nat.log2_lt z).mpr (Nat.lt_of_lt_of_le h (Nat.le_trans h1 (Nat.le_of_lt (h2 ▸ h3))))
section
variable {σ : L2.St} {B H : Hp} {ta tb : TE} {x y : Str}
/-- {e}, e a number -/
theorem ed_fmtI {n : Nat} (h : EvD K ta σ B (.int (n : Int))) (l : n < 10 ^ 100) : EvD K (tFmt ta) σ B (.str (numT n)) := fun H1 b Q q => h H1 b _ fun v H2 e2 hv => by
  cases hv
  exact .inr ⟨(n : Int), rfl, num_log l, q _ H2 e2 (.str (numT n))⟩
end
def stP (ds : List PyData) (r : PyData) : Prop := ∃ n d : Nat, ds = [.tuple [.int (n : Int), .int (d : Int)]] ∧ n < 10 ^ 100 ∧ d < 10 ^ 100 ∧ r = .str (shT n d)
abbrev sShareText : Stmt := (top 7)
abbrev NShareText : List Str := ["share", "n", "d"]
theorem scShareText : FnScope NShareText ["share"] (defScope sShareText) := ⟨rfl, rfl, rfl, by decide +kernel, rfl, by decide +kernel, by decide +kernel⟩
theorem ok_share_text {f : Addr} {fd : FuncData} (F : Fun K "share_text" "share_text" sShareText f fd) : FnOk P w K mg base CX0 1 f fd ["share"] (spD K stP) := by
  refine F.ok scShareText (fun vs H Q E h => ?_) (fun cdv A outer s H vs Q E hr h => ?_)
  · obtain ⟨B, ds, d, b, hv, ⟨n, m, rfl, _⟩, _⟩ := h
    exact DpAll.len hv
  · obtain ⟨B, ds, r, b, hv, ⟨n, d, rfl, ln, ld, rfl⟩, q⟩ := h
    obtain ⟨v, rfl, h1⟩ := one hv
    refine ⟨_, (pss_cons (ps_asg (pv 0) (xTup K 2 rfl (pgs_cons (pg_name (i := 1) scShareText.nd rfl (by first | exact .inl rfl | exact .inr rfl)) (pgs_cons (pg_name (i := 2) scShareText.nd rfl (by first | exact .inl rfl | exact .inr rfl)) pgs_nil)))) (pss_one (ps_ret (pe_ifExp (pt_cmpR op_gt (pv 2) pe_int (nomark _)) (pe_joined (.cons (pe_fmt (pv 1)) (.cons pe_str (.cons (pe_fmt (pv 2)) .nil)))) (pe_joined1 (pe_fmt (pv 1))))))), ?_⟩
    refine l_unpack rfl h1 b fun vf vp hf hp => ?_
    obtain rfl := p_int hf
    obtain rfl := p_int hp
    have l1 := num_len ln
    have l2 := num_len ld
    have l3 : ("/" : Str).length = 1 := rfl
    refine g_ret (d := .str (shT n d)) (ed_if (b := decide ((1 : Int) < (d : Int))) (et_of (K := K) (ed_op (ed_var rfl (.int (d : Int))) (ed_int 1) (rv_int fun _ => .bl _))) (fun hc => ed_is (ed_joined3 (ed_fmtI (ed_var rfl (.int (n : Int))) ln) (ed_str "/") (ed_fmtI (ed_var rfl (.int (d : Int))) ld) (by rw [l3]; omega)) ?_) fun hc => ed_is (ed_fmtI (ed_var rfl (.int (n : Int))) ln) ?_) b q
    · unfold shT
      rw [if_pos (of_decide_eq_true hc)]
    · unfold shT
      rw [if_neg (of_decide_eq_false hc)]
/-! ### a share in a text -/
theorem val_lt : ∀ (cs : List Nat), NumText.AllDigits cs → NumText.digitsVal cs < 10 ^ cs.length := fun cs => by
  induction h : cs.length generalizing cs with
  | zero =>
    intro _
    rw [List.length_eq_zero_iff.mp h]
    decide
  | succ n ih =>
    intro al
    obtain ⟨r, c, rfl⟩ : ∃ r c, cs = r ++ [c] := ⟨cs.dropLast, cs.getLast (fun z => by rw [z] at h; cases h), (List.dropLast_concat_getLast _).symm⟩
    rw [List.length_append, List.length_singleton] at h
    have z := ih r (by omega) fun x m => al x (List.mem_append_left _ m)
    have zc := al c (List.mem_append_right _ (List.Mem.head _))
    rw [NumText.digitsVal_snoc, Nat.pow_succ]
    omega
def val (x : Str) : Nat := NumText.digitsVal (tl x)
theorem val_ok {x : Str} (h : dgF x = true) (l : x.length ≤ 100) : PySem.intText? x = some ((val x : Nat) : Int) ∧ val x < 10 ^ 100 := by
  obtain ⟨h1, h2⟩ := dg_all h
  refine ⟨intText_digits h1 h2 (by omega), Nat.lt_of_lt_of_le (val_lt _ h1) (Nat.pow_le_pow_right (by decide) ?_)⟩
  rw [← len_tl]
  exact l
def topF (x : Str) : Str := (Txt.partition x "/").1
def botF (x : Str) : Str := if (Txt.partition x "/").2.2.length = 0 then "1" else (Txt.partition x "/").2.2
def siF (x : Str) : Option (Nat × Nat) := if (dgF (topF x) && dgF (botF x)) && (shB (val (topF x)) (val (botF x)) && decide (shT (val (topF x)) (val (botF x)) = x)) = true then some (val (topF x), val (botF x)) else none
def siD (x : Str) : PyData := match siF x with
  | some (n, d) => .tuple [.int (n : Int), .int (d : Int)]
  | none => .none
def siP (ds : List PyData) (r : PyData) : Prop := ∃ x, ds = [.str x] ∧ Tok' x ∧ x.length ≤ 99 ∧ r = siD x
theorem par_in {S : List Nat} : ∀ (l acc a b : List Nat), par S acc l = some (a, b) → a.length ≤ acc.length + l.length ∧ b.length ≤ l.length ∧ (∀ c ∈ a, c ∈ acc ∨ c ∈ l) ∧ ∀ c ∈ b, c ∈ l
  | [], acc, a, b, h => nomatch h
  | c :: r, acc, a, b, h => by
    cases p : pre S (c :: r) with
    | true =>
      rw [par_hit p] at h
      obtain ⟨rfl, rfl⟩ := Prod.mk.inj (Option.some.inj h)
      refine ⟨Nat.le_add_right _ _, ?_, fun c m => .inl m, fun c m => List.mem_of_mem_drop m⟩
      rw [List.length_drop]
      exact Nat.sub_le _ _
    | false =>
      rw [par_miss p] at h
      obtain ⟨h1, h2, h3, h4⟩ := par_in r (acc ++ [c]) a b h
      rw [List.length_append, List.length_singleton] at h1
      refine ⟨by rw [List.length_cons]; omega, by rw [List.length_cons]; omega, fun x m => ?_, fun x m => List.Mem.tail _ (h4 x m)⟩
      rcases h3 x m with m | m
      · rcases List.mem_append.mp m with m | m
        · exact .inl m
        · rw [List.mem_singleton.mp m]
          exact .inr (List.Mem.head _)
      · exact .inr (List.Mem.tail _ m)
theorem par_tok {x : Str} (h : Tok' x) : (Tok' (Txt.partition x "/").1 ∧ (Txt.partition x "/").1.length ≤ x.length) ∧ Tok' (Txt.partition x "/").2.2 ∧ (Txt.partition x "/").2.2.length ≤ x.length := by
  have e := partition_par x "/" (by decide +kernel)
  have o0 : PyData.strOk Str.empty = true := by decide +kernel
  have l0 : Str.empty.length = 0 := rfl
  have key : ∀ {y : Str}, (tl y).length ≤ x.length → (∀ c ∈ tl y, c ∈ tl x) → Tok' y ∧ y.length ≤ x.length := fun {y} hl hm => by
    have l : y.length ≤ x.length := by rw [len_tl y]; exact hl
    refine ⟨⟨?_, Nat.le_trans l h.2⟩, l⟩
    have o := h.1
    unfold PyData.strOk at o ⊢
    rw [← Array.all_toList, List.all_eq_true] at o ⊢
    exact fun c mc => o c (hm c mc)
  rw [e]
  cases p : par (tl "/") [] (tl x) with
  | none => exact ⟨⟨h, Nat.le_refl _⟩, ⟨o0, by rw [l0]; exact Nat.zero_le _⟩, by show Str.empty.length ≤ x.length; rw [l0]; exact Nat.zero_le _⟩
  | some ab =>
    obtain ⟨a, b⟩ := ab
    obtain ⟨h1, h2, h3, h4⟩ := par_in _ _ _ _ p
    rw [List.length_nil, Nat.zero_add, ← len_tl] at h1
    rw [← len_tl] at h2
    exact ⟨key (y := ⟨a.toArray⟩) h1 fun c m => (h3 c m).elim (fun z => nomatch z) id, key (y := ⟨b.toArray⟩) h2 h4⟩
theorem bot_tok {x : Str} (h : Tok' x) (l : x.length ≤ 99) : Tok' (botF x) ∧ (botF x).length ≤ 100 := by
  unfold botF
  split
  · exact ⟨⟨by decide +kernel, by decide⟩, by decide⟩
  · exact ⟨(par_tok h).2.1, by have := (par_tok h).2.2; omega⟩
theorem strOk_tl {x : Str} : PyData.strOk x = true ↔ ∀ c ∈ tl x, c < 0x110000 := by
  unfold PyData.strOk
  rw [← Array.all_toList, List.all_eq_true]
  exact forall_congr' fun c => forall_congr' fun _ => decide_eq_true_iff
theorem app_ok {x y : Str} (h : PyData.strOk x = true) (h2 : PyData.strOk y = true) : PyData.strOk (x ++ y) = true := by
  rw [strOk_tl] at h h2 ⊢
  rw [tl_append]
  exact fun c m => (List.mem_append.mp m).elim (h c) (h2 c)
theorem shT_ok (n d : Nat) : PyData.strOk (shT n d) = true := by
  unfold shT
  split
  · exact app_ok (app_ok (num_ok n) (by decide +kernel)) (num_ok d)
  · exact num_ok n
theorem ed_orX {σ : L2.St} {B : Hp} {ta : TE} {x y : Str} (h : EvD K ta σ B (.str x)) (l : x.length ≤ 1000) : EvD K (tOrT K ta (tC (.str y))) σ B (.str (if x.length = 0 then y else x)) := fun H1 b Q q => h H1 b _ fun v H2 e2 hv => by
  cases hv
  refine ⟨_, ⟨sz_of (by omega), rfl⟩, ?_⟩
  by_cases c : x.length = 0
  · rw [if_pos c] at q
    rw [c]
    exact (if_neg (by decide)).mpr (q _ H2 e2 (.str _))
  · rw [if_neg c] at q
    exact (if_pos (by rw [bne_iff_ne]; omega)).mpr (q _ H2 e2 (.str _))
theorem rc_intS {a : Str} {n : Int} (h : PySem.intText? a = some n) (l : a.length ≤ 640) : RcD K (fun xs H Q => ∃ a n, xs = [V.str a] ∧ PySem.intText? a = some n ∧ a.length ≤ 640 ∧ Q (.int n) H) [.str a] (.int n) := rc_sc (fun _ => .int _) fun H vs hv Q q => by
  obtain ⟨v, rfl, h1⟩ := one hv
  obtain rfl := p_str h1
  exact ⟨a, n, rfl, h, l, q⟩
abbrev sShareIn : Stmt := (top 8)
abbrev NShareIn : List Str := ["text", "top", "_", "bottom", "share"]
theorem scShareIn : FnScope NShareIn ["text"] (defScope sShareIn) := ⟨rfl, rfl, rfl, by decide +kernel, rfl, by decide +kernel, by decide +kernel⟩
theorem ok_share_in {f fd' fs ft : Addr} {fd fdd fds fdt : FuncData} (F : Fun K "share_in" "share_in" sShareIn f fd) (mi : mg "int" = none) (Cis_digits : Cal P w K mg base 1 "is_digits" ["text"] (spD K dgP) fd' fdd) (Cis_share : Cal P w K mg base 1 "is_share" ["pair"] (spD K isP) fs fds) (Cshare_text : Cal P w K mg base 1 "share_text" ["share"] (spD K stP) ft fdt) : FnOk P w K mg base CX0 2 f fd ["text"] (spD K siP) := by
  refine F.ok scShareIn (fun vs H Q E h => ?_) (fun cdv A outer s H vs Q E hr h => ?_)
  · obtain ⟨B, ds, d, b, hv, ⟨x, rfl, _⟩, _⟩ := h
    exact DpAll.len hv
  · obtain ⟨B, ds, d, b, hv, ⟨x, rfl, tx, lx, rfl⟩, q⟩ := h
    obtain ⟨v, rfl, h1⟩ := one hv
    obtain rfl := p_str h1
    refine ⟨_, (pss_cons (ps_asg (pe_partition (pv 0) pe_str) (xTup K 3 rfl (pgs_cons (pg_name (i := 1) scShareIn.nd rfl (by first | exact .inl rfl | exact .inr rfl)) (pgs_cons (pg_name (i := 2) scShareIn.nd rfl (by first | exact .inl rfl | exact .inr rfl)) (pgs_cons (pg_name (i := 3) scShareIn.nd rfl (by first | exact .inl rfl | exact .inr rfl)) pgs_nil))))) (pss_cons (ps_if (PW.pt (pw_or (pt_not (pt_val (pe_call Cis_digits.G (hr.mono (by decide)) (by rfl) Cis_digits.m Cis_digits.kp Cis_digits.b .nil pass0 (pa_cons (pv 1) pa_nil)))) (pw_or1 (pt_not (pt_val (pe_call Cis_digits.G (hr.mono (by decide)) (by rfl) Cis_digits.m Cis_digits.kp Cis_digits.b .nil pass0 (pa_cons (pe_orT (pv 3) (pe_one pe_str)) pa_nil))))))) (pss_one (ps_ret pe_non)) pss_nil) (pss_cons (ps_set (i := 4) scShareIn.nd rfl (by first | exact .inl rfl | exact .inr rfl) (pe_tup (pa_cons (pe_callTy call_int_str (by rfl) mi (by decide +kernel) (pa_cons (pv 1) pa_nil)) (pa_cons (pe_callTy call_int_str (by rfl) mi (by decide +kernel) (pa_cons (pe_orT (pv 3) (pe_one pe_str)) pa_nil)) pa_nil)))) (pss_one (ps_ret (pe_ifExp (PW.pt (pw_and (pt_val (pe_call Cis_share.G (hr.mono (by decide)) (by rfl) Cis_share.m Cis_share.kp Cis_share.b .nil pass0 (pa_cons (pv 4) pa_nil))) (pw_and1 (pt_cmpR (xEq K hr.units) (pe_call Cshare_text.G (hr.mono (by decide)) (by rfl) Cshare_text.m Cshare_text.kp Cshare_text.b .nil pass0 (pa_cons (pv 4) pa_nil)) (pv 0) (nomark _))))) (pv 4) pe_non)))))), ?_⟩
    obtain ⟨⟨t1, l1⟩, t2, l2⟩ := par_tok tx
    obtain ⟨t3, l3⟩ := bot_tok tx lx
    have a0 := At.start b (Ex.refl H)
    have orE : ∀ {σ : L2.St} {B : Hp}, σ[3]? = some (some (V.str (Txt.partition x "/").2.2)) → EvD K (tOrT K (tVar 3) (tC (.str "1"))) σ B (.str (botF x)) := fun hi => ed_orX (ed_var hi (.str _)) (by omega)
    refine ⟨.str x, rfl, ⟨x, rfl⟩, x, "/", rfl, rfl, by decide +kernel, sz_of (by omega), fun p hp => ⟨p, _, rfl, st_of upd_same, rfl, _, _, rfl, _, _, rfl, _, _, rfl, rfl, ?_⟩⟩
    have a1 := a0.new (o := .tup [.str (Txt.partition x "/").1, .str (Txt.partition x "/").2.1, .str (Txt.partition x "/").2.2]) hp
    generalize upd H p (.tup [.str (Txt.partition x "/").1, .str (Txt.partition x "/").2.1, .str (Txt.partition x "/").2.2]) = H1 at a1 ⊢
    refine g_if1 (c := !dgF (topF x) || !dgF (botF x)) (et_or (et_not (et_ofB (ed_call0 (K := K) (ea_consD (ed_var rfl (.str (topF x))) ea_nilD) (sp_d ⟨topF x, rfl, t1, rfl⟩)))) fun _ => et_not (et_ofB (ed_call0 (ea_consD (orE rfl) ea_nilD) (sp_d ⟨botF x, rfl, t3, rfl⟩)))) a1.b (fun hc H2 e2 => ?_) fun hc H2 e2 => ?_
    · have e0 : siD x = .none := by
        unfold siD siF
        rw [if_neg]
        intro z
        have z := Bool.and_eq_true_iff.mp (Bool.and_eq_true_iff.mp z).1
        rw [z.1, z.2] at hc
        cases hc
      rw [e0] at q
      exact g_ret (K := K) (d := .none) ed_non (a1.grow e2).b fun v H3 e3 hv => q v H3 ((a1.grow e2).ex.trans e3) ((a1.grow e2).out e3 hv)
    · have hc := Bool.or_eq_false_iff.mp hc
      have dt : dgF (topF x) = true := by have := hc.1; simpa using this
      have db : dgF (botF x) = true := by have := hc.2; simpa using this
      have lt : (topF x).length ≤ 100 := by show (Txt.partition x "/").1.length ≤ 100; omega
      obtain ⟨i1, v1⟩ := val_ok dt lt
      obtain ⟨i2, v2⟩ := val_ok db l3
      have a2 := a1.grow e2
      refine g_asg (K := K) (d := .tuple [.int (val (topF x) : Int), .int (val (botF x) : Int)]) (ed_tup (ea_consD (ed_cb (ea_consD (ed_var rfl (.str (topF x))) ea_nilD) (rc_intS i1 (by omega))) (ea_consD (ed_cb (ea_consD (orE rfl) ea_nilD) (rc_intS i2 (by omega))) ea_nilD)) (by show 2 ≤ 100000; decide)) a2.b fun v4 H3 e3 h4 => ?_
      have a3 := a2.next e3
      refine g_ret (K := K) (d := siD x) (ed_if (b := shB (val (topF x)) (val (botF x)) && decide (shT (val (topF x)) (val (botF x)) = x)) (et_and (et_ofB (ed_call0 (ea_consD (ed_var rfl h4) ea_nilD) (sp_d ⟨_, _, rfl, rfl⟩))) fun _ => et_of (ed_is (ed_op (ed_call0 (ea_consD (ed_var rfl h4) ea_nilD) (sp_d ⟨_, _, rfl, v1, v2, rfl⟩)) (ed_var rfl (.str x)) (rv_eq (str_shaped (shT_ok _ _)) (str_shaped tx.1))) (congrArg _ (eq_str (shT_ok _ _) tx.1)))) (fun hc2 => ed_is (ed_var rfl h4) ?_) fun hc2 => ed_is ed_non ?_) a3.b fun v H4 e4 hv => q v H4 (a3.ex.trans e4) (a3.out e4 hv)
      · unfold siD siF
        rw [dt, db, hc2]
        rfl
      · unfold siD siF
        rw [dt, db, hc2]
        rfl
end
end S5

set_option Elab.async false
set_option linter.all false
set_option maxRecDepth 100000
namespace S5
open PySem PySem.Spec PyProof.Rows L2 Evl ZE ZS StX ZD RZ ZT ZX TL
section
variable {P : Program} {w : World} {K : PySem.W.Frag} {mg : Str → Option Value} {base : Heap} {aI : Addr}
/-! ### errors under ValueError with one field -/
abbrev veMro : List Value := [.type "ValueError", .type "Exception", .type "BaseException", .type "object"]
structure En (K : PySem.W.Frag) (mg : Str → Option Value) (C fI : Addr) (nm fld : Str) : Prop where
  own : Own K "ValueError.__new__" veMro C
  init : PySem.W.findIn K (.ref C) "__init__" = some (some (.ref fI))
  ty : PySem.W.typeIn K (.ref fI) = some (.type "function")
  g : mg nm = some (.ref C)
  no : PySem.W.findIn K (.ref C) fld = some none
  ex : ExC K C
def spE1 (K : PySem.W.Frag) (C : Addr) (fld : Str) : Sp := fun vs H Q _ => ∃ a v, vs = [V.ref a, v] ∧ H a = some (exo a C none) ∧ ∀ dx, H dx = none → dx ≠ a → Q .non (upd (upd H dx (exd dx [(fld, v)])) a (exo a C (some dx)))
abbrev sBadSamplerInit : Stmt := (inClass (top 15) 0)
abbrev NBadSamplerInit : List Str := ["self", "given"]
theorem scBadSamplerInit : FnScope NBadSamplerInit ["self", "given"] (defScope sBadSamplerInit) := ⟨rfl, rfl, rfl, by decide +kernel, rfl, by decide +kernel, by decide +kernel⟩
theorem ok_badsampler {f C fI : Addr} {fd : FuncData} (F : Fun K "__init__" "BadSampler.__init__" sBadSamplerInit f fd) (N : En K mg C fI "BadSampler" "given") : FnOk P w K mg base CX0 1 f fd ["self", "given"] (spE1 K C "given") := by
  refine F.ok scBadSamplerInit (fun vs H Q E h => ?_) (fun cdv A outer s H vs Q E hr h => ?_)
  · obtain ⟨a, v, rfl, _⟩ := h
    rfl
  · obtain ⟨a, v, rfl, ha, q⟩ := h
    refine ⟨_, (pss_one (ps_fst (pv 0) (pv 1))), ?_⟩
    exact ⟨v, rfl, .ref a, rfl, a, C, _, _, _, _, rfl, under_VE, N.own, N.no, ha, fun dx h1 h2 => q dx h1 h2⟩
abbrev sBadSaltInit : Stmt := (inClass (top 16) 0)
abbrev NBadSaltInit : List Str := ["self", "given"]
theorem scBadSaltInit : FnScope NBadSaltInit ["self", "given"] (defScope sBadSaltInit) := ⟨rfl, rfl, rfl, by decide +kernel, rfl, by decide +kernel, by decide +kernel⟩
theorem ok_badsalt {f C fI : Addr} {fd : FuncData} (F : Fun K "__init__" "BadSalt.__init__" sBadSaltInit f fd) (N : En K mg C fI "BadSalt" "given") : FnOk P w K mg base CX0 1 f fd ["self", "given"] (spE1 K C "given") := by
  refine F.ok scBadSaltInit (fun vs H Q E h => ?_) (fun cdv A outer s H vs Q E hr h => ?_)
  · obtain ⟨a, v, rfl, _⟩ := h
    rfl
  · obtain ⟨a, v, rfl, ha, q⟩ := h
    refine ⟨_, (pss_one (ps_fst (pv 0) (pv 1))), ?_⟩
    exact ⟨v, rfl, .ref a, rfl, a, C, _, _, _, _, rfl, under_VE, N.own, N.no, ha, fun dx h1 h2 => q dx h1 h2⟩
def spSh (K : PySem.W.Frag) (C : Addr) : Sp := fun vs H Q _ => ∃ B a v dat, vs = [V.ref a, v] ∧ Ex B H ∧ Dp K B v dat ∧ fzOk 2 dat = true ∧ H a = some (exo a C none) ∧ ∀ y H1 dx, Ex H H1 → Dp K (sub H1 H B) y (fz 2 dat) → H1 dx = none → dx ≠ a → Q .non (upd (upd H1 dx (exd dx [("given", y)])) a (exo a C (some dx)))
abbrev sBadShareInit : Stmt := (inClass (top 17) 0)
abbrev NBadShareInit : List Str := ["self", "given"]
theorem scBadShareInit : FnScope NBadShareInit ["self", "given"] (defScope sBadShareInit) := ⟨rfl, rfl, rfl, by decide +kernel, rfl, by decide +kernel, by decide +kernel⟩
theorem ok_badshare {f C fI ff : Addr} {fd fdf : FuncData} (F : Fun K "__init__" "BadShare.__init__" sBadShareInit f fd) (N : En K mg C fI "BadShare" "given") (Cfrozen : Cal P w K mg base 3 "frozen" ["value"] (spD K (fzP 2)) ff fdf) : FnOk P w K mg base CX0 4 f fd ["self", "given"] (spSh K C) := by
  refine F.ok scBadShareInit (fun vs H Q E h => ?_) (fun cdv A outer s H vs Q E hr h => ?_)
  · obtain ⟨B, a, v, dat, rfl, _⟩ := h
    rfl
  · obtain ⟨B, a, v, dat, rfl, b, hv, ok, ha, q⟩ := h
    refine ⟨_, (pss_one (ps_fst (pv 0) (pe_call Cfrozen.G (hr.mono (by decide)) (by rfl) Cfrozen.m Cfrozen.kp Cfrozen.b .nil pass0 (pa_cons (pv 1) pa_nil)))), ?_⟩
    exact (ed_call0 (ea_consD (ed_var rfl hv) ea_nilD) (sp_d ⟨dat, rfl, ok, rfl⟩)) H b _ fun y H1 e1 hy => ⟨.ref a, rfl, a, C, _, _, _, _, rfl, under_VE, N.own, N.no, e1 a _ ha, fun dx h1 h2 => q y H1 dx e1 hy h1 h2⟩
structure EnI (P : Program) (w : World) (K : PySem.W.Frag) (mg : Str → Option Value) (base : Heap) (C fI : Addr) (nm fld : Str) (k : Nat) (sp : Sp) (fd : FuncData) : Prop where
  n : En K mg C fI nm fld
  G : FnOk P w K mg base CX0 k fI fd ["self", fld] sp
  b : Binds K fd ["self", fld] []
/-- an error of this kind leaves, with these data -/
def GoneD (K : PySem.W.Frag) (H B : Hp) (C : Addr) (f : Str) (dat : PyData) (E : XK) : Prop := ∀ d v H2, Ex H H2 → H d = none → H2 d = some (.xd [(f, v)]) → Dp K (sub H2 H B) v dat → E (.ref C) (some d) H2
theorem exc_ex {H H5 H6 : Hp} {a dx : Addr} {X Y Y0 Z : HO} (e : Ex H H5) (ha : H5 a = none) (e6 : Ex (upd H5 a Y0) H6) (hdx : H6 dx = none) (ndx : dx ≠ a)   : Ex H (upd (L2.del (upd (upd H6 dx X) a Y) a) dx Z) := fun c o ho => by
  have h5 := e c o ho
  have n1 : c ≠ a := ne_of_none h5 ha
  have h6 := e6 c o (by rw [upd_ne n1]; exact h5)
  have n2 : c ≠ dx := ne_of_none h6 hdx
  rw [upd_ne n2, L2.del_ne n1, upd_ne n1, upd_ne n2]
  exact h6
theorem exc_dp {Hk B H Bc H5 H6 : Hp} {a dx : Addr} {X Y Y0 Z : HO} {y : V} {dat : PyData} (a7 : At Hk B H Bc H5) (ha : H5 a = none) (e6 : Ex (upd H5 a Y0) H6) (hdx : H6 dx = none) (ndx : dx ≠ a) (hy : Dp K (sub H6 (upd H5 a Y0) Bc) y dat) : Dp K (sub (upd (L2.del (upd (upd H6 dx X) a Y) a) dx Z) H B) y dat := by
  refine dp_up hy fun c o ho => ?_
  have h6 := sub_le c o ho
  have nb : ¬ (((upd H5 a Y0) c).isSome = true ∧ Bc c = none) := fun z => by
    rw [sub_no z] at ho
    cases ho
  have n1 : c ≠ a := fun z => nb (by
    subst z
    refine ⟨by rw [upd_same]; rfl, ?_⟩
    cases w : Bc c with
    | none => rfl
    | some o => rw [a7.b c o w] at ha; cases ha)
  have n2 : c ≠ dx := ne_of_none h6 hdx
  rw [sub_yes fun z => ?_]
  · rw [upd_ne n2, L2.del_ne n1, upd_ne n1, upd_ne n2]
    exact h6
  · obtain ⟨o2, ho2⟩ := Option.isSome_iff_exists.mp (a7.dm c z.1)
    exact nb ⟨by rw [upd_ne n1, ho2]; rfl, a7.wk.ap c z.2 z.1⟩
/-! ### keyset_text -/
def ktF (ys : List Str) : Str := if (Txt.join "+" ys).length = 0 then "-" else Txt.join "+" ys
def ktP (ds : List PyData) (d : PyData) : Prop := ∃ A ys, ds = [A] ∧ Sq A (ys.map .str) ∧ (ys.map (·.length)).sum ≤ 1000 ∧ ys.length ≤ 60 ∧ (Txt.join "+" ys).length ≤ 1000 ∧ d = .str (ktF ys)
abbrev sKeysetText : Stmt := (top 30)
abbrev NKeysetText : List Str := ["keyset"]
theorem scKeysetText : FnScope NKeysetText ["keyset"] (defScope sKeysetText) := ⟨rfl, rfl, rfl, by decide +kernel, rfl, by decide +kernel, by decide +kernel⟩
theorem ok_keyset_text {f : Addr} {fd : FuncData} (F : Fun K "keyset_text" "keyset_text" sKeysetText f fd) : FnOk P w K mg base CX0 1 f fd ["keyset"] (spD K ktP) := by
  refine F.ok scKeysetText (fun vs H Q E h => ?_) (fun cdv A outer s H vs Q E hr h => ?_)
  · obtain ⟨B, ds, d, b, hv, ⟨A1, ys, rfl, _⟩, _⟩ := h
    exact DpAll.len hv
  · obtain ⟨B, ds, d, b, hv, ⟨A1, ys, rfl, sq, l1, l2, l3, rfl⟩, q⟩ := h
    obtain ⟨v, rfl, h1⟩ := one hv
    refine ⟨_, (pss_one (ps_ret (pe_orT (xJoin K pe_str (pv 0)) (pe_one pe_str)))), ?_⟩
    exact g_ret (K := K) (d := .str (ktF ys)) (ed_orX (ed_join (a := "+") (ed_var rfl h1) sq (by have e : ("+" : Str).length = 1 := rfl; rw [e]; omega)) l3) b q
end
end S5

set_option Elab.async false
set_option linter.all false
set_option maxRecDepth 100000
namespace S5
open PySem PySem.Spec PyProof.Rows L2 Evl ZE ZS StX ZD RZ ZT ZX TL
section
variable {P : Program} {w : World} {K : PySem.W.Frag} {mg : Str → Option Value} {base : Heap} {aI : Addr}
/-! ### words -/
def partF (x b : Str) : List Str := Txt.split x b
theorem part_tok {x b p : Str} (hb : (partF x b).map tl = spl (tl b) 0 [] (tl x)) (h : Tok' x) (m : p ∈ partF x b) : Tok' p := by
  have z := spl_mem (tl b) (tl x) 0 [] (tl p) (by rw [← hb]; exact List.mem_map_of_mem m)
  refine ⟨?_, ?_⟩
  · have o := h.1
    unfold PyData.strOk at o ⊢
    rw [← Array.all_toList, List.all_eq_true] at o ⊢
    exact fun c mc => o c ((z.1 c mc).elim (fun m => nomatch m) id)
  · have := z.2
    have e1 : p.length = (tl p).length := by unfold tl; exact Array.length_toList.symm
    have e2 : x.length = (tl x).length := by unfold tl; exact Array.length_toList.symm
    have := h.2
    rw [List.length_nil] at *
    omega
theorem part_len {x b : Str} (hb : (partF x b).map tl = spl (tl b) 0 [] (tl x)) (h : Tok' x) : (partF x b).length ≤ 1001 := by
  have z := spl_len (tl b) (tl x) 0 []
  rw [← hb, List.length_map] at z
  have e2 : x.length = (tl x).length := by unfold tl; exact Array.length_toList.symm
  have := h.2
  omega
theorem sp_map (x : Str) : (partF x " ").map tl = spl (tl " ") 0 [] (tl x) := split_spl x " " (by decide +kernel) (kind_ok (by decide +kernel))
def wordsF (x : Str) : List Str := (partF x " ").filter fun w => !decide (w = Str.empty)
theorem words_tok {x p : Str} (h : Tok' x) (m : p ∈ wordsF x) : Tok' p := part_tok (sp_map x) h (List.mem_filter.mp m).1
theorem words_len {x : Str} (h : Tok' x) : (wordsF x).length ≤ 1001 := Nat.le_trans (List.length_filter_le _ _) (part_len (sp_map x) h)
theorem words_le {x p : Str} (m : p ∈ wordsF x) : p.length ≤ x.length := by
  have z := spl_mem (tl " ") (tl x) 0 [] (tl p) (by rw [← sp_map]; exact List.mem_map_of_mem (List.mem_filter.mp m).1)
  have := z.2
  rw [List.length_nil, Nat.zero_add, ← len_tl, ← len_tl] at this
  exact this
def woP (ds : List PyData) (d : PyData) : Prop := ∃ x, ds = [.str x] ∧ Tok' x ∧ d = .list ((wordsF x).map .str)
abbrev sWordsOf : Stmt := (top 12)
abbrev NWordsOf : List Str := ["text", "word"]
theorem scWordsOf : FnScope NWordsOf ["text"] (defScope sWordsOf) := ⟨rfl, rfl, rfl, by decide +kernel, rfl, by decide +kernel, by decide +kernel⟩
theorem ok_words_of {f : Addr} {fd : FuncData} (F : Fun K "words_of" "words_of" sWordsOf f fd) (T : Tx K mg aI) : FnOk P w K mg base CX0 1 f fd ["text"] (spD K woP) := by
  refine F.ok scWordsOf (fun vs H Q E h => ?_) (fun cdv A outer s H vs Q E hr h => ?_)
  · obtain ⟨B, ds, d, b, hv, ⟨x, rfl, _⟩, _⟩ := h
    exact DpAll.len hv
  · obtain ⟨B, ds, d, b, hv, ⟨x, rfl, tx, rfl⟩, q⟩ := h
    obtain ⟨v, rfl, h1⟩ := one hv
    obtain rfl := p_str h1
    refine ⟨_, (pss_one (ps_ret (pe_lc (own := [("word", 1)]) rfl scWordsOf.nd (xSeq K (xSplit (pv 0) pe_str)) (blkOk_by (N := NWordsOf) (sc := defScope sWordsOf) (by decide +kernel)) (fun _ _ _ _ _ => (pg_name (i := 1) scWordsOf.nd rfl (by first | exact .inl rfl | exact .inr rfl))) (fun _ _ _ _ _ => pts_one (pt_cmpR (xNe K hr.units) (pv 1) pe_str (nomark _))) (fun _ _ _ _ _ => (pv 1))))), ?_⟩
    have o0 : PyData.strOk Str.empty = true := by decide +kernel
    have lp := part_len (sp_map x) tx
    exact g_ret (K := K) (d := .list ((wordsF x).map .str)) (ed_lcS (xs := partF x " ") (fun w => !decide (w = Str.empty)) .str (ed_split (ed_var rfl (.str x)) (by decide +kernel) tx.2) (.inl rfl) (by omega) (fun _ => rfl) (fun y my B1 e => et_of (ed_is (ed_op (ed_var rfl (.str y)) (ed_str _) (rv_ne (str_shaped (part_tok (sp_map x) tx my).1) (str_shaped o0))) (congrArg (fun z => PyData.bool (!z)) (eq_str (part_tok (sp_map x) tx my).1 o0)))) fun y my _ B1 e => ed_var rfl (.str y)) b q
/-! ### raise C(text) -/
theorem l_raise1 {σ : L2.St} {H0 H : Hp} {C : Addr} {f x : Str} {E : XK} {i : Nat} (hi : σ[i]? = some (some (V.str x))) (e : Ex H0 H) (g : Gone H0 C f (.str x) E) : tMkO C (spE1 K C f) [] (tCons (tVar i) tNil) σ H fun cls d H' => E cls d H' := by
  refine ⟨.str x, hi, by show 1 ≤ 1000; decide, fun a ha => ⟨a, .str x, rfl, upd_same, fun dx hdx ndx => ⟨rfl, dx, [(f, V.str x)], upd_same, ?_, ?_, ?_⟩⟩⟩
  · rw [upd_ne ndx, upd_same]
  · rw [upd_ne ndx] at hdx
    exact hdx
  · rw [upd_ne ndx] at hdx
    refine g dx _ (fun c o ho => ?_) (fresh_back e hdx) upd_same
    have h4 := e c o ho
    have n1 : c ≠ dx := ne_of_none h4 hdx
    have n2 : c ≠ a := ne_of_none h4 ha
    rw [upd_ne n1, L2.del_ne n2, upd_ne n2, upd_ne n1, upd_ne n2]
    exact h4
/-! ### the parts of a sampler's text -/
def nsF (x : Str) : Option (List Str) := if x = "-" then some [] else if x = "#" then some ["#"] else if (cutF x).all nameF = true then some (cutF x) else none
theorem nit_some {x : Str} {ns : List Str} (h : nsF x = some ns) : nitF x = tp ns := by
  unfold nsF at h
  unfold nitF
  split at h
  · next c => cases h; rw [if_pos c]
  · next c =>
    rw [if_neg c]
    split at h
    · next c2 => cases h; rw [if_pos c2]
    · next c2 =>
      rw [if_neg c2]
      split at h
      · next c3 => cases h; rw [if_pos c3]
      · cases h
theorem nit_none {x : Str} (h : nsF x = none) : nitF x = .none := by
  unfold nsF at h
  unfold nitF
  split at h
  · cases h
  · next c =>
    rw [if_neg c]
    split at h
    · cases h
    · next c2 =>
      rw [if_neg c2]
      split at h
      · cases h
      · next c3 => rw [if_neg c3]
def saltOf (ws : List Str) : Str := if ws.length = 3 then (ws[2]?).getD Str.empty else Str.empty
def spF (x : Str) : Option (List Str × (Nat × Nat) × Str) :=
  if (wordsF x).length = 2 ∨ (wordsF x).length = 3 then
    match nsF ((wordsF x)[0]?.getD Str.empty), siF ((wordsF x)[1]?.getD Str.empty) with
    | some ns, some nd => if saltF (saltOf (wordsF x)) = true then some (ns, nd, saltOf (wordsF x)) else none
    | _, _ => none
  else none
def shD (nd : Nat × Nat) : PyData := .tuple [.int (nd.1 : Int), .int (nd.2 : Int)]
def spSp (K : PySem.W.Frag) (C : Addr) : Sp := fun vs H Q E => ∃ B x, vs = [V.str x] ∧ Ex B H ∧ Tok' x ∧ x.length ≤ 99 ∧ (spF x = none → Gone H C "given" (.str x) E) ∧ ∀ ns nd salt, spF x = some (ns, nd, salt) → ∀ v H2, Ex H H2 → Dp K (sub H2 H B) v (.tuple [tp ns, shD nd, .str salt]) → Q v H2
abbrev sSamplerParts : Stmt := (top 34)
abbrev NSamplerParts : List Str := ["text", "words", "names", "rate", "salt"]
theorem scSamplerParts : FnScope NSamplerParts ["text"] (defScope sSamplerParts) := ⟨rfl, rfl, rfl, by decide +kernel, rfl, by decide +kernel, by decide +kernel⟩
theorem ok_sampler_parts {f C fB fw fn fs ft : Addr} {fd fdB fdw fdn fds fdt : FuncData} (F : Fun K "sampler_parts" "sampler_parts" sSamplerParts f fd) (T : Tx K mg aI) (BI : EnI P w K mg base C fB "BadSampler" "given" 1 (spE1 K C "given") fdB) (Cwords_of : Cal P w K mg base 1 "words_of" ["text"] (spD K woP) fw fdw) (Cnames_in_text : Cal P w K mg base 3 "names_in_text" ["text"] (spD K niP) fn fdn) (Cshare_in : Cal P w K mg base 2 "share_in" ["text"] (spD K siP) fs fds) (Cis_salt : Cal P w K mg base 1 "is_salt" ["text"] (spD K saP) ft fdt) :
    FnOk P w K mg base (L2.CX P w) 4 f fd ["text"] (spSp K C) := by
  refine F.okX scSamplerParts (fun vs H Q E h => ?_) (fun cdv A outer s H vs Q E hr h => ?_)
  · obtain ⟨B, x, rfl, _⟩ := h
    rfl
  · obtain ⟨B, x, rfl, b, tx, lx, qn, qs⟩ := h
    refine ⟨_, (pss_cons (ps_set (i := 1) scSamplerParts.nd rfl (by first | exact .inl rfl | exact .inr rfl) (pe_call Cwords_of.G (hr.mono (by decide)) (by rfl) Cwords_of.m Cwords_of.kp Cwords_of.b .nil pass0 (pa_cons (pv 0) pa_nil))) (pss_cons (ps_if (pt_cmpR (xNin K (u65 hr)) (pe_callB (xLen K) (by rfl) T.len (by decide +kernel) (pa_cons (pv 1) pa_nil)) (pe_tup (pa_cons pe_int (pa_cons pe_int pa_nil))) (by rfl)) (pss_one (ps_raise rfl (takes_of rfl rfl rfl rfl) (pmk_one under_VE BI.n.own BI.n.init BI.n.ty BI.G (hr.mono (by decide)) BI.b .nil pass0 rfl BI.n.g (pa_cons (pv 0) pa_nil)))) pss_nil) (pss_cons (ps_set (i := 2) scSamplerParts.nd rfl (by first | exact .inl rfl | exact .inr rfl) (pe_call Cnames_in_text.G (hr.mono (by decide)) (by rfl) Cnames_in_text.m Cnames_in_text.kp Cnames_in_text.b .nil pass0 (pa_cons (pe_ix (xIx K) (pv 1) pe_int (fun _ _ => rfl)) pa_nil))) (pss_cons (ps_set (i := 3) scSamplerParts.nd rfl (by first | exact .inl rfl | exact .inr rfl) (pe_call Cshare_in.G (hr.mono (by decide)) (by rfl) Cshare_in.m Cshare_in.kp Cshare_in.b .nil pass0 (pa_cons (pe_ix (xIx K) (pv 1) pe_int (fun _ _ => rfl)) pa_nil))) (pss_cons (ps_set (i := 4) scSamplerParts.nd rfl (by first | exact .inl rfl | exact .inr rfl) (pe_ifExp (pt_cmpR (xEq K hr.units) (pe_callB (xLen K) (by rfl) T.len (by decide +kernel) (pa_cons (pv 1) pa_nil)) pe_int (nomark _)) (pe_ix (xIx K) (pv 1) pe_int (fun _ _ => rfl)) pe_str)) (pss_cons (ps_if (PW.pt (pw_or (pt_cmpR op_isN (pv 2) pe_non (nomark _)) (pw_or (pt_cmpR op_isN (pv 3) pe_non (nomark _)) (pw_or1 (pt_not (pt_val (pe_call Cis_salt.G (hr.mono (by decide)) (by rfl) Cis_salt.m Cis_salt.kp Cis_salt.b .nil pass0 (pa_cons (pv 4) pa_nil)))))))) (pss_one (ps_raise rfl (takes_of rfl rfl rfl rfl) (pmk_one under_VE BI.n.own BI.n.init BI.n.ty BI.G (hr.mono (by decide)) BI.b .nil pass0 rfl BI.n.g (pa_cons (pv 0) pa_nil)))) pss_nil) (pss_one (ps_ret (pe_tup (pa_cons (pv 2) (pa_cons (pv 3) (pa_cons (pv 4) pa_nil)))))))))))), ?_⟩
    have tok : ∀ y ∈ wordsF x, Tok' y ∧ y.length ≤ 99 := fun y m => ⟨words_tok tx m, Nat.le_trans (words_le m) lx⟩
    refine g_asg (K := K) (d := .list ((wordsF x).map .str)) (ed_call0 (ea_consD (ed_var rfl (.str x)) ea_nilD) (sp_d ⟨x, rfl, tx, rfl⟩)) b fun v1 H1 e1 h1 => ?_
    have a1 := (At.start b (Ex.refl H)).next e1
    unfold spF at qn qs
    generalize wordsF x = ws at tok h1 qn qs
    generalize sub H1 H B = B1 at a1 h1
    have sh23 : SeqAt.shaped (.tuple [.int 2, .int 3]) = true := by decide +kernel
    have lenE : ∀ {σ : L2.St} {B' : Hp}, σ[1]? = some (some v1) → Ex B1 B' → EvD K (tCB (ZE.rLen K) (tCons (tVar 1) tNil)) σ B' (.int (ws.length : Int)) := fun {σ B'} hi e => ed_is (ed_cb (ea_consD (ed_var hi (dp_up h1 e)) ea_nilD) (rc_len (.inl rfl))) (by rw [List.length_map])
    refine g_if1 (c := !(decide ((2 : Int) = (ws.length : Int)) || decide ((3 : Int) = (ws.length : Int)))) (et_of (ed_is (ed_op (lenE rfl (Ex.refl _)) (ed_tup (ea_consD (ed_int 2) (ea_consD (ed_int 3) ea_nilD)) (by show 2 ≤ 100000; decide)) (rv_notIn (.inr rfl) (int_shaped _) sh23)) ?any)) a1.b (fun hc H2 e2 => l_raise1 rfl (a1.ex.trans e2) (qn ?n1)) fun hc H2 e2 => ?_
    case any =>
      rw [List.any_cons, List.any_cons, List.any_nil, eqv_int, eqv_int, Bool.or_false]
    case n1 =>
      refine if_neg fun z => ?_
      rcases z with z | z <;> · rw [z] at hc; cases hc
    have l23 : ws.length = 2 ∨ ws.length = 3 := by
      have hc : (decide ((2 : Int) = (ws.length : Int)) || decide ((3 : Int) = (ws.length : Int))) = true := by
        cases h : (decide ((2 : Int) = (ws.length : Int)) || decide ((3 : Int) = (ws.length : Int))) with
        | true => rfl
        | false => rw [h] at hc; cases hc
      rcases Bool.or_eq_true_iff.mp hc with z | z
      · have := of_decide_eq_true z
        exact .inl (by omega)
      · have := of_decide_eq_true z
        exact .inr (by omega)
    rw [if_pos l23] at qn qs
    obtain ⟨w0, h0⟩ : ∃ y, ws[0]? = some y := ⟨ws[0], List.getElem?_eq_getElem (by omega)⟩
    obtain ⟨w1, hw1⟩ : ∃ y, ws[1]? = some y := ⟨ws[1], List.getElem?_eq_getElem (by omega)⟩
    have t0 := tok w0 (List.mem_of_getElem? h0)
    have t1 := tok w1 (List.mem_of_getElem? hw1)
    have ts : Tok' (saltOf ws) := by
      unfold saltOf
      split
      · next c =>
        rw [List.getElem?_eq_getElem (by omega : 2 < ws.length)]
        exact (tok _ (List.getElem_mem _)).1
      · exact ⟨by decide +kernel, by decide⟩
    rw [h0, hw1] at qn qs
    have a2 := a1.grow e2
    have ixE : ∀ {σ : L2.St} {B' : Hp} {j : Nat} {y : Str}, σ[1]? = some (some v1) → Ex B1 B' → ws[j]? = some y → EvD K (tOp (rIx K) (tVar 1) (tC (.int (j : Int)))) σ B' (.str y) := fun {σ B' j y} hi e hj => ed_op (ed_var hi (dp_up h1 e)) (ed_int _) (rv_ix (ds := ws.map .str) (.inl rfl) (atI_nat (j := j) (by rw [List.getElem?_map, hj]; rfl)))
    -- names
    refine g_asg (K := K) (d := nitF w0) (ed_call0 (ea_consD (ixE (j := 0) rfl (Ex.refl _) h0) ea_nilD) (sp_d ⟨w0, rfl, t0.1, rfl⟩)) a2.b fun v2 H3 e3 h2 => ?_
    have a3 := a2.next e3
    have u3 := le_sub a2.b e3
    generalize sub H3 H2 B1 = B3 at a3 h2 u3
    -- rate
    refine g_asg (K := K) (d := siD w1) (ed_call0 (ea_consD (ixE (j := 1) rfl u3 hw1) ea_nilD) (sp_d ⟨w1, rfl, t1.1, t1.2, rfl⟩)) a3.b fun v3 H4 e4 h3 => ?_
    have a4 := a3.next e4
    have u4 := le_sub a3.b e4
    have h2 := dp_up h2 u4
    have u14 := u3.trans u4
    generalize sub H4 H3 B3 = B4 at a4 h2 h3 u14
    -- salt
    refine g_asg (K := K) (d := .str (saltOf ws)) (ed_if (b := decide ((ws.length : Int) = 3)) (et_of (ed_is (ed_op (lenE rfl u14) (ed_int 3) (rv_eq (int_shaped _) (int_shaped _))) (by rw [eqv_int]))) (fun hc => ?s1) fun hc => ?s2) a4.b fun v4 H5 e5 h4 => ?_
    case s1 =>
      have l3 : ws.length = 3 := by have := of_decide_eq_true hc; omega
      have h2' : ws[2]? = some ws[2] := List.getElem?_eq_getElem (by omega)
      refine ed_is (ixE (j := 2) rfl u14 h2') ?_
      unfold saltOf
      rw [if_pos l3, h2']
      rfl
    case s2 =>
      have l3 : ¬ ws.length = 3 := fun z => by have := of_decide_eq_false hc; omega
      refine ed_is (ed_str Str.empty) ?_
      unfold saltOf
      rw [if_neg l3]
    obtain rfl := p_str h4
    have a5 := a4.next e5
    have u5 := le_sub a4.b e5
    have h2 := dp_up h2 u5
    have h3 := dp_up h3 u5
    generalize sub H5 H4 B4 = B5 at a5 h2 h3
    generalize saltOf ws = salt at ts qn qs ⊢
    -- the parts
    refine g_if1 (c := nb (nitF w0) || (nb (siD w1) || !saltF salt)) (et_or (et_of (ed_op (ed_var rfl h2) ed_non (rv_isN rfl fun H v h => nb_dp h))) fun _ => et_or (et_of (ed_op (ed_var rfl h3) ed_non (rv_isN rfl fun H v h => nb_dp h))) fun _ => et_not (et_ofB (ed_call0 (ea_consD (ed_var rfl (.str salt)) ea_nilD) (sp_d ⟨salt, rfl, ts, rfl⟩)))) a5.b (fun hc H6 e6 => l_raise1 rfl (a5.ex.trans e6) (qn ?n2)) fun hc H6 e6 => ?_
    case n2 =>
      show (match nsF w0, siF w1 with | some ns, some nd => if saltF salt = true then some (ns, nd, salt) else none | _, _ => none) = none
      cases hn : nsF w0 with
      | none => rfl
      | some ns =>
        cases hs : siF w1 with
        | none => rfl
        | some nd =>
          refine if_neg fun z => ?_
          rw [nit_some hn] at hc
          unfold siD at hc
          rw [hs, z] at hc
          cases hc
    · obtain ⟨c1, c2⟩ := Bool.or_eq_false_iff.mp hc
      obtain ⟨c2, c3⟩ := Bool.or_eq_false_iff.mp c2
      have c3 : saltF salt = true := by simpa using c3
      cases hn : nsF w0 with
      | none =>
        rw [nit_none hn] at c1
        cases c1
      | some ns =>
        cases hs : siF w1 with
        | none =>
          unfold siD at c2
          rw [hs] at c2
          cases c2
        | some nd =>
          have qq := qs ns nd salt (by
            show (match nsF w0, siF w1 with | some ns, some nd => if saltF salt = true then some (ns, nd, salt) else none | _, _ => none) = _
            rw [hn, hs]
            exact if_pos c3)
          rw [nit_some hn] at h2
          have h3 : Dp K B5 v3 (shD nd) := by
            unfold siD at h3
            rw [hs] at h3
            exact h3
          exact g_ret (K := K) (d := .tuple [tp ns, shD nd, .str salt]) (ed_tup (ea_consD (ed_var rfl h2) (ea_consD (ed_var rfl h3) (ea_consD (ed_var rfl (.str salt)) ea_nilD))) (by show 3 ≤ 100000; decide)) (a5.grow e6).b fun v H7 e7 hv => qq v H7 ((a5.grow e6).ex.trans e7) ((a5.grow e6).out e7 hv)
end
end S5

set_option Elab.async false
set_option linter.all false
set_option maxRecDepth 100000
namespace S5
open PySem PySem.Spec PyProof.Rows L2 Evl ZE ZS StX ZD RZ ZT ZX TL
section
variable {P : Program} {w : World} {K : PySem.W.Frag} {mg : Str → Option Value} {base : Heap} {aI : Addr}
/-! ### Sampler -/
theorem FunV.okX {x qual : Str} {st : Stmt} {f : Addr} {fd : FuncData} {N ps : List Str} {k : Nat} {sp : Sp} (F : FunV K x qual st f fd) (S : FnScope N ps (defScope st)) (len : ∀ vs H Q E, sp vs H Q E → vs.length = ps.length)
    (body : ∀ (cdv : Value) (A : Around) (outer : List Env) (s : Shared) (H : Hp) (vs : List V) (Q : VK) (E : XK), Room k (A.deeper (envOfC qual (defScope st) s.heap.objs.size f cdv)) → sp vs H Q E →
      ∃ t, PSs (cxOf (L2.CX P w) P w K mg base N qual (defScope st) f cdv A outer s H E) (defBody st) t ∧ t { nx := fun _ H' => Q .non H', rt := Q } (start N vs) H) : FnOk P w K mg base (L2.CX P w) (k + 1) f fd ps sp := by
  obtain ⟨oc, od, dV, kV, doc, pm, an, cdv, ct, osl, rfl, lk, hcd⟩ := F.ex
  exact fn_of lk hcd S len fun A outer s H vs Q E hr hsp => body cdv A outer s H vs Q E hr hsp
structure Sc (K : PySem.W.Frag) (C : Addr) : Prop where
  cl : Cls K C
  n1 : NoAttr K C "_schema"
  n2 : NoAttr K C "_keyset"
  n3 : NoAttr K C "_rate"
  n4 : NoAttr K C "_salt"
def rtD (n d : Int) : PyData := .tuple [.int n, .int d]
/-- an object of Sampler at p -/
structure Sm (K : PySem.W.Frag) (Cs C : Addr) (B : Hp) (p a : Addr) (xs : List Str) (ps : List (Str × Str)) (ks : List Str) (n d : Int) (salt : Str) : Prop where
  ex : ∃ dx fs vk vr, B p = some (.ins Cs dx fs) ∧ fs.lookup ("_schema" : Str) = some (V.ref a) ∧ fs.lookup ("_keyset" : Str) = some vk ∧ fs.lookup ("_rate" : Str) = some vr ∧ fs.lookup ("_salt" : Str) = some (V.str salt) ∧ (∀ m : Str, m ≠ "_schema" → m ≠ "_keyset" → m ≠ "_rate" → m ≠ "_salt" → fs.lookup m = none) ∧ Ky K C B a xs ps ∧ Dp K B vk (tp ks) ∧ Dp K B vr (rtD n d)
theorem Sm.up {Cs C : Addr} {B B2 : Hp} {p a : Addr} {xs ks : List Str} {ps : List (Str × Str)} {n d : Int} {salt : Str} (h : Sm K Cs C B p a xs ps ks n d salt) (e : Ex B B2) : Sm K Cs C B2 p a xs ps ks n d salt := by
  obtain ⟨dx, fs, vk, vr, h1, l1, l2, l3, l4, l5, ky, d1, d2⟩ := h.ex
  exact ⟨dx, fs, vk, vr, e p _ h1, l1, l2, l3, l4, l5, ky.up e, dp_up d1 e, dp_up d2 e⟩
structure SiOk (K : PySem.W.Frag) (Cs C Cn Ch Ct : Addr) (H0 B : Hp) (p a : Addr) (xs : List Str) (ps : List (Str × Str)) (ns : List Str) (n d : Int) (salt : Str) (Q : VK) (E : XK) : Prop where
  nm : ∀ y, outF (xs ++ (["#"] : List Str)) ns = some y → Gone H0 Cn "name" (.str y) E
  sh : outF (xs ++ (["#"] : List Str)) ns = none → shB n d = false → GoneD K H0 B Ch "given" (rtD n d) E
  st : outF (xs ++ (["#"] : List Str)) ns = none → shB n d = true → saltF salt = false → Gone H0 Ct "given" (.str salt) E
  ok : outF (xs ++ (["#"] : List Str)) ns = none → shB n d = true → saltF salt = true → ∀ H2, Ex H0 H2 → Sm K Cs C (sub H2 H0 B) p a xs ps (closeF xs ps ns) n d salt → Q .non H2
def spSin (K : PySem.W.Frag) (Cs C Cn Ch Ct : Addr) : Sp := fun vs H Q E => ∃ (H0 B : Hp) (p dx a : Addr) (v2 v3 : V) (salt : Str) (xs : List Str) (ps : List (Str × Str)) (A : PyData) (ns : List Str) (R : PyData) (n d : Int), vs = [.ref p, .ref a, v2, v3, .str salt] ∧ H p = some (.ins Cs dx []) ∧ H0 p = none ∧ Ex H0 H ∧ Ex B H0 ∧
  Ky K C B a xs ps ∧ KyOk xs ps ∧ Dp K B v2 A ∧ Bag6 A ns ∧ Dp K B v3 R ∧ Sq R [.int n, .int d] ∧ Tok' salt ∧ SiOk K Cs C Cn Ch Ct H0 B p a xs ps ns n d salt Q E
theorem fz_rt (n d : Int) : fzOk 2 (rtD n d) = true ∧ fz 2 (rtD n d) = rtD n d := ⟨rfl, rfl⟩
abbrev sSamplerInit : Stmt := (inClass (top 33) 0)
abbrev NSamplerInit : List Str := ["self", "keys", "names", "rate", "salt"]
theorem scSamplerInit : FnScope NSamplerInit ["self", "keys", "names", "rate", "salt"] (defScope sSamplerInit) := ⟨rfl, rfl, rfl, by decide +kernel, rfl, by decide +kernel, by decide +kernel⟩
theorem ok_sinit {f Cs C Cn Ch Ct fh ft fk fs fa : Addr} {fd fdh fdt fdk fds fda : FuncData} (F : FunV K "__init__" "Sampler.__init__" sSamplerInit f fd) (T : Tx K mg aI) (Tc : Kc K C) (Sc_ : Sc K Cs) (HI : EnI P w K mg base Ch fh "BadShare" "given" 4 (spSh K Ch) fdh) (TI : EnI P w K mg base Ct ft "BadSalt" "given" 1 (spE1 K Ct "given") fdt)
    (Mclosed : MeK P w K mg base (L2.CX P w) C 4 "closed" ["self", "names"] (spClo K C Cn) fk fdk) (Cis_share : Cal P w K mg base 1 "is_share" ["pair"] (spD K isP) fs fds) (Cis_salt : Cal P w K mg base 1 "is_salt" ["text"] (spD K saP) fa fda) : FnOk P w K mg base (L2.CX P w) 6 f fd ["self", "keys", "names", "rate", "salt"] (spSin K Cs C Cn Ch Ct) := by
  refine F.okX scSamplerInit (fun vs H Q E h => ?_) (fun cdv A outer s H vs Q E hr h => ?_)
  · obtain ⟨_, _, _, _, _, _, _, _, _, _, _, _, _, _, _, rfl, _⟩ := h
    rfl
  · obtain ⟨H0, B, p, dx, a, v2, v3, salt, xs, ps, A1, ns, R, n, d, rfl, hp, hp0, e0, b0, ky, kok, h2, bag, h3, sqr, ts, ok⟩ := h
    refine ⟨_, (pss_cons (ps_fld (pv 0) (pv 1) rfl) (pss_cons (ps_fld (pv 0) (pe_meth (pv 1) Tc.cl Mclosed.m Mclosed.G (hr.mono (by decide)) Mclosed.b .nil (passes_call (E := E) (takes_of rfl rfl rfl rfl) (fun _ _ _ _ h => h)) (pa_cons (pv 2) pa_nil)) rfl) (pss_cons (ps_fld (pv 0) (pe_callTy (xTuple K) (by rfl) T.tuple (by decide +kernel) (pa_cons (pv 3) pa_nil)) rfl) (pss_cons (ps_fld (pv 0) (pv 4) rfl) (pss_cons (ps_if (pt_not (pt_val (pe_call Cis_share.G (hr.mono (by decide)) (by rfl) Cis_share.m Cis_share.kp Cis_share.b .nil pass0 (pa_cons (xFld K (pv 0) rfl) pa_nil)))) (pss_one (ps_raise rfl (takes_of rfl rfl rfl rfl) (pmk_one under_VE HI.n.own HI.n.init HI.n.ty HI.G hr HI.b .nil pass0 rfl HI.n.g (pa_cons (xFld K (pv 0) rfl) pa_nil)))) pss_nil) (pss_one (ps_if (pt_not (pt_val (pe_call Cis_salt.G (hr.mono (by decide)) (by rfl) Cis_salt.m Cis_salt.kp Cis_salt.b .nil pass0 (pa_cons (pv 4) pa_nil)))) (pss_one (ps_raise rfl (takes_of rfl rfl rfl rfl) (pmk_one under_VE TI.n.own TI.n.init TI.n.ty TI.G (hr.mono (by decide)) TI.b .nil pass0 rfl TI.n.g (pa_cons (pv 4) pa_nil)))) pss_nil))))))), ?_⟩
    have ba : Ex B H := b0.trans e0
    have a0 : At H0 B H0 B H := (At.start b0 (Ex.refl H0)).grow e0
    have bp : B p = none := fresh_back b0 hp0
    -- self._schema
    refine ⟨.ref a, rfl, .ref p, rfl, p, Cs, dx, [], rfl, hp, Sc_.cl, Sc_.n1, by show 0 < 1000; decide, ?_⟩
    have a1 := a0.mut (o := .ins Cs dx (putF "_schema" (V.ref a) [])) bp hp0 (by rw [hp]; rfl)
    have p1 : (upd H p (.ins Cs dx (putF "_schema" (V.ref a) []))) p = some (.ins Cs dx (putF "_schema" (V.ref a) [])) := upd_same
    generalize hf1 : putF "_schema" (V.ref a) [] = fs1 at a1 p1 ⊢
    generalize upd H p (.ins Cs dx fs1) = G1 at a1 p1 ⊢
    have l11 : fs1.lookup ("_schema" : Str) = some (V.ref a) := by rw [← hf1, lookup_putF, if_pos rfl]
    have o11 : ∀ m : Str, m ≠ "_schema" → fs1.lookup m = none := fun m h => by rw [← hf1, lookup_putF, if_neg h]; rfl
    have n11 : fs1.length ≤ 1 := by rw [← hf1]; exact putF_le _ _ _
    -- self._keyset
    obtain ⟨dxk, fsk, vn, vp, dt, kvs, vk0, hk1, _, _, _, _, l5, _⟩ := ky.ex
    refine ⟨.ref a, rfl, a, dxk, fsk, rfl, a1.b a _ hk1, l5 "closed" (by decide +kernel) (by decide +kernel) (by decide +kernel) (by decide +kernel), v2, rfl, B, a, v2, xs, ps, A1, ns, rfl, a1.b, ky, h2, kok, bag, fun hn vk G2 e2 dk => ?_, fun y hy => ?_⟩
    case refine_2 =>
      have g := ok.nm y hy
      exact fun d' H3 e3 hd hx => g d' H3 (a1.ex.trans e3) (a1.fresh hd) hx
    refine ⟨.ref p, rfl, p, Cs, dx, fs1, rfl, e2 p _ p1, Sc_.cl, Sc_.n2, by omega, ?_⟩
    have q1 := ok.sh hn
    have q2 := ok.st hn
    have q3 := ok.ok hn
    have dk' := dk
    have n2 : sub G2 G1 B p = none := sub_none e2 (by rw [p1]; rfl) bp
    have a2 := (a1.next e2).mut (o := .ins Cs dx (putF "_keyset" vk fs1)) n2 hp0 (isSome_up e2 (by rw [p1]; rfl))
    have u2 := le_sub a1.b e2
    generalize sub G2 G1 B = B2 at n2 a2 u2 dk'
    have p2 : (upd G2 p (.ins Cs dx (putF "_keyset" vk fs1))) p = some (.ins Cs dx (putF "_keyset" vk fs1)) := upd_same
    generalize hf2 : putF "_keyset" vk fs1 = fs2 at a2 p2 ⊢
    generalize upd G2 p (.ins Cs dx fs2) = G2 at a2 p2 ⊢
    have l21 : fs2.lookup ("_schema" : Str) = some (V.ref a) := by rw [← hf2, lookup_putF, if_neg (by decide +kernel)]; exact l11
    have l22 : fs2.lookup ("_keyset" : Str) = some vk := by rw [← hf2, lookup_putF, if_pos rfl]
    have o21 : ∀ m : Str, m ≠ "_schema" → m ≠ "_keyset" → fs2.lookup m = none := fun m h h' => by rw [← hf2, lookup_putF, if_neg h']; exact o11 m h
    have n21 : fs2.length ≤ 2 := by rw [← hf2]; exact Nat.le_trans (putF_le _ _ _) (Nat.succ_le_succ n11)
    -- self._rate
    refine g_fld (d := rtD n d) (ed_cb (ea_consD (ed_var rfl (dp_up h3 u2)) ea_nilD) (rc_tuple sqr)) a2.b rfl p2 Sc_.cl Sc_.n3 (by omega) fun vr G3 e3 dr => ?_
    have n3 : sub G3 G2 B2 p = none := sub_none e3 (by rw [p2]; rfl) n2
    have a3 := (a2.next e3).mut (o := .ins Cs dx (putF "_rate" vr fs2)) n3 hp0 (isSome_up e3 (by rw [p2]; rfl))
    have u3 := le_sub a2.b e3
    generalize sub G3 G2 B2 = B3 at n3 a3 u3 dr
    have p3 : (upd G3 p (.ins Cs dx (putF "_rate" vr fs2))) p = some (.ins Cs dx (putF "_rate" vr fs2)) := upd_same
    generalize hf3 : putF "_rate" vr fs2 = fs3 at a3 p3 ⊢
    generalize upd G3 p (.ins Cs dx fs3) = G3 at a3 p3 ⊢
    have l31 : fs3.lookup ("_schema" : Str) = some (V.ref a) := by rw [← hf3, lookup_putF, if_neg (by decide +kernel)]; exact l21
    have l32 : fs3.lookup ("_keyset" : Str) = some vk := by rw [← hf3, lookup_putF, if_neg (by decide +kernel)]; exact l22
    have l33 : fs3.lookup ("_rate" : Str) = some vr := by rw [← hf3, lookup_putF, if_pos rfl]
    have o31 : ∀ m : Str, m ≠ "_schema" → m ≠ "_keyset" → m ≠ "_rate" → fs3.lookup m = none := fun m h h' h'' => by rw [← hf3, lookup_putF, if_neg h'']; exact o21 m h h'
    have n31 : fs3.length ≤ 3 := by rw [← hf3]; exact Nat.le_trans (putF_le _ _ _) (Nat.succ_le_succ n21)
    -- self._salt
    refine ⟨.str salt, rfl, .ref p, rfl, p, Cs, dx, fs3, rfl, p3, Sc_.cl, Sc_.n4, by omega, ?_⟩
    have a4 := a3.mut (o := .ins Cs dx (putF "_salt" (V.str salt) fs3)) n3 hp0 (by rw [p3]; rfl)
    have p4 : (upd G3 p (.ins Cs dx (putF "_salt" (V.str salt) fs3))) p = some (.ins Cs dx (putF "_salt" (V.str salt) fs3)) := upd_same
    generalize hf4 : putF "_salt" (V.str salt) fs3 = fs4 at a4 p4 ⊢
    generalize upd G3 p (.ins Cs dx fs4) = G4 at a4 p4 ⊢
    have l41 : fs4.lookup ("_schema" : Str) = some (V.ref a) := by rw [← hf4, lookup_putF, if_neg (by decide +kernel)]; exact l31
    have l42 : fs4.lookup ("_keyset" : Str) = some vk := by rw [← hf4, lookup_putF, if_neg (by decide +kernel)]; exact l32
    have l43 : fs4.lookup ("_rate" : Str) = some vr := by rw [← hf4, lookup_putF, if_neg (by decide +kernel)]; exact l33
    have l44 : fs4.lookup ("_salt" : Str) = some (V.str salt) := by rw [← hf4, lookup_putF, if_pos rfl]
    have o41 : ∀ m : Str, m ≠ "_schema" → m ≠ "_keyset" → m ≠ "_rate" → m ≠ "_salt" → fs4.lookup m = none := fun m h h' h'' h3 => by rw [← hf4, lookup_putF, if_neg h3]; exact o31 m h h' h''
    have c4 := a4.hold n3 hp0 p4
    have u4 := c4.2
    have frE : EvD K (tFld K (tVar 0) "_rate") [some (V.ref p), some (V.ref a), some v2, some v3, some (V.str salt)] (upd B3 p (.ins Cs dx fs4)) (rtD n d) := ed_fld rfl upd_same Sc_.cl Sc_.n3 l43 (dp_up dr u4)
    -- the share
    have eS : L2.start NSamplerInit [V.ref p, V.ref a, v2, v3, V.str salt] = [some (V.ref p), some (V.ref a), some v2, some v3, some (V.str salt)] := rfl
    rw [eS]
    dsimp only
    refine g_if1 (c := !shB n d) (et_not (et_ofB (ed_call0 (ea_consD frE ea_nilD) (sp_d (P := isP) (d := .bool (shB n d)) ⟨n, d, rfl, rfl⟩)))) c4.1.b (fun hc G5 e5 => ?_) fun hc G5 e5 => ?_
    · have hs : shB n d = false := by cases h : shB n d with
        | false => rfl
        | true => rw [h] at hc; cases hc
      have a5 := c4.1.grow e5
      refine frE G5 a5.b _ fun v G6 e6 hv => ?_
      refine ⟨by show 1 ≤ 1000; decide, fun x ha => ?_⟩
      have a6 := a5.next e6
      refine ⟨_, x, v, rtD n d, rfl, a6.b.trans (Ex.new ha), hv, rfl, upd_same, fun y G7 dxx e7 hy hdx ndx => ⟨rfl, dxx, [("given", y)], upd_same, ?_, ?_, ?_⟩⟩
      · rw [upd_ne ndx, upd_same]
      · exact fresh_back ((Ex.new ha).trans e7) hdx
      · have z := exc_dp (K := K) (X := exd dxx [("given", y)]) (Y := exo x Ch (some dxx)) (Z := .xd [("given", y)]) a6 ha e7 hdx ndx hy
        exact q1 hs dxx y _ (exc_ex a6.ex ha e7 hdx ndx) (fresh_back (a6.ex.trans ((Ex.new ha).trans e7)) hdx) upd_same z
    · have hs : shB n d = true := by cases h : shB n d with
        | true => rfl
        | false => rw [h] at hc; cases hc
      have a5 := c4.1.grow e5
      refine g_if (c := !saltF salt) (et_not (et_ofB (ed_call0 (K := K) (ea_consD (ed_var rfl (.str salt)) ea_nilD) (sp_d ⟨salt, rfl, ts, rfl⟩)))) a5.b (fun hc2 G6 e6 => ?_) fun hc2 G6 e6 => ?_
      · have hz : saltF salt = false := by cases h : saltF salt with
          | false => rfl
          | true => rw [h] at hc2; cases hc2
        exact l_raise1 rfl (a5.ex.trans e6) (q2 hs hz)
      · have hz : saltF salt = true := by cases h : saltF salt with
          | true => rfl
          | false => rw [h] at hc2; cases hc2
        refine q3 hs hz G6 (a5.ex.trans e6) ?_
        have a6 := a5.grow e6
        have w := a6.base
        exact Sm.up ⟨dx, fs4, vk, vr, upd_same, l41, l42, l43, l44, o41, ky.up ((u2.trans u3).trans u4), dp_up dk' (u3.trans u4), dp_up dr u4⟩ w
end
end S5

set_option Elab.async false
set_option linter.all false
set_option maxRecDepth 100000
namespace S5
open PySem PySem.Spec PyProof.Rows L2 Evl ZE ZS StX ZD RZ ZT ZX TL
section
variable {P : Program} {w : World} {K : PySem.W.Frag} {mg : Str → Option Value} {base : Heap} {aI : Addr}
/-! ### what a Sampler tells -/
/-- a def whose first argument is a Sampler; its answer is data -/
def spSm (K : PySem.W.Frag) (Cs C : Addr) (Pm : List Str → Int → Int → Str → List PyData → PyData → Prop) : Sp := fun vs H Q _ => ∃ B p a ws xs ps ks n d salt ds r, vs = V.ref p :: ws ∧ Ex B H ∧ Sm K Cs C B p a xs ps ks n d salt ∧ DpAll K B ws ds ∧ Pm ks n d salt ds r ∧ ∀ v H2, Ex H H2 → Dp K (sub H2 H B) v r → Q v H2
/-- its Keys, the object -/
def spSch (K : PySem.W.Frag) (Cs C : Addr) : Sp := fun vs H Q _ => ∃ B p a xs ps ks n d salt, vs = [V.ref p] ∧ Ex B H ∧ Sm K Cs C B p a xs ps ks n d salt ∧ ∀ H2, Ex H H2 → Q (.ref a) H2
section
variable {σ : L2.St} {B : Hp} {i : Nat} {p a Cs C : Addr} {xs ks : List Str} {ps : List (Str × Str)} {n d : Int} {salt : Str}
theorem ed_skeys (S : Sc K Cs) (hi : σ[i]? = some (some (V.ref p))) (h : Sm K Cs C B p a xs ps ks n d salt) : EvD K (tFld K (tVar i) "_keyset") σ B (tp ks) := by
  obtain ⟨dx, fs, vk, vr, h1, l1, l2, l3, l4, l5, ky, d1, d2⟩ := h.ex
  exact ed_fld hi h1 S.cl S.n2 l2 d1
theorem ed_srate (S : Sc K Cs) (hi : σ[i]? = some (some (V.ref p))) (h : Sm K Cs C B p a xs ps ks n d salt) : EvD K (tFld K (tVar i) "_rate") σ B (rtD n d) := by
  obtain ⟨dx, fs, vk, vr, h1, l1, l2, l3, l4, l5, ky, d1, d2⟩ := h.ex
  exact ed_fld hi h1 S.cl S.n3 l3 d2
theorem ed_ssalt (S : Sc K Cs) (hi : σ[i]? = some (some (V.ref p))) (h : Sm K Cs C B p a xs ps ks n d salt) : EvD K (tFld K (tVar i) "_salt") σ B (.str salt) := by
  obtain ⟨dx, fs, vk, vr, h1, l1, l2, l3, l4, l5, ky, d1, d2⟩ := h.ex
  exact ed_fld hi h1 S.cl S.n4 l4 (.str salt)
end
abbrev sSamplerSchema : Stmt := (inClass (top 33) 1)
abbrev NSamplerSchema : List Str := ["self"]
theorem scSamplerSchema : FnScope NSamplerSchema ["self"] (defScope sSamplerSchema) := ⟨rfl, rfl, rfl, by decide +kernel, rfl, by decide +kernel, by decide +kernel⟩
theorem ok_schema {f Cs C : Addr} {fd : FuncData} (F : Fun K "schema" "Sampler.schema" sSamplerSchema f fd) (S : Sc K Cs) : FnOk P w K mg base CX0 1 f fd ["self"] (spSch K Cs C) := by
  refine F.ok scSamplerSchema (fun vs H Q E h => ?_) (fun cdv A outer s H vs Q E hr h => ?_)
  · obtain ⟨B, p, a, xs, ps, ks, n, d, salt, rfl, _⟩ := h
    rfl
  · obtain ⟨B, p, a, xs, ps, ks, n, d, salt, rfl, b, sm, q⟩ := h
    refine ⟨_, (pss_one (ps_ret (xFld K (pv 0) rfl))), ?_⟩
    obtain ⟨dx, fs, vk, vr, h1, l1, l2, l3, l4, l5, ky, d1, d2⟩ := sm.ex
    exact ⟨.ref p, rfl, p, Cs, dx, fs, .ref a, rfl, b p _ h1, S.cl, S.n1, l1, q H (Ex.refl H)⟩
def skP (ks : List Str) (n d : Int) (salt : Str) (ds : List PyData) (r : PyData) : Prop := ds = [] ∧ r = tp ks
abbrev sSamplerKeyset : Stmt := (inClass (top 33) 2)
abbrev NSamplerKeyset : List Str := ["self"]
theorem scSamplerKeyset : FnScope NSamplerKeyset ["self"] (defScope sSamplerKeyset) := ⟨rfl, rfl, rfl, by decide +kernel, rfl, by decide +kernel, by decide +kernel⟩
theorem ok_skeyset {f Cs C : Addr} {fd : FuncData} (F : Fun K "keyset" "Sampler.keyset" sSamplerKeyset f fd) (S : Sc K Cs) : FnOk P w K mg base CX0 1 f fd ["self"] (spSm K Cs C skP) := by
  refine F.ok scSamplerKeyset (fun vs H Q E h => ?_) (fun cdv A outer s H vs Q E hr h => ?_)
  · obtain ⟨B, p, a, ws, xs, ps, ks, n, d, salt, ds, r, rfl, _, _, hw, ⟨rfl, _⟩, _⟩ := h
    exact congrArg (· + 1) (DpAll.len hw)
  · obtain ⟨B, p, a, ws, xs, ps, ks, n, d, salt, ds, r, rfl, b, sm, hw, ⟨rfl, rfl⟩, q⟩ := h
    cases hw
    refine ⟨_, (pss_one (ps_ret (xFld K (pv 0) rfl))), ?_⟩
    exact g_ret (ed_skeys S rfl sm) b q
def srP (ks : List Str) (n d : Int) (salt : Str) (ds : List PyData) (r : PyData) : Prop := ds = [] ∧ r = rtD n d
abbrev sSamplerRate : Stmt := (inClass (top 33) 3)
abbrev NSamplerRate : List Str := ["self"]
theorem scSamplerRate : FnScope NSamplerRate ["self"] (defScope sSamplerRate) := ⟨rfl, rfl, rfl, by decide +kernel, rfl, by decide +kernel, by decide +kernel⟩
theorem ok_srate {f Cs C : Addr} {fd : FuncData} (F : Fun K "rate" "Sampler.rate" sSamplerRate f fd) (S : Sc K Cs) : FnOk P w K mg base CX0 1 f fd ["self"] (spSm K Cs C srP) := by
  refine F.ok scSamplerRate (fun vs H Q E h => ?_) (fun cdv A outer s H vs Q E hr h => ?_)
  · obtain ⟨B, p, a, ws, xs, ps, ks, n, d, salt, ds, r, rfl, _, _, hw, ⟨rfl, _⟩, _⟩ := h
    exact congrArg (· + 1) (DpAll.len hw)
  · obtain ⟨B, p, a, ws, xs, ps, ks, n, d, salt, ds, r, rfl, b, sm, hw, ⟨rfl, rfl⟩, q⟩ := h
    cases hw
    refine ⟨_, (pss_one (ps_ret (xFld K (pv 0) rfl))), ?_⟩
    exact g_ret (ed_srate S rfl sm) b q
def stP' (ks : List Str) (n d : Int) (salt : Str) (ds : List PyData) (r : PyData) : Prop := ds = [] ∧ r = .str salt
abbrev sSamplerSalt : Stmt := (inClass (top 33) 4)
abbrev NSamplerSalt : List Str := ["self"]
theorem scSamplerSalt : FnScope NSamplerSalt ["self"] (defScope sSamplerSalt) := ⟨rfl, rfl, rfl, by decide +kernel, rfl, by decide +kernel, by decide +kernel⟩
theorem ok_ssalt {f Cs C : Addr} {fd : FuncData} (F : Fun K "salt" "Sampler.salt" sSamplerSalt f fd) (S : Sc K Cs) : FnOk P w K mg base CX0 1 f fd ["self"] (spSm K Cs C stP') := by
  refine F.ok scSamplerSalt (fun vs H Q E h => ?_) (fun cdv A outer s H vs Q E hr h => ?_)
  · obtain ⟨B, p, a, ws, xs, ps, ks, n, d, salt, ds, r, rfl, _, _, hw, ⟨rfl, _⟩, _⟩ := h
    exact congrArg (· + 1) (DpAll.len hw)
  · obtain ⟨B, p, a, ws, xs, ps, ks, n, d, salt, ds, r, rfl, b, sm, hw, ⟨rfl, rfl⟩, q⟩ := h
    cases hw
    refine ⟨_, (pss_one (ps_ret (xFld K (pv 0) rfl))), ?_⟩
    exact g_ret (ed_ssalt S rfl sm) b q
/-! ### its text -/
def plainT (ks : List Str) (n d : Nat) : Str := ktF ks ++ (" " : Str) ++ shT n d
def smT (ks : List Str) (n d : Nat) (salt : Str) : Str := if salt = Str.empty then plainT ks n d else plainT ks n d ++ (" " : Str) ++ salt
def smtP (ks : List Str) (n d : Int) (salt : Str) (ds : List PyData) (r : PyData) : Prop := ∃ n' d' : Nat, n = n' ∧ d = d' ∧ n' < 10 ^ 100 ∧ d' < 10 ^ 100 ∧ ds = [] ∧ (ks.map (·.length)).sum ≤ 1000 ∧ ks.length ≤ 60 ∧ (Txt.join "+" ks).length ≤ 1000 ∧ Tok' salt ∧ r = .str (smT ks n' d' salt)
theorem app_len' (x y : Str) : (x ++ y).length = x.length + y.length := by rw [len_tl, tl_append, List.length_append, ← len_tl, ← len_tl]
theorem shT_len {n d : Nat} (h1 : n < 10 ^ 100) (h2 : d < 10 ^ 100) : (shT n d).length ≤ 201 := by
  have l1 := num_len h1
  have l2 := num_len h2
  have l3 : ("/" : Str).length = 1 := rfl
  unfold shT
  split
  · rw [app_len', app_len', l3]
    omega
  · omega
theorem kt_len {ks : List Str} (h : (Txt.join "+" ks).length ≤ 1000) : (ktF ks).length ≤ 1000 := by
  unfold ktF
  split
  · decide
  · exact h
abbrev sSamplerText : Stmt := (inClass (top 33) 5)
abbrev NSamplerText : List Str := ["self", "plain"]
theorem scSamplerText : FnScope NSamplerText ["self"] (defScope sSamplerText) := ⟨rfl, rfl, rfl, by decide +kernel, rfl, by decide +kernel, by decide +kernel⟩
theorem ok_stext {f Cs C fk fs : Addr} {fd fdk fds : FuncData} (F : Fun K "text" "Sampler.text" sSamplerText f fd) (S : Sc K Cs) (Ckeyset_text : Cal P w K mg base 1 "keyset_text" ["keyset"] (spD K ktP) fk fdk) (Cshare_text : Cal P w K mg base 1 "share_text" ["share"] (spD K stP) fs fds) : FnOk P w K mg base CX0 2 f fd ["self"] (spSm K Cs C smtP) := by
  refine F.ok scSamplerText (fun vs H Q E h => ?_) (fun cdv A outer s H vs Q E hr h => ?_)
  · obtain ⟨B, p, a, ws, xs, ps, ks, n, d, salt, ds, r, rfl, _, _, hw, ⟨n', d', _, _, _, _, rfl, _⟩, _⟩ := h
    exact congrArg (· + 1) (DpAll.len hw)
  · obtain ⟨B, p, a, ws, xs, ps, ks, n, d, salt, ds, r, rfl, b, sm, hw, ⟨n', d', rfl, rfl, ln, ld, rfl, s1, s2, s3, ts, rfl⟩, q⟩ := h
    cases hw
    refine ⟨_, (pss_cons (ps_set (i := 1) scSamplerText.nd rfl (by first | exact .inl rfl | exact .inr rfl) (pe_joined (.cons (pe_fmt (pe_call Ckeyset_text.G (hr.mono (by decide)) (by rfl) Ckeyset_text.m Ckeyset_text.kp Ckeyset_text.b .nil pass0 (pa_cons (xFld K (pv 0) rfl) pa_nil))) (.cons pe_str (.cons (pe_fmt (pe_call Cshare_text.G (hr.mono (by decide)) (by rfl) Cshare_text.m Cshare_text.kp Cshare_text.b .nil pass0 (pa_cons (xFld K (pv 0) rfl) pa_nil))) .nil))))) (pss_one (ps_ret (pe_ifExp (pt_cmpR (xNe K hr.units) (xFld K (pv 0) rfl) pe_str (nomark _)) (pe_joined (.cons (pe_fmt (pv 1)) (.cons pe_str (.cons (pe_fmt (xFld K (pv 0) rfl)) .nil)))) (pv 1))))), ?_⟩
    have l1 : (" " : Str).length = 1 := rfl
    have l2 := kt_len s3
    have l3 := shT_len ln ld
    have lp : (plainT ks n' d').length ≤ 1202 := by
      unfold plainT
      rw [app_len', app_len', l1]
      omega
    have o0 : PyData.strOk Str.empty = true := by decide +kernel
    refine g_asg (K := K) (d := .str (plainT ks n' d')) (ed_joined3 (ed_fmt (ed_call0 (ea_consD (ed_skeys S rfl sm) ea_nilD) (sp_d (P := ktP) (d := .str (ktF ks)) ⟨_, ks, rfl, .inr rfl, s1, s2, s3, rfl⟩)) (by omega)) (ed_str " ") (ed_fmt (ed_call0 (ea_consD (ed_srate S rfl sm) ea_nilD) (sp_d (P := stP) (d := .str (shT n' d')) ⟨n', d', rfl, ln, ld, rfl⟩)) (by omega)) (by rw [l1]; omega)) b fun v H2 e2 hv => ?_
    obtain rfl := p_str hv
    have a2 := (At.start b (Ex.refl H)).next e2
    have sm2 := sm.up (le_sub b e2)
    have lt := ts.2
    refine g_ret (K := K) (d := .str (smT ks n' d' salt)) (ed_if (b := !decide (salt = Str.empty)) (et_of (ed_is (ed_op (ed_ssalt S rfl sm2) (ed_str _) (rv_ne (str_shaped ts.1) (str_shaped o0))) (congrArg (fun z => PyData.bool (!z)) (eq_str ts.1 o0)))) (fun hc => ed_is (ed_joined3 (ed_fmt (ed_var rfl (.str _)) (by omega)) (ed_str " ") (ed_fmt (ed_ssalt S rfl sm2) (by omega)) (by rw [l1]; omega)) ?_) fun hc => ed_is (ed_var rfl (.str _)) ?_) a2.b fun v H3 e3 hv => q v H3 (a2.ex.trans e3) (a2.out e3 hv)
    · unfold smT
      rw [if_neg fun z => by rw [decide_eq_true z] at hc; cases hc]
    · unfold smT
      rw [if_pos (Classical.byContradiction fun z => by rw [decide_eq_false z] at hc; cases hc)]
end
end S5

set_option Elab.async false
set_option linter.all false
set_option maxRecDepth 100000
namespace S5
open PySem PySem.Spec PyProof.Rows L2 Evl ZE ZS StX ZD RZ ZT ZX TL
section
variable {P : Program} {w : World} {K : PySem.W.Frag} {mg : Str → Option Value} {base : Heap} {aI : Addr}
/-! ### Sampler(keys, names, rate, salt = ..) -/
structure MkS (P : Program) (w : World) (K : PySem.W.Frag) (mg : Str → Option Value) (base : Heap) (Cs C Cn Ch Ct : Addr) (f : Addr) (fd : FuncData) : Prop where
  M : Mk K Cs f
  G : FnOk P w K mg base (L2.CX P w) 6 f fd ["self", "keys", "names", "rate", "salt"] (spSin K Cs C Cn Ch Ct)
  m : mg "Sampler" = some (.ref Cs)
  b4 : KBn K fd ["self", "keys", "names", "rate", "salt"] 4 ["salt"] (fun us ws => us ++ ws) (fun vs zs => vs ++ zs)
/-- what is wished of a Sampler that is made: it, or one of three errors -/
structure SmW (K : PySem.W.Frag) (Cs C Cn Ch Ct : Addr) (H B : Hp) (a : Addr) (xs : List Str) (ps : List (Str × Str)) (ns : List Str) (n d : Int) (salt : Str) (Q : VK) (E : XK) : Prop where
  nm : ∀ y, outF (xs ++ (["#"] : List Str)) ns = some y → Gone H Cn "name" (.str y) E
  sh : outF (xs ++ (["#"] : List Str)) ns = none → shB n d = false → GoneD K H B Ch "given" (rtD n d) E
  st : outF (xs ++ (["#"] : List Str)) ns = none → shB n d = true → saltF salt = false → Gone H Ct "given" (.str salt) E
  ok : outF (xs ++ (["#"] : List Str)) ns = none → shB n d = true → saltF salt = true → ∀ p H2, Ex H H2 → Sm K Cs C (sub H2 H B) p a xs ps (closeF xs ps ns) n d salt → Q (.ref p) H2
theorem At.outE {Hk B0 H0 B H H2 : Hp} (a : At Hk B0 H0 B H) (e : Ex H H2) : Ex (sub H2 H B) (sub H2 H0 B0) := fun x o z => by
  by_cases c : (H0 x).isSome = true ∧ B0 x = none
  · rw [sub_no ⟨a.dm x c.1, a.wk.ap x c.2 c.1⟩] at z
    cases z
  · rw [sub_yes c]
    exact sub_le x o z
theorem mkS {H B H1 B1 : Hp} {Cs C Cn Ch Ct a : Addr} {v2 v3 : V} {xs ns : List Str} {ps : List (Str × Str)} {A R : PyData} {n d : Int} {salt : Str} {Q : VK} {E : XK} (a1 : At H B H B1 H1) (ky : Ky K C B1 a xs ps) (kok : KyOk xs ps) (h2 : Dp K B1 v2 A) (bag : Bag6 A ns) (h3 : Dp K B1 v3 R) (sq : Sq R [.int n, .int d]) (ts : Tok' salt) (W : SmW K Cs C Cn Ch Ct H B a xs ps ns n d salt Q E) :
    ∀ x dx, H1 x = none → H1 dx = none → dx ≠ x → spSin K Cs C Cn Ch Ct [.ref x, .ref a, v2, v3, .str salt] (upd (upd H1 dx (.own x)) x (.ins Cs dx [])) (fun v H3 => v = .non ∧ Q (.ref x) H3) E := fun x dx hx hdx ne => by
  refine ⟨H1, B1, x, dx, a, v2, v3, salt, xs, ps, A, ns, R, n, d, rfl, upd_same, hx, ?_, a1.b, ky, kok, h2, bag, h3, sq, ts, ⟨fun y hy e H3 e3 hd hx' => W.nm y hy e H3 (a1.ex.trans e3) (a1.fresh hd) hx', fun hn hs e v H3 e3 hd hx' hv => W.sh hn hs e v H3 (a1.ex.trans e3) (a1.fresh hd) hx' (a1.out e3 hv), fun hn hs ht e H3 e3 hd hx' => W.st hn hs ht e H3 (a1.ex.trans e3) (a1.fresh hd) hx', fun hn hs ht H3 e3 sm => ⟨rfl, W.ok hn hs ht x H3 (a1.ex.trans e3) (sm.up (At.outE a1 e3))⟩⟩⟩
  intro c o ha
  rw [upd_ne (ne_of_none ha hx), upd_ne (ne_of_none ha hdx)]
  exact ha
theorem mkSa {H B H1 B1 : Hp} {Cs C Cn Ch Ct a : Addr} {v2 v3 : V} {xs ns : List Str} {ps : List (Str × Str)} {A R : PyData} {n d : Int} {salt : Str} {Qa : Addr → Hp → Prop} {E : XK} (a1 : At H B H B1 H1) (ky : Ky K C B1 a xs ps) (kok : KyOk xs ps) (h2 : Dp K B1 v2 A) (bag : Bag6 A ns) (h3 : Dp K B1 v3 R) (sq : Sq R [.int n, .int d]) (ts : Tok' salt) (nm : ∀ y, outF (xs ++ (["#"] : List Str)) ns = some y → Gone H Cn "name" (.str y) E) (sh : outF (xs ++ (["#"] : List Str)) ns = none → shB n d = false → GoneD K H B Ch "given" (rtD n d) E) (st : outF (xs ++ (["#"] : List Str)) ns = none → shB n d = true → saltF salt = false → Gone H Ct "given" (.str salt) E)
    (ok : outF (xs ++ (["#"] : List Str)) ns = none → shB n d = true → saltF salt = true → ∀ p H2, Ex H H2 → Sm K Cs C (sub H2 H B) p a xs ps (closeF xs ps ns) n d salt → Qa p H2) :
    ∀ x dx, H1 x = none → H1 dx = none → dx ≠ x → spSin K Cs C Cn Ch Ct [.ref x, .ref a, v2, v3, .str salt] (upd (upd H1 dx (.own x)) x (.ins Cs dx [])) (fun v H3 => v = .non ∧ Qa x H3) E := fun x dx hx hdx ne => by
  refine ⟨H1, B1, x, dx, a, v2, v3, salt, xs, ps, A, ns, R, n, d, rfl, upd_same, hx, ?_, a1.b, ky, kok, h2, bag, h3, sq, ts, ⟨fun y hy e H3 e3 hd hx' => nm y hy e H3 (a1.ex.trans e3) (a1.fresh hd) hx', fun hn hs e v H3 e3 hd hx' hv => sh hn hs e v H3 (a1.ex.trans e3) (a1.fresh hd) hx' (a1.out e3 hv), fun hn hs ht e H3 e3 hd hx' => st hn hs ht e H3 (a1.ex.trans e3) (a1.fresh hd) hx', fun hn hs ht H3 e3 sm => ⟨rfl, ok hn hs ht x H3 (a1.ex.trans e3) (sm.up (At.outE a1 e3))⟩⟩⟩
  intro c o ha
  rw [upd_ne (ne_of_none ha hx), upd_ne (ne_of_none ha hdx)]
  exact ha
/-! ### at -/
def spAt (K : PySem.W.Frag) (Cs C Cn Ch Ct : Addr) : Sp := fun vs H Q E => ∃ B p a v3 xs ps ks n d salt R n' d', vs = [V.ref p, v3] ∧ Ex B H ∧ Sm K Cs C B p a xs ps ks n d salt ∧ KyOk xs ps ∧ Bag6 (tp ks) ks ∧ Tok' salt ∧ Dp K B v3 R ∧ Sq R [.int n', .int d'] ∧ SmW K Cs C Cn Ch Ct H B a xs ps ks n' d' salt Q E
abbrev sSamplerAt : Stmt := (inClass (top 33) 7)
abbrev NSamplerAt : List Str := ["self", "rate"]
theorem scSamplerAt : FnScope NSamplerAt ["self", "rate"] (defScope sSamplerAt) := ⟨rfl, rfl, rfl, by decide +kernel, rfl, by decide +kernel, by decide +kernel⟩
theorem ok_sat {f Cs C Cn Ch Ct fi : Addr} {fd fdi : FuncData} (F : Fun K "at" "Sampler.at" sSamplerAt f fd) (S : Sc K Cs) (MS : MkS P w K mg base Cs C Cn Ch Ct fi fdi) : FnOk P w K mg base (L2.CX P w) 8 f fd ["self", "rate"] (spAt K Cs C Cn Ch Ct) := by
  refine F.okX scSamplerAt (fun vs H Q E h => ?_) (fun cdv A outer s H vs Q E hr h => ?_)
  · obtain ⟨B, p, a, v3, xs, ps, ks, n, d, salt, R, n', d', rfl, _⟩ := h
    rfl
  · obtain ⟨B, p, a, v3, xs, ps, ks, n, d, salt, R, n', d', rfl, b, sm, kok, bag, ts, h3, sq, W⟩ := h
    refine ⟨_, (pss_one (ps_ret (pe_makeK MS.M MS.G hr (by rfl) MS.m MS.b4 (passes_call (E := E) (takes_of rfl rfl rfl rfl) (fun _ _ _ _ h => h)) (pa_cons (xFld K (pv 0) rfl) (pa_cons (xFld K (pv 0) rfl) (pa_cons (pv 1) pa_nil))) (pk_cons (xFld K (pv 0) rfl) pk_nil)))), ?_⟩
    obtain ⟨dx, fs, vk, vr, h1, l1, l2, l3, l4, l5, ky, d1, d2⟩ := sm.ex
    have hp := b p _ h1
    exact ⟨.ref p, rfl, p, Cs, dx, fs, .ref a, rfl, hp, S.cl, S.n1, l1, .ref p, rfl, p, Cs, dx, fs, vk, rfl, hp, S.cl, S.n2, l2, v3, rfl, .ref p, rfl, p, Cs, dx, fs, .str salt, rfl, hp, S.cl, S.n4, l4, rfl, rfl, mkS (At.start b (Ex.refl H)) ky kok d1 bag h3 sq ts W⟩
/-! ### of -/
def spSof (K : PySem.W.Frag) (Cs C Cb Cn Ch Ct : Addr) : Sp := fun vs H Q E => ∃ B a x xs ps, vs = [V.ref a, .str x] ∧ Ex B H ∧ Ky K C B a xs ps ∧ KyOk xs ps ∧ Tok' x ∧ x.length ≤ 99 ∧ (∀ y ∈ wordsF x, y.length ≤ 59) ∧ (spF x = none → Gone H Cb "given" (.str x) E) ∧ ∀ ns nd salt, spF x = some (ns, nd, salt) → SmW K Cs C Cn Ch Ct H B a xs ps ns nd.1 nd.2 salt Q E
theorem ns_bag {x : Str} {ns : List Str} (tx : Tok' x) (l : x.length ≤ 59) (h : nsF x = some ns) : Bag6 (tp ns) ns := by
  unfold nsF at h
  split at h
  · cases h
    exact ⟨.inr rfl, Oks.nil, by decide⟩
  · split at h
    · cases h
      exact ⟨.inr rfl, oks_sharp, by decide⟩
    · split at h
      · cases h
        refine ⟨.inr rfl, cut_oks tx, ?_⟩
        have z := spl_len (tl "+") (tl x) 0 []
        rw [← cut_map, List.length_map] at z
        have e2 : x.length = (tl x).length := by unfold tl; exact Array.length_toList.symm
        omega
      · cases h
theorem sp_parts {x : Str} {ns : List Str} {nd : Nat × Nat} {salt : Str} (tx : Tok' x) (l59 : ∀ y ∈ wordsF x, y.length ≤ 59) (h : spF x = some (ns, nd, salt)) : Bag6 (tp ns) ns ∧ Tok' salt := by
  unfold spF at h
  split at h
  · next c =>
    have h0 : (wordsF x)[0]? = some (wordsF x)[0] := List.getElem?_eq_getElem (by omega)
    rw [h0] at h
    have m0 := List.getElem_mem (l := wordsF x) (by omega : 0 < (wordsF x).length)
    split at h
    · next ns' nd' e1 e2 =>
      split at h
      · injection h with h
        injection h with h1 h2
        injection h2 with h2 h3
        subst h1 h3
        refine ⟨ns_bag (words_tok tx m0) (l59 _ m0) e1, ?_⟩
        unfold saltOf
        split
        · next c3 =>
          rw [List.getElem?_eq_getElem (by omega : 2 < (wordsF x).length)]
          exact words_tok tx (List.getElem_mem _)
        · exact ⟨by decide +kernel, by decide⟩
      · cases h
    · cases h
  · cases h
abbrev sSamplerOf : Stmt := (inClass (top 33) 8)
abbrev NSamplerOf : List Str := ["keys", "text", "names", "rate", "salt"]
theorem scSamplerOf : FnScope NSamplerOf ["keys", "text"] (defScope sSamplerOf) := ⟨rfl, rfl, rfl, by decide +kernel, rfl, by decide +kernel, by decide +kernel⟩
theorem ok_sof {f Cs C Cb Cn Ch Ct fi fp : Addr} {fd fdi fdp : FuncData} (F : Fun K "of" "Sampler.of" sSamplerOf f fd) (MS : MkS P w K mg base Cs C Cn Ch Ct fi fdi) (Csampler_parts : CalX P w K mg base 4 "sampler_parts" ["text"] (spSp K Cb) fp fdp) : FnOk P w K mg base (L2.CX P w) 8 f fd ["keys", "text"] (spSof K Cs C Cb Cn Ch Ct) := by
  refine F.okX scSamplerOf (fun vs H Q E h => ?_) (fun cdv A outer s H vs Q E hr h => ?_)
  · obtain ⟨B, a, x, xs, ps, rfl, _⟩ := h
    rfl
  · obtain ⟨B, a, x, xs, ps, rfl, b, ky, kok, tx, lx, l59, qn, qs⟩ := h
    refine ⟨_, (pss_cons (ps_asg (pe_call Csampler_parts.G (hr.mono (by decide)) (by rfl) Csampler_parts.m Csampler_parts.kp Csampler_parts.b .nil (passes_call (E := E) (takes_of rfl rfl rfl rfl) (fun _ _ _ _ h => h)) (pa_cons (pv 1) pa_nil)) (xTup K 3 rfl (pgs_cons (pg_name (i := 2) scSamplerOf.nd rfl (by first | exact .inl rfl | exact .inr rfl)) (pgs_cons (pg_name (i := 3) scSamplerOf.nd rfl (by first | exact .inl rfl | exact .inr rfl)) (pgs_cons (pg_name (i := 4) scSamplerOf.nd rfl (by first | exact .inl rfl | exact .inr rfl)) pgs_nil))))) (pss_one (ps_ret (pe_makeK MS.M MS.G hr (by rfl) MS.m MS.b4 (passes_call (E := E) (takes_of rfl rfl rfl rfl) (fun _ _ _ _ h => h)) (pa_cons (pv 0) (pa_cons (pv 2) (pa_cons (pv 3) pa_nil))) (pk_cons (pv 4) pk_nil))))), ?_⟩
    refine ⟨.str x, rfl, B, x, rfl, b, tx, lx, qn, fun ns nd salt hs v H2 e2 hv => ?_⟩
    have a2 := (At.start b (Ex.refl H)).next e2
    have u2 := le_sub b e2
    obtain ⟨bag, ts⟩ := sp_parts tx l59 hs
    cases hv with
    | tup hs' ha =>
      cases ha with
      | cons h2 t =>
        obtain ⟨v3, v4, rfl, h3, h4⟩ := two t
        obtain rfl := p_str h4
        refine ⟨_, _, rfl, ex_t a2.b hs', rfl, _, _, rfl, _, _, rfl, _, _, rfl, rfl, ?_⟩
        exact ⟨.ref a, rfl, _, rfl, v3, rfl, .str salt, rfl, rfl, rfl, mkS a2 (ky.up u2) kok h2 bag h3 (.inr rfl) ts (qs ns nd salt hs)⟩
end
end S5

set_option Elab.async false
set_option linter.all false
set_option maxRecDepth 100000
namespace S5
open PySem PySem.Spec PyProof.Rows L2 Evl ZE ZS StX ZD RZ ZT ZX TL
section
variable {P : Program} {w : World} {K : PySem.W.Frag} {mg : Str → Option Value} {base : Heap} {aI : Addr}
section
variable {σ : L2.St} {B : Hp} {i : Nat} {p C : Addr} {xs : List Str} {ps : List (Str × Str)}
theorem ed_pairs (Tc : Kc K C) (hi : σ[i]? = some (some (V.ref p))) (ky : Ky K C B p xs ps) : EvD K (tFld K (tVar i) "_pairs") σ B (.tuple (ps.map pr)) := by
  obtain ⟨dx, fs, vn, vp, dt, kvs, vk, h1, l1, l2, l3, l4, l5, d1, d2, h2, t, d3⟩ := ky.ex
  exact ed_fld hi h1 Tc.cl Tc.n2 l2 d2
end
/-- what an instance tells of its class -/
structure Tk (K : PySem.W.Frag) (C : Addr) : Prop where
  ha : PySem.W.findIn K (.ref C) "__class__" = some (some (.builtin "object.__class__"))
  hn : PySem.W.specialIn K (.builtin "object.__class__") "__get__" = some (some (.builtin "getset_descriptor.__get__"))
  htk : PySem.W.takesIn K (.builtin "object.__class__") = some true
  hm : PySem.W.mroIn K C (.type "object") = some true
  kt : PySem.W.kitOne K (.type "tuple") (.ref C) = some false
  nt : PySem.W.notFirst K C (.type "tuple") = true
  ne : PySem.W.findIn K (.ref C) "__ne__" = some (some (.builtin "object.__ne__"))
theorem nf_self {C : Addr} (K : PySem.W.Frag) : PySem.W.notFirst K C (.ref C) = true := by
  unfold PySem.W.notFirst
  rw [beq_self_eq_true]
  rfl
/-- a thing: a tuple, or a Keys -/
inductive Tq (K : PySem.W.Frag) (C : Addr) (B : Hp) : V → Option (List Str × List (Str × Str)) → Prop
  | d {v : V} {ds : List PyData} (h : Dp K B v (.tuple ds)) : Tq K C B v none
  | o {a : Addr} {xs : List Str} {ps : List (Str × Str)} (h : Ky K C B a xs ps) (ok : KyOk xs ps) : Tq K C B (.ref a) (some (xs, ps))
theorem Tq.up {C : Addr} {B B2 : Hp} {v : V} {t : Option (List Str × List (Str × Str))} (h : Tq K C B v t) (e : Ex B B2) : Tq K C B2 v t := by
  cases h with
  | d h => exact .d (dp_up h e)
  | o h ok => exact .o (h.up e) ok
def eqK (xs : List Str) (ps : List (Str × Str)) : Option (List Str × List (Str × Str)) → Bool
  | some (ys, qs) => decide (xs = ys) && decide (ps = qs)
  | none => false
theorem Tq.ty {C : Addr} {B : Hp} {v : V} {t : Option (List Str × List (Str × Str))} (h : Tq K C B v t) (Tc : Kc K C) (Tk : Tk K C) : ∃ c, TyX K B v c ∧ PySem.W.notFirst K C c = true ∧ PySem.W.kitOne K c (.ref C) = some t.isSome := by
  cases h with
  | d h => exact ⟨_, ty_dp h, Tk.nt, Tk.kt⟩
  | o h ok =>
    obtain ⟨dx, fs, vn, vp, dt, kvs, vk, h1, _⟩ := h.ex
    exact ⟨.ref C, .base (.ins h1 Tc.cl Tk.ha Tk.hn Tk.htk Tk.hm), nf_self K, if_pos (beq_self_eq_true _)⟩
theorem tyX_up {B B2 : Hp} {v : V} {c : Value} (h : TyX K B v c) (e : Ex B B2) : TyX K B2 v c := by
  cases h with
  | base h =>
    refine .base ?_
    cases h with
    | non => exact .non
    | bl b => exact .bl b
    | int i => exact .int i
    | str x => exact .str x
    | flt x => exact .flt x
    | lst h => exact .lst (e _ _ h)
    | frz h => exact .frz (e _ _ h)
    | tup h => exact .tup (e _ _ h)
    | dK h => exact .dK (e _ _ h)
    | dT h => exact .dT (e _ _ h)
    | ins h c h1 h2 h3 h4 => exact .ins (e _ _ h) c h1 h2 h3 h4
  | byt b => exact .byt b
  | set h => exact .set (e _ _ h)
  | kList h c => exact .kList h c
  | kTuple h c => exact .kTuple h c
  | kDict h c => exact .kDict h c
  | fTuple h => exact .fTuple (e _ _ h)
  | fDict h => exact .fDict (e _ _ h)
theorem eq_prs {ps qs : List (Str × Str)} (h : ∀ p ∈ ps, PyData.strOk p.1 = true ∧ PyData.strOk p.2 = true) (h' : ∀ p ∈ qs, PyData.strOk p.1 = true ∧ PyData.strOk p.2 = true) : PyData.eqv (.tuple (ps.map pr)) (.tuple (qs.map pr)) = decide (ps = qs) := by
  have tx : ∀ {l : List (Str × Str)}, (∀ p ∈ l, PyData.strOk p.1 = true ∧ PyData.strOk p.2 = true) → txN 2 (.tuple (l.map pr)) = true := fun {l} hl => by
    show (l.map pr).all (txN 1) = true
    rw [List.all_eq_true]
    intro d m
    obtain ⟨p, mp, rfl⟩ := List.mem_map.mp m
    show ([PyData.str p.1, .str p.2]).all (txN 0) = true
    rw [List.all_cons, List.all_cons, show txN 0 (.str p.1) = true from (hl p mp).1, show txN 0 (.str p.2) = true from (hl p mp).2]
    rfl
  refine eqv_dec (tx h) (tx h') ⟨fun e => ?_, fun e => by rw [e]⟩
  have e1 : ps.map pr = qs.map pr := by injection e
  exact List.map_inj_right (fun a b => pr_inj a b) |>.mp e1
theorem prs_shaped {ps : List (Str × Str)} (h : ∀ p ∈ ps, PyData.strOk p.1 = true ∧ PyData.strOk p.2 = true) : SeqAt.shaped (.tuple (ps.map pr)) = true := by
  refine txN_shaped (n := 2) ?_ (by decide)
  show (ps.map pr).all (txN 1) = true
  rw [List.all_eq_true]
  intro d m
  obtain ⟨p, mp, rfl⟩ := List.mem_map.mp m
  show ([PyData.str p.1, .str p.2]).all (txN 0) = true
  rw [List.all_cons, List.all_cons, show txN 0 (.str p.1) = true from (h p mp).1, show txN 0 (.str p.2) = true from (h p mp).2]
  rfl
/-! ### == -/
def spEqK (K : PySem.W.Frag) (C : Addr) : Sp := fun vs H Q _ => ∃ B p v xs ps t, vs = [V.ref p, v] ∧ Ex B H ∧ Ky K C B p xs ps ∧ KyOk xs ps ∧ Tq K C B v t ∧ ∀ H2, Ex H H2 → Q (.bl (eqK xs ps t)) H2
abbrev sKeysEq : Stmt := (inClass (top 23) 9)
abbrev NKeysEq : List Str := ["self", "other"]
theorem scKeysEq : FnScope NKeysEq ["self", "other"] (defScope sKeysEq) := ⟨rfl, rfl, rfl, by decide +kernel, rfl, by decide +kernel, by decide +kernel⟩
theorem ok_eq {f C : Addr} {fd : FuncData} (F : Fun K "__eq__" "Keys.__eq__" sKeysEq f fd) (mi : mg "isinstance" = none) (mC : mg "Keys" = some (.ref C)) (Tc : Kc K C) (Tk : Tk K C) : FnOk P w K mg base CX0 1 f fd ["self", "other"] (spEqK K C) := by
  refine F.ok scKeysEq (fun vs H Q E h => ?_) (fun cdv A outer s H vs Q E hr h => ?_)
  · obtain ⟨B, p, v, xs, ps, t, rfl, _⟩ := h
    rfl
  · obtain ⟨B, p, v, xs, ps, t, rfl, b, ky, ok, ht, q⟩ := h
    refine ⟨_, (pss_one (ps_ret (pe_and (pe_callB (xIsi K) (by rfl) mi (by decide +kernel) (pa_cons (pv 1) (pa_cons (pe_glob (v := V.ref C) rfl mC (by rfl)) pa_nil))) (pe_and (pe_cmpR (xEq K hr.units) (xFld K (pv 0) rfl) (xFld K (pv 1) rfl) (nomark _)) (pe_one (pe_cmpR (xEq K hr.units) (xFld K (pv 0) rfl) (xFld K (pv 1) rfl) (nomark _))))))), ?_⟩
    refine g_ret (K := K) (d := .bool (eqK xs ps t)) ?_ b fun v2 H2 e2 hv => by cases hv; exact q H2 e2
    obtain ⟨c, ty, _, kt⟩ := ht.ty Tc Tk
    have isi : EvD K (tCB (rIsi K) (tCons (tVar 1) (tCons (tC (.ref C)) tNil))) [some (V.ref p), some v] B (.bool t.isSome) := fun H1 b1 Q1 q1 => ⟨v, rfl, v, .ref C, c, .ref C, t.isSome, rfl, .own C, tyX_up ty b1, kt, q1 _ _ (Ex.refl H1) (.bl _)⟩
    cases ht with
    | d h => exact ed_is (ed_andV (a := false) (b := false) isi fun z => nomatch z) rfl
    | o h ok2 =>
      rename_i a ys qs
      exact ed_is (ed_andV (a := true) isi fun _ => ed_andV (ed_op (ed_names Tc rfl ky) (ed_names Tc rfl h) (rv_eq (tp_shaped ok.ok) (tp_shaped ok2.ok))) fun _ => ed_op (ed_pairs Tc rfl ky) (ed_pairs Tc rfl h) (rv_eq (prs_shaped ok.prs.2.1) (prs_shaped ok2.prs.2.1))) (by rw [eq_tp ok.ok ok2.ok, eq_prs ok.prs.2.1 ok2.prs.2.1]; rfl)
/-! ### expressions that make a Keys -/
/-- an expression that makes a Keys with these names and pairs -/
def EvK (K : PySem.W.Frag) (C : Addr) (te : TE) (σ : L2.St) (B : Hp) (xs : List Str) (ps : List (Str × Str)) : Prop := ∀ H1, Ex B H1 → ∀ Q : VK, (∀ p H2, Ex H1 H2 → Ky K C (sub H2 H1 B) p xs ps → Q (.ref p) H2) → te σ H1 Q
/-- an expression that is a tuple, or a Keys -/
def EvQ (K : PySem.W.Frag) (C : Addr) (te : TE) (σ : L2.St) (B : Hp) (t : Option (List Str × List (Str × Str))) : Prop := ∀ H1, Ex B H1 → ∀ Q : VK, (∀ v H2, Ex H1 H2 → Tq K C (sub H2 H1 B) v t → Q v H2) → te σ H1 Q
section
variable {σ : L2.St} {B : Hp} {i j : Nat} {p C : Addr} {xs : List Str} {ps : List (Str × Str)} {ds : List PyData} {E : XK} {te ta : TE} {t : Option (List Str × List (Str × Str))} {g : Bool → Bool}
theorem ek_var (hi : σ[i]? = some (some (V.ref p))) (ky : Ky K C B p xs ps) : EvK K C (tVar i) σ B xs ps := fun H1 b Q q => ⟨.ref p, hi, q p H1 (Ex.refl H1) (ky.up (le_sub b (Ex.refl H1)))⟩
theorem eq_ky (h : EvK K C te σ B xs ps) (ok : KyOk xs ps) : EvQ K C te σ B (some (xs, ps)) := fun H1 b Q q => h H1 b _ fun p H2 e2 ky => q _ H2 e2 (.o ky ok)
theorem eq_tup (h : EvD K te σ B (.tuple ds)) : EvQ K C te σ B none := fun H1 b Q q => h H1 b _ fun v H2 e2 hv => q _ H2 e2 (.d hv)
/-- o == e, o != e -/
theorem ed_eqO (Tc : Kc K C) (Tk : Tk K C) (h : EvK K C te σ B xs ps) (ok : KyOk xs ps) (h2 : EvQ K C ta σ B t) : EvD K (tOp (rEqO K C (spEqK K C) E g) te ta) σ B (.bool (g (eqK xs ps t))) := fun H1 b Q q => h H1 b _ fun p H2 e2 ky => h2 H2 (b.trans e2) _ fun v H3 e3 ht => by
  have ky3 := ky.up (show Ex (sub H2 H1 B) (sub H3 H1 B) from sub_mono e3)
  have ht3 := ht.up (show Ex (sub H3 H2 B) (sub H3 H1 B) from sub_step e2)
  obtain ⟨dx, fs, vn, vp, dt, kvs, vk, h1, _⟩ := ky3.ex
  obtain ⟨c, ty, nf, _⟩ := ht3.ty Tc Tk
  exact ⟨p, dx, fs, c, rfl, sub_le p _ h1, tyX_up ty sub_le, nf, sub H3 H1 B, p, v, xs, ps, t, rfl, sub_le, ky3, ok, ht3, fun H4 e4 => ⟨_, rfl, q _ _ ((e2.trans e3).trans e4) (.bl _)⟩⟩
end
end
end S5

set_option Elab.async false
set_option linter.all false
set_option maxRecDepth 100000
namespace S5
open PySem PySem.Spec PyProof.Rows L2 Evl ZE ZS StX ZD RZ ZT ZX TL
section
variable {P : Program} {w : World} {K : PySem.W.Frag} {mg : Str → Option Value} {base : Heap} {aI : Addr}
/-! ### Sampler == -/
theorem rt_shaped (n d : Int) : SeqAt.shaped (rtD n d) = true := rfl
theorem rt_eq (n d n' d' : Int) : PyData.eqv (rtD n d) (rtD n' d') = (decide (n = n') && decide (d = d')) := by
  show (PyData.eqv (.int n) (.int n') && (PyData.eqv (.int d) (.int d') && true)) = _
  rw [eqv_int, eqv_int, Bool.and_true]
structure Tks (K : PySem.W.Frag) (C : Addr) : Prop where
  ha : PySem.W.findIn K (.ref C) "__class__" = some (some (.builtin "object.__class__"))
  hn : PySem.W.specialIn K (.builtin "object.__class__") "__get__" = some (some (.builtin "getset_descriptor.__get__"))
  htk : PySem.W.takesIn K (.builtin "object.__class__") = some true
  hm : PySem.W.mroIn K C (.type "object") = some true
  kt : PySem.W.kitOne K (.type "tuple") (.ref C) = some false
  ks : PySem.W.kitOne K (.type "str") (.ref C) = some false
  nt : PySem.W.notFirst K C (.type "tuple") = true
  ns : PySem.W.notFirst K C (.type "str") = true
  ne : PySem.W.findIn K (.ref C) "__ne__" = some (some (.builtin "object.__ne__"))
/-- a Sampler's parts -/
structure SmP where
  xs : List Str
  ps : List (Str × Str)
  ks : List Str
  n : Int
  d : Int
  salt : Str
structure SmK (m : SmP) : Prop where
  kok : KyOk m.xs m.ps
  ok : Oks m.ks
  st : PyData.strOk m.salt = true
/-- a thing: a tuple, a text, or a Sampler -/
inductive Ts (K : PySem.W.Frag) (Cs C : Addr) (B : Hp) : V → Option SmP → Prop
  | d {v : V} {ds : List PyData} (h : Dp K B v (.tuple ds)) : Ts K Cs C B v none
  | s {x : Str} : Ts K Cs C B (.str x) none
  | o {p a : Addr} {m : SmP} (h : Sm K Cs C B p a m.xs m.ps m.ks m.n m.d m.salt) (ok : SmK m) : Ts K Cs C B (.ref p) (some m)
theorem Ts.up {Cs C : Addr} {B B2 : Hp} {v : V} {t : Option SmP} (h : Ts K Cs C B v t) (e : Ex B B2) : Ts K Cs C B2 v t := by
  cases h with
  | d h => exact .d (dp_up h e)
  | s => exact .s
  | o h ok => exact .o (h.up e) ok
def eqS (m : SmP) : Option SmP → Bool
  | some t => (decide (m.xs = t.xs) && decide (m.ps = t.ps)) && (decide (m.ks = t.ks) && ((decide (m.n = t.n) && decide (m.d = t.d)) && decide (m.salt = t.salt)))
  | none => false
theorem Ts.ty {Cs C : Addr} {B : Hp} {v : V} {t : Option SmP} (h : Ts K Cs C B v t) (S : Sc K Cs) (Tk : Tks K Cs) : ∃ c, TyX K B v c ∧ PySem.W.notFirst K Cs c = true ∧ PySem.W.kitOne K c (.ref Cs) = some t.isSome := by
  cases h with
  | d h => exact ⟨_, ty_dp h, Tk.nt, Tk.kt⟩
  | s => exact ⟨_, ty_dp (.str _), Tk.ns, Tk.ks⟩
  | o h ok =>
    obtain ⟨dx, fs, vk, vr, h1, _⟩ := h.ex
    exact ⟨.ref Cs, .base (.ins h1 S.cl Tk.ha Tk.hn Tk.htk Tk.hm), nf_self K, if_pos (beq_self_eq_true _)⟩
theorem ek_schema {σ : L2.St} {B : Hp} {i : Nat} {p a Cs C : Addr} {xs ks : List Str} {ps : List (Str × Str)} {n d : Int} {salt : Str} (S : Sc K Cs) (hi : σ[i]? = some (some (V.ref p))) (h : Sm K Cs C B p a xs ps ks n d salt) : EvK K C (tFld K (tVar i) "_schema") σ B xs ps := fun H1 b Q q => by
  obtain ⟨dx, fs, vk, vr, h1, l1, l2, l3, l4, l5, ky, d1, d2⟩ := h.ex
  exact ⟨.ref p, hi, p, Cs, dx, fs, .ref a, rfl, b p _ h1, S.cl, S.n1, l1, q a H1 (Ex.refl H1) (ky.up (le_sub b (Ex.refl H1)))⟩
def spEqS (K : PySem.W.Frag) (Cs C : Addr) : Sp := fun vs H Q _ => ∃ B p a v m t, vs = [V.ref p, v] ∧ Ex B H ∧ Sm K Cs C B p a m.xs m.ps m.ks m.n m.d m.salt ∧ SmK m ∧ Ts K Cs C B v t ∧ ∀ H2, Ex H H2 → Q (.bl (eqS m t)) H2
abbrev sSamplerEq : Stmt := (inClass (top 33) 6)
abbrev NSamplerEq : List Str := ["self", "other"]
theorem scSamplerEq : FnScope NSamplerEq ["self", "other"] (defScope sSamplerEq) := ⟨rfl, rfl, rfl, by decide +kernel, rfl, by decide +kernel, by decide +kernel⟩
theorem ok_seq {f Cs C fq : Addr} {fd fdq : FuncData} (F : Fun K "__eq__" "Sampler.__eq__" sSamplerEq f fd) (mi : mg "isinstance" = none) (mC : mg "Sampler" = some (.ref Cs)) (S : Sc K Cs) (Tc : Kc K C) (Tk : Tk K C) (Tks : Tks K Cs) (M__eq__ : MeK P w K mg base CX0 C 1 "__eq__" ["self", "other"] (spEqK K C) fq fdq) : FnOk P w K mg base CX0 3 f fd ["self", "other"] (spEqS K Cs C) := by
  refine F.ok scSamplerEq (fun vs H Q E h => ?_) (fun cdv A outer s H vs Q E hr h => ?_)
  · obtain ⟨B, p, a, v, m, t, rfl, _⟩ := h
    rfl
  · obtain ⟨B, p, a, v, m, t, rfl, b, sm, ok, ht, q⟩ := h
    refine ⟨_, (pss_cons (ps_if (PW.pt (pw_or (pt_not (pt_val (pe_callB (xIsi K) (by rfl) mi (by decide +kernel) (pa_cons (pv 1) (pa_cons (pe_glob (v := V.ref Cs) rfl mC (by rfl)) pa_nil))))) (pw_or1 (pt_cmpR (op_neO M__eq__.m M__eq__.G (hr.mono (by decide)) M__eq__.b pass0 Tk.ne Tk.hm) (xFld K (pv 0) rfl) (xFld K (pv 1) rfl) (nomark _))))) (pss_one (ps_ret pe_bl)) pss_nil) (pss_one (ps_ret (pe_and (pe_cmpR (xEq K hr.units) (xFld K (pv 0) rfl) (xFld K (pv 1) rfl) (nomark _)) (pe_and (pe_cmpR (xEq K hr.units) (xFld K (pv 0) rfl) (xFld K (pv 1) rfl) (nomark _)) (pe_one (pe_cmpR (xEq K hr.units) (xFld K (pv 0) rfl) (xFld K (pv 1) rfl) (nomark _)))))))), ?_⟩
    obtain ⟨c, ty, _, kt⟩ := ht.ty S Tks
    have isi : EvD K (tCB (rIsi K) (tCons (tVar 1) (tCons (tC (.ref Cs)) tNil))) [some (V.ref p), some v] B (.bool t.isSome) := fun H1 b1 Q1 q1 => ⟨v, rfl, v, .ref Cs, c, .ref Cs, t.isSome, rfl, .own Cs, tyX_up ty b1, kt, q1 _ _ (Ex.refl H1) (.bl _)⟩
    cases ht with
    | d h => exact g_if1 (c := !(none : Option SmP).isSome || false) (et_or (b := false) (et_not (et_ofB isi)) fun z => (by cases z)) b (fun _ H2 e2 => g_ret (K := K) (d := .bool false) (ed_bl false) (b.trans e2) fun v H3 e3 hv => by cases hv; exact q H3 (e2.trans e3)) fun z => (by cases z)
    | s => exact g_if1 (c := !(none : Option SmP).isSome || false) (et_or (b := false) (et_not (et_ofB isi)) fun z => (by cases z)) b (fun _ H2 e2 => g_ret (K := K) (d := .bool false) (ed_bl false) (b.trans e2) fun v H3 e3 hv => by cases hv; exact q H3 (e2.trans e3)) fun z => (by cases z)
    | o h ok2 =>
      rename_i p2 a2 t
      refine g_if1 (c := !true || !(eqK m.xs m.ps (some (t.xs, t.ps)))) (et_or (et_not (et_ofB isi)) fun _ => et_of (ed_eqO Tc Tk (ek_schema S rfl sm) ok.kok (eq_ky (ek_schema S rfl h) ok2.kok))) b (fun hc H2 e2 => ?_) fun hc H2 e2 => ?_
      · have z : (decide (m.xs = t.xs) && decide (m.ps = t.ps)) = false := by
          cases z : (decide (m.xs = t.xs) && decide (m.ps = t.ps)) with
          | false => rfl
          | true =>
            have hc : (!(decide (m.xs = t.xs) && decide (m.ps = t.ps))) = true := hc
            rw [z] at hc
            cases hc
        refine g_ret (K := K) (d := .bool false) (ed_bl false) (b.trans e2) fun v H3 e3 hv => ?_
        cases hv
        have z2 : eqS m (some t) = false := by
          show ((decide (m.xs = t.xs) && decide (m.ps = t.ps)) && _) = false
          rw [z]
          rfl
        rw [z2] at q
        exact q H3 (e2.trans e3)
      · have z : (decide (m.xs = t.xs) && decide (m.ps = t.ps)) = true := by
          cases z : (decide (m.xs = t.xs) && decide (m.ps = t.ps)) with
          | true => rfl
          | false =>
            have hc : (!(decide (m.xs = t.xs) && decide (m.ps = t.ps))) = false := hc
            rw [z] at hc
            cases hc
        refine g_ret (K := K) (d := .bool (eqS m (some t))) (ed_is (ed_andV (ed_is (ed_op (ed_skeys S rfl sm) (ed_skeys S rfl h) (rv_eq (tp_shaped ok.ok) (tp_shaped ok2.ok))) (congrArg _ (eq_tp ok.ok ok2.ok))) fun _ => ed_andV (ed_is (ed_op (ed_srate S rfl sm) (ed_srate S rfl h) (rv_eq (rt_shaped _ _) (rt_shaped _ _))) (congrArg _ (rt_eq _ _ _ _))) fun _ => ed_is (ed_op (ed_ssalt S rfl sm) (ed_ssalt S rfl h) (rv_eq (str_shaped ok.st) (str_shaped ok2.st))) (congrArg _ (eq_str ok.st ok2.st))) ?_) (b.trans e2) fun v H3 e3 hv => ?_
        · show _ = PyData.bool ((decide (m.xs = t.xs) && decide (m.ps = t.ps)) && _)
          rw [z, Bool.true_and]
        · cases hv
          exact q H3 (e2.trans e3)
end
end S5

set_option Elab.async false
set_option linter.all false
set_option maxRecDepth 100000
/-! Draws within expressions: by what the drawn data may be. -/
namespace ZT
open PySem PySem.Spec PyProof.Rows L2
section
variable {X : Cx}
/-- text * int -/
def rMulS : R2 := fun x y H Q => ∃ (i : Str) (n : Nat), x = .str i ∧ y = .int (n : Int) ∧ n ≤ 1000 ∧ i.length ≤ 1000 ∧ Q (.str (Txt.mul i n)) H
theorem op_mul_str : OpR X (binaryOp .Mult) rMulS := by
  intro pins s σ H x y v u Q I rx ry h
  obtain ⟨i, n, rfl, rfl, l1, l2, q⟩ := h
  obtain ⟨t, rfl⟩ := rx
  obtain ⟨t', rfl⟩ := ry
  exact SB.mul (mulOk_of 1000 1000 l2 (by omega) (by omega) (by decide) (by decide)) fun t' tk => ⟨.str _, H, I.tok _, ⟨_, rfl⟩, q⟩
end
end ZT
namespace ZE
open PySem PySem.Spec PyProof.Rows L2 Evl ZS StX RZ ZT
/-- an expression whose answer is one of these data; it draws no more than c times -/
def EvU (K : PySem.W.Frag) (te : TE) (σ : L2.St) (B : Hp) (u : Addr) (R : PyData → Prop) (c : Nat) : Prop := ∀ H n, Ex B H → Urn H u n → n + c ≤ 100000 → ∀ Q : VK, (∀ d v H2 m, R d → Ex (del H u) H2 → Dp K (sub H2 H B) v d → Urn H2 u m → m ≤ n + c → Q v H2) → te σ H Q
/-- a test, the same -/
def EvUT (tt : TT) (σ : L2.St) (B : Hp) (u : Addr) (R : Bool → Prop) (c : Nat) : Prop := ∀ H n, Ex B H → Urn H u n → n + c ≤ 100000 → ∀ Q : Bool → Hp → Prop, (∀ b H2 m, R b → Ex (del H u) H2 → Urn H2 u m → m ≤ n + c → Q b H2) → tt σ H Q
section
variable {K : PySem.W.Frag} {σ : L2.St} {B : Hp} {u : Addr} {te ta tb tl : TE} {tas : TA} {t1 t2 tt : TT} {d D0 : PyData} {ds : List PyData} {R Ra Rc Rd : PyData → Prop} {c c1 c2 : Nat} {E : XK} {i : Nat} {b : Bool}
theorem del_up {H H2 : Hp} (e : Ex H H2) : Ex (del H u) H2 := del_le.trans e
theorem eu_of (h : EvD K te σ B d) : EvU K te σ B u (· = d) 0 := fun H n b un few Q q => h H b Q fun v H2 e hv => q d v H2 n rfl (del_up e) hv (un.up e) (Nat.le_refl _)
theorem eu_is (h : EvU K te σ B u R c) (f : ∀ d, R d → Rc d) (hc : c ≤ c2) : EvU K te σ B u Rc c2 := fun H n b un few Q q => h H n b un (by omega) Q fun d v H2 m hr e hv un2 l => q d v H2 m (f d hr) e hv un2 (by omega)
theorem eu_call {Pm : List PyData → (PyData → Prop) → Nat → Prop} (bu : B u = none) (hi : σ[i]? = some (some (V.ref u))) (h : EvDA K tas σ B ds) (hp : Pm ds R c) : EvU K (tCall (spU K Pm) [] E (tCons (tVar i) tas)) σ B u R c := fun H n b un few Q q =>
  u_call hi h hp b bu un few fun d v H2 hr e hv un2 => q d v H2 _ hr e hv un2 (Nat.le_refl _)
theorem eu_op {r : R2} (bu : B u = none) (h1 : EvU K ta σ B u Ra c1) (h2 : ∀ B', Ex B B' → B' u = none → EvU K tb σ B' u Rc c2) (hr : ∀ d1 d2, Ra d1 → Rc d2 → ∃ d, Rd d ∧ RvD K r d1 d2 d) : EvU K (tOp r ta tb) σ B u Rd (c1 + c2) := fun H n b un few Q q =>
  h1 H n b un (by omega) _ fun d1 x H1 m hr1 e1 hx un1 l1 => h2 (sub H1 H B) (urn_base b bu e1) (urn_out un bu) H1 m sub_le un1 (by omega) _ fun d2 y H2 m2 hr2 e2 hy un2 l2 => by
    obtain ⟨d, r3, rv⟩ := hr d1 d2 hr1 hr2
    have a1 := (At.start b (del_le (p := u))).urn del_at bu e1 un1.some
    have a2 := a1.urn del_at (urn_out un bu) e2 un2.some
    exact rv (sub H2 H1 (sub H1 H B)) H2 x y a2.b (dp_up hx (urn_base a1.b (urn_out un bu) e2)) hy Q fun v H3 e3 hv => q d v H3 m2 r3 (a2.ex.trans e3) (a2.out e3 hv) (un2.up e3) (by omega)
theorem eut_of {Rb : Bool → Prop} (h : EvU K te σ B u R c) (hb : ∀ d, R d → ∃ b, d = .bool b ∧ Rb b) : EvUT (tTest te) σ B u Rb c := fun H n b un few Q q => h H n b un few _ fun d v H2 m hr e hv un2 l => by
  obtain ⟨k, rfl, hk⟩ := hb d hr
  cases hv
  exact ⟨k, rfl, q k H2 m hk e un2 l⟩
/-- test or drawn test -/
theorem eut_or {Rb : Bool → Prop} (bu : B u = none) (h1 : EvT t1 σ B b) (h2 : b = false → ∀ B', Ex B B' → B' u = none → EvUT t2 σ B' u Rb c) (h0 : b = true → Rb true) : EvUT (tOr t1 t2) σ B u Rb c := fun H n bb un few Q q => h1 H bb _ fun H1 e1 => by
  cases b with
  | true => exact (if_pos rfl).mpr (q true H1 n (h0 rfl) (del_up e1) (un.up e1) (Nat.le_add_right _ _))
  | false =>
    refine (if_neg Bool.false_ne_true).mpr (h2 rfl B (Ex.refl B) bu H1 n (bb.trans e1) (un.up e1) few Q fun b H2 m hb e un2 l => q b H2 m hb ((del_ex e1).trans e) un2 l)
theorem eut_yes : EvUT tYes σ B u (· = true) 0 := fun H n b un few Q q => q true H n rfl del_le un (Nat.le_refl _)
/-- [e for name in seq if test], with draws -/
theorem none_of_ex {A H : Hp} {c : Addr} (e : Ex A H) (h : H c = none) : A c = none := by
  cases w : A c with
  | none => rfl
  | some o => rw [e c o w] at h; cases h
/-- a, b = pair -/
theorem g_pairT {H : Hp} {p : Str × Str} {x : V} {i j : Nat} {Q : L2.St → Hp → Prop} (h : Dp K B x (pr p)) (b : Ex B H) (q : Q ((σ.set i (some (.str p.1))).set j (some (.str p.2))) H) : gTup K 2 (gCons (gName i) (gCons (gName j) gNil)) x σ H Q := by
  have h' : Dp K B x (.tuple [.str p.1, .str p.2]) := h
  cases h' with
  | tup hs ha =>
    obtain ⟨v, w, rfl, h1, h2⟩ := two ha
    obtain rfl := p_str h1
    obtain rfl := p_str h2
    exact ⟨_, _, rfl, ex_t b hs, rfl, _, _, rfl, _, _, rfl, rfl, q⟩
theorem Mu.nextU {H H2 : Hp} {l : Addr} {es : List PyData} (m : Mu K B H l es) (b : Ex B H) (bu : B u = none) (e : Ex (del H u) H2) (ne : l ≠ u) : Mu K (sub H2 H B) H2 l es := by
  obtain ⟨vs, h1, h2, h3⟩ := m
  exact ⟨vs, e l _ (by rw [del_ne ne]; exact h1), sub_no ⟨by rw [h1]; rfl, h2⟩, dpa_up h3 (urn_base b bu e)⟩
theorem rv_app {x y : Str} (l : x.length + y.length ≤ 1000) : RvD K (fun a b H Q => ∃ i j : Str, a = .str i ∧ b = .str j ∧ i.length + j.length ≤ sizeLine ∧ Q (.str (i ++ j)) H) (.str x) (.str y) (.str (x ++ y)) := rv_sc (fun _ => .str _) fun H v u hv hu Q q => by
  cases hv
  cases hu
  exact ⟨x, y, rfl, rfl, sz_of (by omega), q⟩
theorem u_lc {Hk B0 H0 H : Hp} {n : Nat} {xs : List Str} {j : Nat} {vs : List Nat} {Rt : Str → Bool → Prop} {Re : Str → PyData → Prop} (Rr : Nat → List PyData → Prop) (ct ce : Nat) (bu : B u = none) (hl : EvD K tl σ B D0) (sq : Sq D0 (xs.map .str)) (fx : xs.length < 40000) (hw : ∀ x, wipe ((wipe σ vs).set j (some x)) vs = wipe σ vs)
    (ht : ∀ x ∈ xs, ∀ B', Ex B B' → B' u = none → EvUT tt ((wipe σ vs).set j (some (.str x))) B' u (Rt x) ct) (he : ∀ x ∈ xs, ∀ B', Ex B B' → B' u = none → EvU K te ((wipe σ vs).set j (some (.str x))) B' u (Re x) ce)
    (r0 : Rr 0 []) (step : ∀ i x ds, xs[i]? = some x → Rr i ds → (Rt x false → Rr (i + 1) ds) ∧ (Rt x true → ∀ d, Re x d → Rr (i + 1) (ds ++ [d]))) (a0 : At Hk B0 H0 B H) (hk : Hk u = none) (un : Urn H u n) (few : n + xs.length * (ct + ce) ≤ 100000) {Q : VK}
    (q : ∀ l ds H2 Bi m, Rr xs.length ds → H l = none → l ≠ u → Ex B Bi → Bi u = none → At Hk B0 H0 Bi H2 → Mu K Bi H2 l ds → Urn H2 u m → m ≤ n + xs.length * (ct + ce) → Q (.ref l) H2) : tLc (iSq K tl) (gName j) tt te vs σ H Q := hl H a0.b _ fun v H2 e2 hv => by
  have b := a0.b
  obtain ⟨a, ys, rfl, hs, hx⟩ := sq_split hv sq
  have nx := DpAll.len hx
  rw [List.length_map] at nx
  have main : ∀ J : It, ((J = Itl K a ∧ ∀ H', Ex (sub H2 H B) H' → SqL K H' a ys) ∨ (J = Itt K a ∧ ∀ H', Ex (sub H2 H B) H' → SqT K H' a ys)) → ∀ D, H2 D = none → ∃ W : Nat → Nat → Hp → Prop, (∃ m, W 0 m (upd H2 D (.lst []))) ∧ ∀ i m H, W i m H →
      (J.stop i H ∧ Q (.ref D) H) ∨ (J.go i H ∧ ∃ Nx : Hp → Prop, (∀ H', Nx H' → ∃ m', m' < m ∧ W (i + 1) m' H') ∧ ∀ x H', J.yld i H x H' → gName j x (wipe σ vs) H' fun σ2 H2 => wipe σ2 vs = wipe σ vs ∧ tt σ2 H2 fun b H3 =>
        if b = true then te σ2 H3 fun y H4 => ∃ acc, H4 D = some (.lst acc) ∧ acc.length < sizeLine ∧ Nx (upd H4 D (.lst (acc ++ [y]))) else Nx H3) := by
    intro J hJ D hD
    have h1D : H D = none := fresh_back e2 hD
    have nDu : D ≠ u := fun z => by have := un.some; rw [← z, h1D] at this; cases this
    have kD : Hk D = none := none_of_ex a0.ex h1D
    have dB : sub H2 H B D = none := by
      rw [sub_yes fun z => by rw [h1D] at z; exact Bool.false_ne_true z.1]
      exact hD
    have uB : sub H2 H B u = none := sub_no ⟨un.some, bu⟩
    refine wp_lc (B := sub H2 H B) hJ (fun i H' => ∃ acc ds Bi m, At Hk B0 H0 Bi H' ∧ Ex (sub H2 H B) Bi ∧ Bi u = none ∧ H' D = some (.lst acc) ∧ Bi D = none ∧ DpAll K Bi acc ds ∧ Rr i ds ∧ ds.length ≤ i ∧ Urn H' u m ∧ m ≤ n + i * (ct + ce)) ?_ (fun i H' ⟨acc, ds, Bi, m, a3, eb, _⟩ => eb.trans a3.b) (fun i x H' hi ⟨acc, ds, Bi, m, a3, eb, ub, hD', bD, hd, hr, hl, hu, lm⟩ => ?_) fun H' ⟨acc, ds, Bi, m, a3, eb, ub, hD', bD, hd, hr, hl, hu, lm⟩ => ?_
    · exact ⟨[], [], sub H2 H B, n, (a0.next e2).new hD, Ex.refl _, uB, upd_same, dB, .nil, r0, Nat.le_refl _, (un.up e2).move (upd_ne fun z => nDu z.symm), by omega⟩
    · obtain ⟨d, hd1, hd2⟩ := DpAll.get' hx hi
      rw [List.getElem?_map] at hd1
      obtain ⟨s, hs1, rfl⟩ := Option.map_eq_some_iff.mp hd1
      obtain rfl := p_str hd2
      have ms := List.mem_of_getElem? hs1
      have il : i < xs.length := (List.getElem?_eq_some_iff.mp hs1).1
      have z0 : (i + 1) * (ct + ce) ≤ xs.length * (ct + ce) := Nat.mul_le_mul_right _ il
      rw [Nat.succ_mul] at z0
      have bB : Ex B Bi := (le_sub b e2).trans eb
      obtain ⟨s1, s2⟩ := step i s ds hs1 hr
      refine ⟨hw _, ht s ms Bi bB ub H' m a3.b hu (by omega) _ fun bb H3 m3 rb e3 un3 l3 => ?_⟩
      have a4 := a3.urn' hk ub e3 un3.some
      have hD3 : H3 D = some (.lst acc) := e3 D _ (by rw [del_ne nDu]; exact hD')
      cases bb with
      | false => exact (if_neg Bool.false_ne_true).mpr ⟨acc, ds, Bi, m3, a4, eb, ub, hD3, bD, hd, s1 rb, by omega, un3, by rw [Nat.succ_mul]; omega⟩
      | true =>
        refine (if_pos rfl).mpr (he s ms Bi bB ub H3 m3 a4.b un3 (by omega) _ fun d y H4 m4 rd e4 hy un4 l4 => ?_)
        have hD4 : H4 D = some (.lst acc) := e4 D _ (by rw [del_ne nDu]; exact hD3)
        have a5 := a4.urn hk ub e4 un4.some
        have b4 := urn_base a4.b ub e4
        have nD : sub H4 H3 Bi D = none := sub_no ⟨by rw [hD3]; rfl, bD⟩
        refine ⟨acc, hD4, sz_lt (by rw [DpAll.len hd]; omega), acc ++ [y], ds ++ [d], sub H4 H3 Bi, m4, a5.mut nD kD (by rw [hD4]; rfl), eb.trans b4, urn_out un3 ub, upd_same, nD, DpAll.app (dpa_up hd b4) (.cons hy .nil), s2 rb d rd, ?_, un4.move (upd_ne fun z => nDu z.symm), by rw [Nat.succ_mul]; omega⟩
        rw [List.length_append, List.length_singleton]
        omega
    · rw [nx] at hr lm
      exact q D ds H' Bi m hr h1D nDu ((le_sub b e2).trans eb) ub a3 ⟨acc, hD', bD, hd⟩ hu lm
  refine ⟨a, rfl, ?_⟩
  rcases hs with hs | hs
  · exact .inl ⟨ys, ex_l sub_le hs, main _ (.inl ⟨rfl, fun H' e => ex_l e hs⟩)⟩
  · exact .inr ⟨ys, ex_t sub_le hs, main _ (.inr ⟨rfl, fun H' e => ex_t e hs⟩)⟩
end
end ZE

set_option Elab.async false
set_option linter.all false
set_option maxRecDepth 100000
set_option maxHeartbeats 4000000
/-! A clause that names five classes. -/
namespace PySem.W
open PySem PySem.Spec PyProof.Rows
theorem exm_five {M : Model} {K : Frag} {c1 c2 c3 c4 c5 cls : Value} {tp e : Addr} {b : Bool} {h : Heap} (X : K.In h) (LT : Looks M h (typeOf (.ref e)) cls) (hp : h.get? tp = some { cls := .type "tuple", data := .seq [c1, c2, c3, c4, c5].toArray }) (hx : exmAny K cls [c1, c2, c3, c4, c5] = some b) :
    Looks M h (excMatches (.ref e) (.ref tp)) b := by
  have isT : Looks M h (isInstance (.ref tp) (.type "tuple")) true := ((Looks.ld hp).andThen .now).andThen (Looks.of_pure isSubtype_tuple_tuple)
  obtain ⟨b1, d1, x1, y1, z1⟩ := exmAny_cons hx
  obtain ⟨b2, d2, x2, y2, z2⟩ := exmAny_cons y1
  obtain ⟨b3, d3, x3, y3, z3⟩ := exmAny_cons y2
  obtain ⟨b4, d4, x4, y4, z4⟩ := exmAny_cons y3
  obtain ⟨b5, d5, x5, y5, z5⟩ := exmAny_cons y4
  have z6 : false = d5 := Option.some.inj y5
  clear hx y1 y2 y3 y4 y5
  subst z1 z2 z3 z4 z5 z6
  intro A Q E s k0 q
  obtain ⟨hh, g, d, tk, os⟩ := s
  have k : ∀ a o, h.get? a = some o → hh.get? a = some o := k0
  have T := LT.keeps k
  have I := isT.keeps k
  have p := k _ _ hp
  have e1 := (exm_cls (M := M) X x1).1.keeps k
  have s1 := (exm_cls (M := M) X x1).2.keeps k
  have e2 := (exm_cls (M := M) X x2).1.keeps k
  have s2 := (exm_cls (M := M) X x2).2.keeps k
  have e3 := (exm_cls (M := M) X x3).1.keeps k
  have s3 := (exm_cls (M := M) X x3).2.keeps k
  have e4 := (exm_cls (M := M) X x4).1.keeps k
  have s4 := (exm_cls (M := M) X x4).2.keeps k
  have e5 := (exm_cls (M := M) X x5).1.keeps k
  have s5 := (exm_cls (M := M) X x5).2.keeps k
  unfold excMatches
  refine wpAny_bind (I.at ?_)
  dsimp only
  rw [if_pos rfl]
  first
    | refine wpAny_bind (wpAny_seqItems p rfl ?_)
    | refine wpAny_bind (wpAny_bind (wpAny_seqItems p rfl (wpAny_pure ?_)))
  dsimp only [Option.getD_some, Option.getD]
  cases b1 <;> cases b2 <;> cases b3 <;> cases b4 <;> cases b5 <;> ((repeat (first | simp only [List.forIn_cons, List.forIn_nil, Bool.not_true, Bool.false_eq_true, if_false, if_true] | lk)); exact q)
end PySem.W
namespace ZT
open PySem PySem.Spec PyProof.Rows L2
section
variable {X : Cx} {cls c1 c2 c3 c4 c5 : Value} {x1 x2 x3 x4 x5 : Str} {p1 p2 p3 p4 p5 tpos : Pos} {kk : Nat} {b : Bool}
theorem clause5 (n1 : Names X x1 c1) (n2 : Names X x2 c2) (n3 : Names X x3 c3) (n4 : Names X x4 c4) (n5 : Names X x5 c5) (he : PySem.W.exmAny X.K cls [c1, c2, c3, c4, c5] = some b) : Clause X (.Tuple [.Name x1 p1, .Name x2 p2, .Name x3 p3, .Name x4 p4, .Name x5 p5] kk tpos) cls b := fun a pn σ H s E Q I LT q => by
  refine wpAny_Tuple (wpAny_items_cons (named n1 I (wpAny_items_cons (named n2 I (wpAny_items_cons (named n3 I (wpAny_items_cons (named n4 I (wpAny_items_cons (named n5 I (wpAny_items_nil ⟨by size_fits, ?_⟩)))))))))))
  exact (PySem.W.exm_five (I.kIn.keeps fun _ _ z => Heap.get?_push_of_some _ z) (LT.keeps fun _ _ z => Heap.get?_push_of_some _ z) (Heap.get?_push_size s.heap rfl) he).here (q _ fun _ _ z => Heap.get?_push_of_some _ z)
end
end ZT

set_option Elab.async false
set_option linter.all false
set_option maxRecDepth 100000
namespace S5
open PySem PySem.Spec PyProof.Rows L2 Evl ZE ZS StX ZD RZ ZT ZX TL
section
variable {P : Program} {w : World} {K : PySem.W.Frag} {mg : Str → Option Value} {base : Heap} {aI : Addr}
/-! ### rate -/
def rates : List (Nat × Nat) := [(1, 2), (1, 3), (2, 3), (1, 4), (3, 4), (5, 12), (1, 10), (1, 1), (1, 1000), (999, 1000)]
def raP (ds : List PyData) (R : PyData → Prop) (c : Nat) : Prop := ds = [] ∧ (R = fun d => ∃ r ∈ rates, d = shD r) ∧ c = 1
abbrev sLRate : Stmt := (top 47)
abbrev NLRate : List Str := ["_law_urn"]
theorem scLRate : FnScope NLRate ["_law_urn"] (defScope sLRate) := ⟨rfl, rfl, rfl, by decide +kernel, rfl, by decide +kernel, by decide +kernel⟩
theorem ok_rate {f fo : Addr} {fd fdo : FuncData} (F : Fun K "_law_rate" "_law_rate" sLRate f fd) (C_law_of : Cal P w K mg base 2 "_law_of" ["_law_urn", "_law_some_so"] (spU K ofP) fo fdo) : FnOk P w K mg base CX0 3 f fd ["_law_urn"] (spU K raP) := by
  refine F.ok scLRate (fun vs H Q E h => ?_) (fun cdv A outer s H vs Q E hr h => ?_)
  · obtain ⟨B, u, ws, ds, R, c, n, rfl, _, _, hw, _, _, ⟨rfl, _⟩, _⟩ := h
    exact congrArg (· + 1) (DpAll.len hw)
  · obtain ⟨B, u, ws, ds, R, c, n, rfl, b, bu, hw, un, few, ⟨rfl, rfl, rfl⟩, q⟩ := h
    cases hw
    refine ⟨_, (pss_one (ps_ret (pe_call C_law_of.G (hr.mono (by decide)) (by rfl) C_law_of.m C_law_of.kp C_law_of.b .nil pass0 (pa_cons (pv 0) (pa_cons (pe_lst (pa_cons (pe_tup (pa_cons pe_int (pa_cons pe_int pa_nil))) (pa_cons (pe_tup (pa_cons pe_int (pa_cons pe_int pa_nil))) (pa_cons (pe_tup (pa_cons pe_int (pa_cons pe_int pa_nil))) (pa_cons (pe_tup (pa_cons pe_int (pa_cons pe_int pa_nil))) (pa_cons (pe_tup (pa_cons pe_int (pa_cons pe_int pa_nil))) (pa_cons (pe_tup (pa_cons pe_int (pa_cons pe_int pa_nil))) (pa_cons (pe_tup (pa_cons pe_int (pa_cons pe_int pa_nil))) (pa_cons (pe_tup (pa_cons pe_int (pa_cons pe_int pa_nil))) (pa_cons (pe_tup (pa_cons pe_int (pa_cons pe_int pa_nil))) (pa_cons (pe_tup (pa_cons pe_int (pa_cons pe_int pa_nil))) pa_nil))))))))))) pa_nil))))), ?_⟩
    have p2 : ∀ {σ : L2.St} {B : Hp} (x y : Nat), EvD K (tTup (tCons (tC (.int (x : Int))) (tCons (tC (.int (y : Int))) tNil))) σ B (shD (x, y)) := fun {_ _} x y => ed_tup (ea_consD (ed_int _) (ea_consD (ed_int _) ea_nilD)) (by show 2 ≤ 100000; decide)
    exact u_call (R := fun d => d ∈ rates.map shD) rfl (ea_consD (ed_lst (ds := rates.map shD) (ea_consD (p2 1 2) (ea_consD (p2 1 3) (ea_consD (p2 2 3) (ea_consD (p2 1 4) (ea_consD (p2 3 4) (ea_consD (p2 5 12) (ea_consD (p2 1 10) (ea_consD (p2 1 1) (ea_consD (p2 1 1000) (ea_consD (p2 999 1000) ea_nilD)))))))))) (by decide)) ea_nilD) ⟨_, rates.map shD, rfl, .inl rfl, by decide, by decide, rfl, rfl⟩ b bu un few fun d v H2 hr e hv un2 => by
      obtain ⟨r, mr, rfl⟩ := List.mem_map.mp hr
      exact q _ v H2 ⟨r, mr, rfl⟩ e hv un2
/-! ### what an error tells -/
section
variable {X : Cx} (K : PySem.W.Frag)
theorem xErr (hK : X.K = K := by rfl) : CallR X (.builtin "isinstance") (rErr K) := hK ▸ call_err
theorem xErrF {e : Expr} {te : TE} {n : Str} {pos : Pos} (he : PE X e te) (hb : attributeBase e n X.env (eval e X.env) = eval e X.env := by rfl) (hK : X.K = K := by rfl) : PE X (.Attribute e n pos) (tErr K n te) := hK ▸ pe_err he hb
theorem pe_propX {CX : CXT} {k : Nat} {C p g : Addr} {fd : FuncData} {ps : List Str} {sp : Sp} {e : Expr} {f : Str} {pos : Pos} {ta : TE} {dvs : List V} {ds : List Value} {E : XK} (c : Cls X.K C) (hp : PropOf X.K C f p g) (F : FnOk X.prog X.w X.K X.mg X.base CX k g fd ps sp) (hr : Room (k + 1) X.A) (hb : Binds X.K fd ps ds) (hd : Vals dvs ds) (hx : Passes CX X.nox E)
    (he : PE X e ta) (hab : attributeBase e f X.env (eval e X.env) = eval e X.env) : PE X (.Attribute e f pos) (tProp C sp dvs E ta) := pe_prop he c hp F hr hb hd hx hab
end
structure RfK (K : PySem.W.Frag) (mg : Str → Option Value) (Cn Ch Ct Cb : Addr) : Prop where
  gn : mg "NoName" = some (.ref Cn)
  gh : mg "BadShare" = some (.ref Ch)
  gt : mg "BadSalt" = some (.ref Ct)
  gb : mg "BadSampler" = some (.ref Cb)
  gv : mg "ValueError" = none
  xn : ExC K Cn
  xh : ExC K Ch
  xt : ExC K Ct
  xb : ExC K Cb
  nn : PySem.W.findIn K (.ref Cn) "name" = some none
  nh : PySem.W.findIn K (.ref Ch) "given" = some none
  nt : PySem.W.findIn K (.ref Ct) "given" = some none
  nb : PySem.W.findIn K (.ref Cb) "given" = some none
  hn : PySem.W.kitOne K (.ref Ch) (.ref Cn) = some false
  tn : PySem.W.kitOne K (.ref Ct) (.ref Cn) = some false
  bn : PySem.W.kitOne K (.ref Cb) (.ref Cn) = some false
  hv : PySem.W.kitOne K (.ref Ch) (.type "ValueError") = some true
  tv : PySem.W.kitOne K (.ref Ct) (.type "ValueError") = some true
  bv : PySem.W.kitOne K (.ref Cb) (.type "ValueError") = some true
  th : PySem.W.kitOne K (.ref Ct) (.ref Ch) = some false
  bh : PySem.W.kitOne K (.ref Cb) (.ref Ch) = some false
  bt : PySem.W.kitOne K (.ref Cb) (.ref Ct) = some false
/-- the word for it, and the field -/
def RfOk (Cn Ch Ct Cb C : Addr) (fl word : Str) : Prop := (C = Cn ∧ fl = "name" ∧ word = "name") ∨ (C = Ch ∧ fl = "given" ∧ word = "share") ∨ (C = Ct ∧ fl = "given" ∧ word = "salt") ∨ (C = Cb ∧ fl = "given" ∧ word = "text")
def spRf (K : PySem.W.Frag) (Cn Ch Ct Cb : Addr) : Sp := fun vs H Q _ => ∃ B a C d fl word v dat, vs = [V.ref a] ∧ Ex B H ∧ H a = some (exc (.ref C) (some d) a) ∧ H d = some (.xd [(fl, v)]) ∧ RfOk Cn Ch Ct Cb C fl word ∧ Dp K B v dat ∧ ∀ u H2, Ex H H2 → Dp K (sub H2 H B) u (.list [.str word, dat]) → Q u H2
abbrev sLRefused : Stmt := (top 49)
abbrev NLRefused : List Str := ["_law_caught"]
theorem scLRefused : FnScope NLRefused ["_law_caught"] (defScope sLRefused) := ⟨rfl, rfl, rfl, by decide +kernel, rfl, by decide +kernel, by decide +kernel⟩
theorem ok_refused {f Cn Ch Ct Cb : Addr} {fd : FuncData} (F : Fun K "_law_refused" "_law_refused" sLRefused f fd) (mi : mg "isinstance" = none) (R : RfK K mg Cn Ch Ct Cb) : FnOk P w K mg base CX0 1 f fd ["_law_caught"] (spRf K Cn Ch Ct Cb) := by
  refine F.ok scLRefused (fun vs H Q E h => ?_) (fun cdv A outer s H vs Q E hr h => ?_)
  · obtain ⟨B, a, C, d, fl, word, v, dat, rfl, _⟩ := h
    rfl
  · obtain ⟨B, a, C, d, fl, word, v, dat, rfl, b, ha, hd, ok, hv, q⟩ := h
    refine ⟨_, (pss_cons (ps_if (pt_val (pe_callB (xErr K) (by rfl) mi (by decide +kernel) (pa_cons (pv 0) (pa_cons (pe_glob (v := V.ref Cn) rfl R.gn (by rfl)) pa_nil)))) (pss_one (ps_ret (pe_lst (pa_cons pe_str (pa_cons (xErrF K (pv 0)) pa_nil))))) pss_nil) (pss_cons (ps_if (pt_not (pt_val (pe_callB (xErr K) (by rfl) mi (by decide +kernel) (pa_cons (pv 0) (pa_cons (pe_bltn (v := .ty "ValueError") (u := .type "ValueError") (by rfl) R.gv (by decide +kernel) (by rfl)) pa_nil))))) (pss_one (ps_ret (pe_lst (pa_cons pe_str pa_nil)))) pss_nil) (pss_cons (ps_if (pt_val (pe_callB (xErr K) (by rfl) mi (by decide +kernel) (pa_cons (pv 0) (pa_cons (pe_glob (v := V.ref Ch) rfl R.gh (by rfl)) pa_nil)))) (pss_one (ps_ret (pe_lst (pa_cons pe_str (pa_cons (xErrF K (pv 0)) pa_nil))))) pss_nil) (pss_cons (ps_if (pt_val (pe_callB (xErr K) (by rfl) mi (by decide +kernel) (pa_cons (pv 0) (pa_cons (pe_glob (v := V.ref Ct) rfl R.gt (by rfl)) pa_nil)))) (pss_one (ps_ret (pe_lst (pa_cons pe_str (pa_cons (xErrF K (pv 0)) pa_nil))))) pss_nil) (pss_one (ps_ret (pe_ifExp (pt_val (pe_callB (xErr K) (by rfl) mi (by decide +kernel) (pa_cons (pv 0) (pa_cons (pe_glob (v := V.ref Cb) rfl R.gb (by rfl)) pa_nil)))) (pe_lst (pa_cons pe_str (pa_cons (xErrF K (pv 0)) pa_nil))) (pe_lst (pa_cons pe_str pa_nil))))))))), ?_⟩
    have ki : ∀ c : Addr, PySem.W.kitOne K (.ref c) (.ref c) = some true := fun c => if_pos (beq_self_eq_true _)
    have fin : ∀ p, H p = none → Q (.ref p) (upd H p (.lst [.str word, v])) := fun p hp => q _ _ (Ex.new hp) (.lst (sq_of (new_at2 (Ex.refl H) hp)) (.cons (.str _) (.cons (dp_up hv (le_sub b (Ex.new hp))) .nil)))
    rcases ok with ⟨rfl, rfl, rfl⟩ | ⟨rfl, rfl, rfl⟩ | ⟨rfl, rfl, rfl⟩ | ⟨rfl, rfl, rfl⟩
    · refine ⟨.ref a, rfl, a, C, d, _, .ref C, .ref C, true, rfl, .own C, ha, R.xn, hd, ki _, true, rfl, ?_⟩
      refine (if_pos rfl).mpr ?_
      exact ⟨.ref a, rfl, a, C, d, _, v, rfl, ha, R.xn, R.nn, hd, rfl, by show 2 ≤ sizeLine; decide, fun p hp => fin p hp⟩
    · refine ⟨.ref a, rfl, a, C, d, _, .ref Cn, .ref Cn, false, rfl, .own Cn, ha, R.xh, hd, R.hn, false, rfl, ?_⟩
      refine (if_neg Bool.false_ne_true).mpr ?_
      refine ⟨.ref a, rfl, a, C, d, _, .ty "ValueError", .type "ValueError", true, rfl, .ty _, ha, R.xh, hd, R.hv, true, rfl, ?_⟩
      refine (if_neg Bool.false_ne_true).mpr ?_
      refine ⟨.ref a, rfl, a, C, d, _, .ref C, .ref C, true, rfl, .own C, ha, R.xh, hd, ki _, true, rfl, ?_⟩
      refine (if_pos rfl).mpr ?_
      exact ⟨.ref a, rfl, a, C, d, _, v, rfl, ha, R.xh, R.nh, hd, rfl, by show 2 ≤ sizeLine; decide, fun p hp => fin p hp⟩
    · refine ⟨.ref a, rfl, a, C, d, _, .ref Cn, .ref Cn, false, rfl, .own Cn, ha, R.xt, hd, R.tn, false, rfl, ?_⟩
      refine (if_neg Bool.false_ne_true).mpr ?_
      refine ⟨.ref a, rfl, a, C, d, _, .ty "ValueError", .type "ValueError", true, rfl, .ty _, ha, R.xt, hd, R.tv, true, rfl, ?_⟩
      refine (if_neg Bool.false_ne_true).mpr ?_
      refine ⟨.ref a, rfl, a, C, d, _, .ref Ch, .ref Ch, false, rfl, .own Ch, ha, R.xt, hd, R.th, false, rfl, ?_⟩
      refine (if_neg Bool.false_ne_true).mpr ?_
      refine ⟨.ref a, rfl, a, C, d, _, .ref C, .ref C, true, rfl, .own C, ha, R.xt, hd, ki _, true, rfl, ?_⟩
      refine (if_pos rfl).mpr ?_
      exact ⟨.ref a, rfl, a, C, d, _, v, rfl, ha, R.xt, R.nt, hd, rfl, by show 2 ≤ sizeLine; decide, fun p hp => fin p hp⟩
    · refine ⟨.ref a, rfl, a, C, d, _, .ref Cn, .ref Cn, false, rfl, .own Cn, ha, R.xb, hd, R.bn, false, rfl, ?_⟩
      refine (if_neg Bool.false_ne_true).mpr ?_
      refine ⟨.ref a, rfl, a, C, d, _, .ty "ValueError", .type "ValueError", true, rfl, .ty _, ha, R.xb, hd, R.bv, true, rfl, ?_⟩
      refine (if_neg Bool.false_ne_true).mpr ?_
      refine ⟨.ref a, rfl, a, C, d, _, .ref Ch, .ref Ch, false, rfl, .own Ch, ha, R.xb, hd, R.bh, false, rfl, ?_⟩
      refine (if_neg Bool.false_ne_true).mpr ?_
      refine ⟨.ref a, rfl, a, C, d, _, .ref Ct, .ref Ct, false, rfl, .own Ct, ha, R.xb, hd, R.bt, false, rfl, ?_⟩
      refine (if_neg Bool.false_ne_true).mpr ?_
      refine ⟨.ref a, rfl, a, C, d, _, .ref C, .ref C, true, rfl, .own C, ha, R.xb, hd, ki _, true, rfl, ?_⟩
      refine (if_pos rfl).mpr ?_
      exact ⟨.ref a, rfl, a, C, d, _, v, rfl, ha, R.xb, R.nb, hd, rfl, by show 2 ≤ sizeLine; decide, fun p hp => fin p hp⟩
end
end S5

set_option Elab.async false
set_option linter.all false
set_option maxRecDepth 100000
/-! C(e, .., k = v) where what is raised is wished for at the caller's slots. -/
namespace ZT
open PySem PySem.Spec PyProof.Rows L2
section
variable {X : Cx} {CX : CXT} {k n : Nat} {f C : Addr} {fd : FuncData} {ps ks : List Str} {sp : Sp} {E : L2.St → XK} {x : Str} {p pos : Pos} {e : Expr} {es : List Expr} {kws : List Keyword} {t tk : TA} {g : List Value → List Value → List Value} {gV : List V → List V → List V}
theorem run_makeKS {pins : List (Addr × Obj)} {σ : L2.St} {H : Hp} {s : Shared} {Q : VK} {us ws : List Value} {vs zs : List V} (M : Mk X.K C f) (F : FnOk X.prog X.w X.K X.mg X.base CX k f fd ps sp) (hr : Room (k + 1) X.A) (hb : KBn X.K fd ps (n + 1) ks g gV) (hx : PassesAt CX X σ (E σ))
    (I : Inv X pins σ H s) (r : Vals vs us) (rz : Vals zs ws) (l1 : vs.length = n) (l2 : zs.length = ks.length)
    (h : ∀ x dx, H x = none → H dx = none → dx ≠ x → sp (gV (.ref x :: vs) zs) (upd (upd H dx (.own x)) x (.ins C dx [])) (fun v H2 => v = .non ∧ Q (.ref x) H2) (E σ)) :
    wpAny (model X.prog X.w) X.A (call (.ref C) us (ks.zip ws)) (EP X pins σ Q) X.xe s := by
  have hq := h (s.heap.objs.size + 1) s.heap.objs.size (I.hok.fresh (Nat.le_succ _)) (I.hok.fresh (Nat.le_refl _)) (Nat.ne_of_lt (Nat.lt_succ_self _))
  have J := Inv.made (C := C) I
  have rr := hb.rel (show Vals (V.ref (s.heap.objs.size + 1) :: vs) (Value.ref (s.heap.objs.size + 1) :: us) from .cons rfl r) rz
  have nn : (Value.ref (s.heap.objs.size + 1) :: us).length = n + 1 := by
    rw [List.length_cons, ← r.length, l1]
  refine wpAny_call (make_map (f := f) I.kIn M.makes M.init (beq_iff_eq.mp M.fn) (codeAny_mono (F.run _ X.stack _ _ ⟨_, ks.zip ws⟩ (g (Value.ref (s.heap.objs.size + 1) :: us) ws) _ _ (E σ) (hr.make C us (ks.zip ws)) (J.env0.make C us (ks.zip ws)) (hb.to _ _ ws J.kIn nn (rz.length.symm.trans l2)) rr hq) fun o s' ho => ?_))
  cases o with
  | error e => exact hx pins _ _ e s' J ho
  | ok fl =>
    cases fl with
    | ret u =>
      obtain ⟨v, H', J3, rv, ev, q3⟩ := J.after ho
      subst ev
      exact ⟨rv, ⟨V.ref (s.heap.objs.size + 1), H', J3, rfl, q3⟩⟩
    | next => exact False.elim ho
    | brk => exact False.elim ho
    | cont => exact False.elim ho
def tMakeKS (C : Addr) (n m : Nat) (sp : Sp) (gV : List V → List V → List V) (E : L2.St → XK) (t tk : TA) : TE := fun σ H Q => tMakeK C n m sp gV (E σ) t tk σ H Q
theorem pe_makeKS (M : Mk X.K C f) (F : FnOk X.prog X.w X.K X.mg X.base CX k f fd ps sp) (hr : Room (k + 1) X.A) (hg : Gl X x) (hm : X.mg x = some (.ref C)) (hb : KBn X.K fd ps (n + 1) ks g gV) (hx : ∀ σ, PassesAt CX X σ (E σ)) (ha : PA X (e :: es) t) (hkw : PK X kws tk)
    (hall : (backToKw pos (keywordEach kws X.env)).all (·.1.isSome) = true := by rfl) (hks : (backToKw pos (keywordEach kws X.env)).filterMap (·.1) = ks := by rfl) (hdb : (x == ("__debug__" : Str)) = false := by decide)
    (he : starEach (e :: es) X.env = (false, eval e X.env) :: starEach es X.env := by rfl) (hpl : ((backTo pos (starEach (e :: es) X.env)).any (·.1) || (backToKw pos (keywordEach kws X.env)).any (·.1.isNone)) = false := by rfl) :
    PE X (.Call (.Name x p) (e :: es) kws pos) (tMakeKS C n ks.length sp gV E t tk) := by
  refine ⟨fun pins s σ H Q I h => wpAny_Call_Name_kw (ld_glob I hg hm ?_ hdb)⟩
  refine PySem.W.callWith_KW (h₀ := X.base) I.ok.mod.kin M.kp hall (thn (ha.run pos pins s σ H _ I h) fun us s1 ⟨vs, H1, I1, r, q⟩ => ?_) hpl he
  refine thn (hkw.run pos pins s1 σ H1 _ I1 q) fun ws s2 ⟨zs, H2, I2, rz, l1, l2, q2⟩ => ⟨I2.kIn, ?_⟩
  rw [hks]
  exact run_makeKS M F hr hb (hx σ) I2 r rz l1 l2 q2
end
end ZT

set_option Elab.async false
set_option linter.all false
set_option maxRecDepth 100000
namespace S5
open PySem PySem.Spec PyProof.Rows L2 Evl ZE ZS StX ZD RZ ZT ZX TL
section
variable {P : Program} {w : World} {K : PySem.W.Frag} {mg : Str → Option Value} {base : Heap} {aI : Addr}
/-! ### heard -/
structure Cs5 (K : PySem.W.Frag) (mg : Str → Option Value) (Cn Ch Ct Cb Cm : Addr) : Prop where
  gm : mg "MixedKeys" = some (.ref Cm)
  xn : PySem.W.exmAny K (.ref Cn) [.ref Ct, .ref Cb, .ref Ch, .ref Cm, .ref Cn] = some true
  xh : PySem.W.exmAny K (.ref Ch) [.ref Ct, .ref Cb, .ref Ch, .ref Cm, .ref Cn] = some true
  xt : PySem.W.exmAny K (.ref Ct) [.ref Ct, .ref Cb, .ref Ch, .ref Cm, .ref Cn] = some true
  xb : PySem.W.exmAny K (.ref Cb) [.ref Ct, .ref Cb, .ref Ch, .ref Cm, .ref Cn] = some true
structure OfS (P : Program) (w : World) (K : PySem.W.Frag) (mg : Str → Option Value) (base : Heap) (Cs C Cb Cn Ch Ct : Addr) (mc : Value) (p g : Addr) (fd : FuncData) : Prop where
  r : ClX.CRead K Cs mc
  s : SMet K Cs mc "of" p g
  G : FnOk P w K mg base (L2.CX P w) 8 g fd ["keys", "text"] (spSof K Cs C Cb Cn Ch Ct)
  b : Binds K fd ["keys", "text"] []
structure PrS (P : Program) (w : World) (K : PySem.W.Frag) (mg : Str → Option Value) (base : Heap) (C : Addr) (k : Nat) (nm : Str) (sp : Sp) (p g : Addr) (fd : FuncData) : Prop where
  po : PropOf K C nm p g
  G : FnOk P w K mg base CX0 k g fd ["self"] sp
  b : Binds K fd ["self"] []
/-- what a Sampler of these parts, or the want of one, gives -/
def outS (xs : List Str) (ps : List (Str × Str)) (ns : List Str) (n d : Int) (salt : Str) : PyData := match outF (xs ++ (["#"] : List Str)) ns with
  | some y => .list [.str "name", .str y]
  | none => if shB n d = true then (if saltF salt = true then .str (smT (closeF xs ps ns) n.toNat d.toNat salt) else .list [.str "salt", .str salt]) else .list [.str "share", rtD n d]
/-- the text of such a Sampler is short enough -/
structure TxOk (ks : List Str) (n d : Int) : Prop where
  n0 : n.toNat < 10 ^ 100
  d0 : d.toNat < 10 ^ 100
  s1 : (ks.map (·.length)).sum ≤ 1000
  s2 : ks.length ≤ 60
  s3 : (Txt.join "+" ks).length ≤ 1000
theorem sh_nat {n d : Int} (h : shB n d = true) : n = (n.toNat : Int) ∧ d = (d.toNat : Int) := by
  obtain ⟨h1, _⟩ := Bool.and_eq_true_iff.mp h
  obtain ⟨h1, h2⟩ := Bool.and_eq_true_iff.mp h1
  have := of_decide_eq_true h1
  have := of_decide_eq_true h2
  exact ⟨(Int.toNat_of_nonneg (by omega)).symm, (Int.toNat_of_nonneg (by omega)).symm⟩
theorem outS_nm {xs : List Str} {ps : List (Str × Str)} {ns : List Str} {n d : Int} {salt y : Str} (h : outF (xs ++ (["#"] : List Str)) ns = some y) : outS xs ps ns n d salt = .list [.str "name", .str y] := by unfold outS; rw [h]
theorem outS_sh {xs : List Str} {ps : List (Str × Str)} {ns : List Str} {n d : Int} {salt : Str} (h : outF (xs ++ (["#"] : List Str)) ns = none) (h2 : shB n d = false) : outS xs ps ns n d salt = .list [.str "share", rtD n d] := by
  unfold outS
  rw [h]
  exact if_neg (by rw [h2]; exact Bool.false_ne_true)
theorem outS_st {xs : List Str} {ps : List (Str × Str)} {ns : List Str} {n d : Int} {salt : Str} (h : outF (xs ++ (["#"] : List Str)) ns = none) (h2 : shB n d = true) (h3 : saltF salt = false) : outS xs ps ns n d salt = .list [.str "salt", .str salt] := by
  unfold outS
  rw [h]
  exact (if_pos h2).trans (if_neg (by rw [h3]; exact Bool.false_ne_true))
theorem outS_ok {xs : List Str} {ps : List (Str × Str)} {ns : List Str} {n d : Int} {salt : Str} (h : outF (xs ++ (["#"] : List Str)) ns = none) (h2 : shB n d = true) (h3 : saltF salt = true) : outS xs ps ns n d salt = .str (smT (closeF xs ps ns) n.toNat d.toNat salt) := by
  unfold outS
  rw [h]
  exact (if_pos h2).trans (if_pos h3)
def HsOk (K : PySem.W.Frag) (C : Addr) (B : Hp) (v0 v1 v2 v3 v4 : V) (r : PyData) : Prop := ∃ a xs ps, v0 = V.ref a ∧ Ky K C B a xs ps ∧ KyOk xs ps ∧
  ((∃ x, v4 = .str x ∧ Tok' x ∧ x.length ≤ 99 ∧ (∀ y ∈ wordsF x, y.length ≤ 59) ∧ ((spF x = none ∧ r = .list [.str "text", .str x]) ∨ ∃ ns nd salt, spF x = some (ns, nd, salt) ∧ shB nd.1 nd.2 = true ∧ saltF salt = true ∧ Tok' salt ∧ TxOk (closeF xs ps ns) nd.1 nd.2 ∧ r = outS xs ps ns nd.1 nd.2 salt)) ∨
   (∃ A ns R n d salt, v4 = .non ∧ v3 = .str salt ∧ Dp K B v1 A ∧ Bag6 A ns ∧ v1 ≠ .non ∧ Dp K B v2 R ∧ Sq R [.int n, .int d] ∧ Tok' salt ∧ (shB n d = true → TxOk (closeF xs ps ns) n d) ∧ r = outS xs ps ns n d salt) ∨
   ∃ R n d, v4 = .non ∧ v1 = .non ∧ Dp K B v2 R ∧ Sq R [.int n, .int d] ∧ outF (xs ++ (["#"] : List Str)) ["user"] = none ∧ Bag6 (tp (closeF xs ps ["user"])) (closeF xs ps ["user"]) ∧ outF (xs ++ (["#"] : List Str)) (closeF xs ps ["user"]) = none ∧ (shB n d = true → TxOk (closeF xs ps (closeF xs ps ["user"])) n d) ∧ r = outS xs ps (closeF xs ps ["user"]) n d "x")
def spHs (K : PySem.W.Frag) (C : Addr) : Sp := fun vs H Q _ => ∃ (B : Hp) (v0 v1 v2 v3 v4 : V) (r : PyData), vs = [v0, v1, v2, v3, v4] ∧ Ex B H ∧ HsOk K C B v0 v1 v2 v3 v4 r ∧ ∀ u H2, Ex H H2 → Dp K (sub H2 H B) u r → Q u H2
abbrev sLHeard : Stmt := (top 50)
abbrev NLHeard : List Str := ["_law_keyring", "_law_bag", "_law_rate_so", "_law_salt_so", "_law_flat", "_law_caught", "_law_found", "error"]
theorem scLHeard : FnScope NLHeard ["_law_keyring", "_law_bag", "_law_rate_so", "_law_salt_so", "_law_flat"] (defScope sLHeard) := ⟨rfl, rfl, rfl, by decide +kernel, rfl, by decide +kernel, by decide +kernel⟩
set_option maxHeartbeats 0 in
theorem ok_heard {f Cs C Cn Ch Ct Cb Cm fi po go pt gt fa fr : Addr} {fd fdi fdo fdt fda fdr : FuncData} {mc : Value} (F : Fun K "_law_heard" "_law_heard" sLHeard f fd) (S : Sc K Cs) (Ca : Cs5 K mg Cn Ch Ct Cb Cm) (R : RfK K mg Cn Ch Ct Cb) (MS : MkS P w K mg base Cs C Cn Ch Ct fi fdi) (OS : OfS P w K mg base Cs C Cb Cn Ch Ct mc po go fdo) (PT : PrS P w K mg base Cs 2 "text" (spSm K Cs C smtP) pt gt fdt)
    (Mat : MeK P w K mg base (L2.CX P w) Cs 8 "at" ["self", "rate"] (spAt K Cs C Cn Ch Ct) fa fda) (C_law_refused : Cal P w K mg base 1 "_law_refused" ["_law_caught"] (spRf K Cn Ch Ct Cb) fr fdr) : FnOk P w K mg base CX0 9 f fd ["_law_keyring", "_law_bag", "_law_rate_so", "_law_salt_so", "_law_flat"] (spHs K C) := by
  refine F.ok scLHeard (fun vs H Q E h => ?_) (fun cdv A outer s H vs Q E hr h => ?_)
  · obtain ⟨B, v0, v1, v2, v3, v4, r, rfl, _⟩ := h
    rfl
  · obtain ⟨B, v0, v1, v2, v3, v4, r, rfl, b, ⟨a, xs, ps, rfl, ky, kok, ok⟩, q⟩ := h
    refine ⟨_, (pss_cons (ps_asg (pe_tup (pa_cons pe_non (pa_cons pe_non pa_nil))) (xTup K 2 rfl (pgs_cons (pg_name (i := 5) scLHeard.nd rfl (by first | exact .inl rfl | exact .inr rfl)) (pgs_cons (pg_name (i := 6) scLHeard.nd rfl (by first | exact .inl rfl | exact .inr rfl)) pgs_nil)))) (pss_cons (ps_try_cls (i := 7) rfl rfl rfl scLHeard.nd rfl rfl takes0 (fun W pn xe tk _ => pss_one (ps_if (pt_cmpR op_notN (pv 4) pe_non (nomark _)) (pss_one (ps_set (i := 6) scLHeard.nd rfl (by first | exact .inl rfl | exact .inr rfl) (pe_propX S.cl PT.po PT.G (hr.mono (by decide)) PT.b .nil pass0 (pe_smeth (pe_glob (v := V.ref Cs) (by rfl) MS.m (by rfl)) OS.r OS.s OS.G (hr.mono (by decide)) OS.b .nil (fun σ => passAt tk σ) (pa_cons (pv 0) (pa_cons (pv 4) pa_nil))) rfl))) (pss_one (ps_if (pt_cmpR op_isN (pv 1) pe_non (nomark _)) (pss_one (ps_set (i := 6) scLHeard.nd rfl (by first | exact .inl rfl | exact .inr rfl) (pe_propX S.cl PT.po PT.G (hr.mono (by decide)) PT.b .nil pass0 (pe_methS (pe_makeKS MS.M MS.G (hr.mono (by decide)) (by rfl) MS.m MS.b4 (fun σ => passAt tk σ) (pa_cons (pv 0) (pa_cons (pe_tup (pa_cons pe_str pa_nil)) (pa_cons (pe_tup (pa_cons pe_int (pa_cons pe_int pa_nil))) pa_nil))) (pk_cons pe_str pk_nil)) S.cl Mat.m Mat.G (hr.mono (by decide)) Mat.b .nil (fun σ => passAt tk σ) (pa_cons (pv 2) pa_nil)) rfl))) (pss_one (ps_set (i := 6) scLHeard.nd rfl (by first | exact .inl rfl | exact .inr rfl) (pe_propX S.cl PT.po PT.G (hr.mono (by decide)) PT.b .nil pass0 (pe_makeKS MS.M MS.G (hr.mono (by decide)) (by rfl) MS.m MS.b4 (fun σ => passAt tk σ) (pa_cons (pv 0) (pa_cons (pv 1) (pa_cons (pv 2) pa_nil))) (pk_cons (pv 3) pk_nil)) rfl))))))) (fun a pn => pss_one (ps_set (i := 5) scLHeard.nd rfl (by first | exact .inl rfl | exact .inr rfl) (pv 7)))) (pss_one (ps_ret (pe_ifExp (pt_cmpR op_isN (pv 5) pe_non (nomark _)) (pv 6) (pe_call C_law_refused.G (hr.mono (by decide)) (by rfl) C_law_refused.m C_law_refused.kp C_law_refused.b .nil pass0 (pa_cons (pv 5) pa_nil))))))), ?_⟩
    refine g_tup2 (K := K) ed_non ed_non b fun n1 n2 H2 e2 h1 h2 => ?_
    cases h1
    cases h2
    have b2 := b.trans e2
    have good : ∀ {ks : List Str} {n d : Int} {salt : Str} {p : Addr} {H3 H1 : Hp} {Q2 : VK}, shB n d = true → TxOk ks n d → Tok' salt → Sm K Cs C (sub H3 H1 B) p a xs ps ks n d salt → (∀ H4, Ex H3 H4 → Q2 (.str (smT ks n.toNat d.toNat salt)) H4) → ∃ (p' : Addr) (dx : Addr) (fs : List (Str × V)), V.ref p = .ref p' ∧ H3 p' = some (.ins Cs dx fs) ∧ spSm K Cs C smtP (.ref p' :: []) H3 Q2 E0 := fun {ks n d salt p H3 H1 Q2} hs tx ts sm q2 => by
      obtain ⟨dx, fs, vk, vr, h1, _⟩ := sm.ex
      exact ⟨p, dx, fs, rfl, sub_le p _ h1, sub H3 H1 B, p, a, [], xs, ps, ks, n, d, salt, [], _, rfl, sub_le, sm, .nil, ⟨n.toNat, d.toNat, (sh_nat hs).1, (sh_nat hs).2, tx.n0, tx.d0, rfl, tx.s1, tx.s2, tx.s3, ts, rfl⟩, fun v H4 e4 hv => by cases hv; exact q2 H4 e4⟩
    rcases ok with ⟨x, rfl, tx, lx, l59, how⟩ | ⟨A1, ns, R1, n, d, salt, rfl, rfl, hA, bag, nb1, hR, sq, ts, txt, rfl⟩ | ⟨R1, n, d, rfl, rfl, hR, sq, ou, bag, ou2, txt, rfl⟩
    · -- a text
      refine ⟨.str x, rfl, rfl, true, rfl, (if_pos rfl).mpr ?_⟩
      rcases how with ⟨hn, rfl⟩ | ⟨ns, nd, salt, hs0, hs, ht, ts, txt, rfl⟩
      · refine ⟨rfl, .ref a, rfl, .str x, rfl, B, a, x, xs, ps, rfl, b2, ky, kok, tx, lx, l59, fun _ d' H3 e3 hd hx => ?_, fun ns nd salt hs => by rw [hn] at hs; cases hs⟩
        refine ⟨true, clause5 ⟨rfl, rfl, .inl R.gt⟩ ⟨rfl, rfl, .inl R.gb⟩ ⟨rfl, rfl, .inl R.gh⟩ ⟨rfl, rfl, .inl Ca.gm⟩ ⟨rfl, rfl, .inl R.gn⟩ Ca.xb, fun _ z hz => ?_, fun z => nomatch z⟩
        have nz : d' ≠ z := ne_of_none hx hz
        have dz : (upd H3 z (exc (.ref Cb) (some d') z)) d' = some (.xd [("given", V.str x)]) := by rw [upd_ne nz]; exact hx
        have eH : Ex H (upd H3 z (exc (.ref Cb) (some d') z)) := (e2.trans e3).trans (Ex.new hz)
        refine ⟨.ref z, rfl, ?_⟩
        refine ⟨.ref z, rfl, rfl, false, rfl, (if_neg Bool.false_ne_true).mpr ?_⟩
        skip
        exact ⟨.ref z, rfl, sub (upd H3 z (exc (.ref Cb) (some d') z)) H B, z, Cb, d', "given", "text", V.str x, .str x, rfl, sub_le, upd_same, dz, .inr (.inr (.inr ⟨rfl, rfl, rfl⟩)), (.str _), fun u H4 e4 hu => q u H4 (eH.trans e4) (dp_up hu (later eH))⟩
      · refine ⟨rfl, .ref a, rfl, .str x, rfl, B, a, x, xs, ps, rfl, b2, ky, kok, tx, lx, l59, (fun hn => by rw [hn] at hs0; cases hs0), fun ns' nd' salt' hs1 => ?_⟩
        rw [hs0] at hs1
        injection hs1 with hs1
        injection hs1 with z1 hs1
        injection hs1 with z2 z3
        subst z1 z2 z3
        refine ⟨fun y hy d' H3 e3 hd hx => ?_, fun _ h => (by rw [hs] at h; cases h), fun _ _ h => (by rw [ht] at h; cases h), fun hn _ _ p H3 e3 sm => ?_⟩
        · refine ⟨true, clause5 ⟨rfl, rfl, .inl R.gt⟩ ⟨rfl, rfl, .inl R.gb⟩ ⟨rfl, rfl, .inl R.gh⟩ ⟨rfl, rfl, .inl Ca.gm⟩ ⟨rfl, rfl, .inl R.gn⟩ Ca.xn, fun _ z hz => ?_, fun z => nomatch z⟩
          have nz : d' ≠ z := ne_of_none hx hz
          have dz : (upd H3 z (exc (.ref Cn) (some d') z)) d' = some (.xd [("name", V.str y)]) := by rw [upd_ne nz]; exact hx
          have eH : Ex H (upd H3 z (exc (.ref Cn) (some d') z)) := (e2.trans e3).trans (Ex.new hz)
          refine ⟨.ref z, rfl, ?_⟩
          refine ⟨.ref z, rfl, rfl, false, rfl, (if_neg Bool.false_ne_true).mpr ?_⟩
          have er : outS xs ps ns nd.1 nd.2 salt = .list [.str "name", .str y] := outS_nm hy
          rw [er] at q
          exact ⟨.ref z, rfl, sub (upd H3 z (exc (.ref Cn) (some d') z)) H B, z, Cn, d', "name", "name", V.str y, .str y, rfl, sub_le, upd_same, dz, .inl ⟨rfl, rfl, rfl⟩, (.str _), fun u H4 e4 hu => q u H4 (eH.trans e4) (dp_up hu (later eH))⟩
        · have er := outS_ok (ps := ps) (salt := salt) hn hs ht
          rw [er] at q
          refine good hs txt ts sm fun H4 e4 => ?_
          exact ⟨.non, rfl, rfl, true, rfl, (if_pos rfl).mpr ⟨_, rfl, q _ H4 ((e2.trans e3).trans e4) (.str _)⟩⟩
    · -- its parts
      refine ⟨.non, rfl, rfl, false, rfl, (if_neg Bool.false_ne_true).mpr ?_⟩
      refine ⟨v1, rfl, rfl, false, by rw [decide_eq_false nb1], (if_neg Bool.false_ne_true).mpr ?_⟩
      refine ⟨.ref a, rfl, v1, rfl, v2, rfl, .str salt, rfl, rfl, rfl, mkSa (At.start b2 (Ex.refl H2)) ky kok hA bag hR sq ts (fun y hy d' H3 e3 hd hx => ?_) (fun hn hs d' gv H3 e3 hd hx hv => ?_) (fun hn hs ht d' H3 e3 hd hx => ?_) fun hn hs ht p H3 e3 sm => ?_⟩
      · refine ⟨true, clause5 ⟨rfl, rfl, .inl R.gt⟩ ⟨rfl, rfl, .inl R.gb⟩ ⟨rfl, rfl, .inl R.gh⟩ ⟨rfl, rfl, .inl Ca.gm⟩ ⟨rfl, rfl, .inl R.gn⟩ Ca.xn, fun _ z hz => ?_, fun z => nomatch z⟩
        have nz : d' ≠ z := ne_of_none hx hz
        have dz : (upd H3 z (exc (.ref Cn) (some d') z)) d' = some (.xd [("name", V.str y)]) := by rw [upd_ne nz]; exact hx
        have eH : Ex H (upd H3 z (exc (.ref Cn) (some d') z)) := (e2.trans e3).trans (Ex.new hz)
        refine ⟨.ref z, rfl, ?_⟩
        refine ⟨.ref z, rfl, rfl, false, rfl, (if_neg Bool.false_ne_true).mpr ?_⟩
        have er : outS xs ps ns n d salt = .list [.str "name", .str y] := outS_nm hy
        rw [er] at q
        exact ⟨.ref z, rfl, sub (upd H3 z (exc (.ref Cn) (some d') z)) H B, z, Cn, d', "name", "name", V.str y, .str y, rfl, sub_le, upd_same, dz, .inl ⟨rfl, rfl, rfl⟩, (.str _), fun u H4 e4 hu => q u H4 (eH.trans e4) (dp_up hu (later eH))⟩
      · refine ⟨true, clause5 ⟨rfl, rfl, .inl R.gt⟩ ⟨rfl, rfl, .inl R.gb⟩ ⟨rfl, rfl, .inl R.gh⟩ ⟨rfl, rfl, .inl Ca.gm⟩ ⟨rfl, rfl, .inl R.gn⟩ Ca.xh, fun _ z hz => ?_, fun z => nomatch z⟩
        have nz : d' ≠ z := ne_of_none hx hz
        have dz : (upd H3 z (exc (.ref Ch) (some d') z)) d' = some (.xd [("given", gv)]) := by rw [upd_ne nz]; exact hx
        have eH : Ex H (upd H3 z (exc (.ref Ch) (some d') z)) := (e2.trans e3).trans (Ex.new hz)
        refine ⟨.ref z, rfl, ?_⟩
        refine ⟨.ref z, rfl, rfl, false, rfl, (if_neg Bool.false_ne_true).mpr ?_⟩
        have er : outS xs ps ns n d salt = .list [.str "share", rtD n d] := outS_sh hn hs
        rw [er] at q
        exact ⟨.ref z, rfl, sub (upd H3 z (exc (.ref Ch) (some d') z)) H B, z, Ch, d', "given", "share", gv, rtD n d, rfl, sub_le, upd_same, dz, .inr (.inl ⟨rfl, rfl, rfl⟩), (dp_up (dp_up hv (sub_step e2)) (sub_mono (Ex.new hz))), fun u H4 e4 hu => q u H4 (eH.trans e4) (dp_up hu (later eH))⟩
      · refine ⟨true, clause5 ⟨rfl, rfl, .inl R.gt⟩ ⟨rfl, rfl, .inl R.gb⟩ ⟨rfl, rfl, .inl R.gh⟩ ⟨rfl, rfl, .inl Ca.gm⟩ ⟨rfl, rfl, .inl R.gn⟩ Ca.xt, fun _ z hz => ?_, fun z => nomatch z⟩
        have nz : d' ≠ z := ne_of_none hx hz
        have dz : (upd H3 z (exc (.ref Ct) (some d') z)) d' = some (.xd [("given", V.str salt)]) := by rw [upd_ne nz]; exact hx
        have eH : Ex H (upd H3 z (exc (.ref Ct) (some d') z)) := (e2.trans e3).trans (Ex.new hz)
        refine ⟨.ref z, rfl, ?_⟩
        refine ⟨.ref z, rfl, rfl, false, rfl, (if_neg Bool.false_ne_true).mpr ?_⟩
        have er : outS xs ps ns n d salt = .list [.str "salt", .str salt] := outS_st hn hs ht
        rw [er] at q
        exact ⟨.ref z, rfl, sub (upd H3 z (exc (.ref Ct) (some d') z)) H B, z, Ct, d', "given", "salt", V.str salt, .str salt, rfl, sub_le, upd_same, dz, .inr (.inr (.inl ⟨rfl, rfl, rfl⟩)), (.str _), fun u H4 e4 hu => q u H4 (eH.trans e4) (dp_up hu (later eH))⟩
      · have er := outS_ok (ps := ps) (salt := salt) hn hs ht
        rw [er] at q
        refine good hs (txt hs) ts sm fun H4 e4 => ?_
        exact ⟨.non, rfl, rfl, true, rfl, (if_pos rfl).mpr ⟨_, rfl, q _ H4 ((e2.trans e3).trans e4) (.str _)⟩⟩
    · -- at
      refine ⟨.non, rfl, rfl, false, rfl, (if_neg Bool.false_ne_true).mpr ?_⟩
      refine ⟨.non, rfl, rfl, true, rfl, (if_pos rfl).mpr ?_⟩
      have s12 : shB 1 2 = true := by decide +kernel
      have sx : saltF "x" = true := by decide +kernel
      have tx : Tok' "x" := ⟨by decide +kernel, by decide⟩
      have okU : Oks [("user" : Str)] := fun y m => by
        rw [List.mem_singleton.mp m]
        decide +kernel
      refine ⟨.ref a, rfl, ?_⟩
      refine (ed_tup (K := K) (B := B) (ds := [.str "user"]) (ea_consD (ed_str _) ea_nilD) (by show 1 ≤ 100000; decide)) H2 b2 _ fun w1 H3 e3 hw1 => ?_
      have a3 := (At.start b2 (Ex.refl H2)).next e3
      have u3 := le_sub b2 e3
      refine (ed_tup (K := K) (ds := [.int 1, .int 2]) (ea_consD (ed_int _) (ea_consD (ed_int _) ea_nilD)) (by show 2 ≤ 100000; decide)) H3 a3.b _ fun w2 H4 e4 hw2 => ?_
      have a4 := a3.next e4
      have u4 := le_sub a3.b e4
      refine ⟨rfl, rfl, mkSa a4 (ky.up (u3.trans u4)) kok (A := tp ["user"]) (dp_up hw1 u4) ⟨.inr rfl, okU, by decide⟩ hw2 (.inr rfl) tx (fun y hy => (by rw [ou] at hy; cases hy)) (fun _ h => (by rw [s12] at h; cases h)) (fun _ _ h => (by rw [sx] at h; cases h)) fun _ _ _ p H5 e5 sm => ?_⟩
      have sm' := sm
      obtain ⟨dx, fs, vk, vr, h1, l1, l2, l3, l4, l5, _⟩ := sm'.ex
      refine ⟨p, dx, fs, rfl, sub_le p _ h1, l5 "at" (by decide +kernel) (by decide +kernel) (by decide +kernel) (by decide +kernel), v2, rfl, sub H5 H2 B, p, a, v2, xs, ps, closeF xs ps ["user"], 1, 2, "x", R1, n, d, rfl, sub_le, sm, kok, bag, tx, dp_up hR (le_sub b2 e5), sq, ⟨fun y hy => (by rw [ou2] at hy; cases hy), fun hn hs d' gv H3 e3 hd hx hv => ?_, fun _ _ h => (by rw [sx] at h; cases h), fun hn hs ht p6 H6 e6 sm6 => ?_⟩⟩
      · refine ⟨true, clause5 ⟨rfl, rfl, .inl R.gt⟩ ⟨rfl, rfl, .inl R.gb⟩ ⟨rfl, rfl, .inl R.gh⟩ ⟨rfl, rfl, .inl Ca.gm⟩ ⟨rfl, rfl, .inl R.gn⟩ Ca.xh, fun _ z hz => ?_, fun z => nomatch z⟩
        have nz : d' ≠ z := ne_of_none hx hz
        have dz : (upd H3 z (exc (.ref Ch) (some d') z)) d' = some (.xd [("given", gv)]) := by rw [upd_ne nz]; exact hx
        have eH : Ex H (upd H3 z (exc (.ref Ch) (some d') z)) := ((e2.trans e5).trans e3).trans (Ex.new hz)
        refine ⟨.ref z, rfl, ?_⟩
        refine ⟨.ref z, rfl, rfl, false, rfl, (if_neg Bool.false_ne_true).mpr ?_⟩
        have er : outS xs ps (closeF xs ps ["user"]) n d "x" = .list [.str "share", rtD n d] := outS_sh hn hs
        rw [er] at q
        exact ⟨.ref z, rfl, sub (upd H3 z (exc (.ref Ch) (some d') z)) H B, z, Ch, d', "given", "share", gv, rtD n d, rfl, sub_le, upd_same, dz, .inr (.inl ⟨rfl, rfl, rfl⟩), (dp_up (dp_up (dp_up hv (later e5)) (sub_step e2)) (sub_mono (Ex.new hz))), fun u H4 e4 hu => q u H4 (eH.trans e4) (dp_up hu (later eH))⟩
      · have er := outS_ok (ps := ps) (salt := "x") hn hs ht
        rw [er] at q
        refine good (H1 := H2) hs (txt hs) tx (sm6.up (later e5)) fun H7 e7 => ?_
        exact ⟨.non, rfl, rfl, true, rfl, (if_pos rfl).mpr ⟨_, rfl, q _ H7 (((e2.trans e5).trans e6).trans e7) (.str _)⟩⟩
end
end S5

set_option Elab.async false
set_option linter.all false
set_option maxRecDepth 100000
namespace S5
open PySem PySem.Spec PyProof.Rows L2 Evl ZE ZS StX ZD RZ ZT ZX TL
section
variable {P : Program} {w : World} {K : PySem.W.Frag} {mg : Str → Option Value} {base : Heap} {aI : Addr}
/-! ### rows -/
theorem urn_more {H : Hp} {u : Addr} {n m : Nat} (h : Urn H u n) (l : n ≤ m) : Urn H u m := by
  obtain ⟨x, y, z, h1, h2, h3, h4, h5, h6⟩ := h
  exact ⟨x, y, z, h1, h2, h3, h4, h5, by omega⟩
def takeR (low : Nat) (d : PyData) : Prop := ∃ r : Nat, d = .int r ∧ r < low
theorem eu_take {σ : L2.St} {B : Hp} {u : Addr} {i : Nat} {low : Nat} {E : XK} (bu : B u = none) (hi : σ[i]? = some (some (V.ref u))) (l1 : 1 ≤ low) (l2 : low ≤ 1000) : EvU K (tCall (spU K tkP) [] E (tCons (tVar i) (tCons (tC (.int (low : Int))) tNil))) σ B u (takeR low) 1 :=
  eu_call bu hi (ea_consD (ed_int _) ea_nilD) ⟨low, rfl, l1, l2, rfl, rfl⟩
theorem l_forR {σ : L2.St} {H : Hp} {te : TE} {g : TG} {tb : TS} {D : Ends} (h : te σ H fun x H1 => tFor (iRng1 (tCons (tC x) tNil)) g tb D σ H1) : tFor (iRng1 (tCons te tNil)) g tb D σ H := h
theorem eu_if {σ : L2.St} {B : Hp} {u : Addr} {tt : TT} {ta tb : TE} {R : PyData → Prop} {c1 c2 : Nat} (bu : B u = none) (ht : EvUT tt σ B u (fun _ => True) c1) (h1 : EvU K ta σ B u R c2) (h2 : EvU K tb σ B u R c2) : EvU K (tIf tt ta tb) σ B u R (c1 + c2) := fun H n b un few Q q => ht H n b un (by omega) _ fun cc H2 m _ e un2 l2 => by
  have a2 := (At.start b (del_le (p := u))).urn' del_at bu e un2.some
  have fin : ∀ d v H3 m3, R d → Ex (ZE.del H2 u) H3 → Dp K (sub H3 H2 B) v d → Urn H3 u m3 → m3 ≤ m + c2 → Q v H3 := fun d v H3 m3 hr e3 hv un3 l3 => by
    have a3 := a2.urn del_at bu e3 un3.some
    refine q d v H3 m3 hr a3.ex (dp_up hv fun x o z => ?_) un3 (by omega)
    by_cases c : (H x).isSome = true ∧ B x = none
    · rw [sub_no ⟨a2.dm x c.1, c.2⟩] at z
      cases z
    · rw [sub_yes c]
      exact sub_le x o z
  cases cc with
  | true => exact (if_pos rfl).mpr (h1 H2 m a2.b un2 (by omega) Q fin)
  | false => exact (if_neg Bool.false_ne_true).mpr (h2 H2 m a2.b un2 (by omega) Q fin)
def salts : List Str := ["", "", "", "x", "day", "abcdefgh"]
structure RowK (xs : List Str) (r : List Str × (Nat × Nat) × Str) : Prop where
  bag : r.1 = (["#"] : List Str) ∨ ((∀ y ∈ r.1, y ∈ xs) ∧ r.1.length ≤ xs.length)
  rate : r.2.1 ∈ rates
  salt : r.2.2 ∈ salts
def rowD (r : List Str × (Nat × Nat) × Str) : PyData := .tuple [tp r.1, shD r.2.1, .str r.2.2]
def rwP (ds : List PyData) (R : PyData → Prop) (c : Nat) : Prop := ∃ xs ts, ds = [bkD xs ts, .int 9] ∧ xs.length ≤ 5 ∧ (R = fun d => ∃ rows : List (List Str × (Nat × Nat) × Str), (∀ r ∈ rows, RowK xs r) ∧ rows.length ≤ 9 ∧ d = .list (rows.map rowD)) ∧ c = 100
abbrev sLRows : Stmt := (top 48)
abbrev NLRows : List Str := ["_law_urn", "_law_book_here", "_law_most_so", "_law_done", "_law_turn", "_law_bag"]
theorem scLRows : FnScope NLRows ["_law_urn", "_law_book_here", "_law_most_so"] (defScope sLRows) := ⟨rfl, rfl, rfl, by decide +kernel, rfl, by decide +kernel, by decide +kernel⟩
set_option maxHeartbeats 0 in
theorem ok_rows {f ft fw fr fo : Addr} {fd fdt fdw fdr fdo : FuncData} (F : Fun K "_law_rows" "_law_rows" sLRows f fd) (Ti : Ty K mg) (C_law_take : Cal P w K mg base 1 "_law_take" ["_law_urn", "_law_low_so"] (spU K tkP) ft fdt) (C_law_few : Cal P w K mg base 3 "_law_few" ["_law_urn", "_law_pool", "_law_most_so"] (spU K fwP) fw fdw) (C_law_rate : Cal P w K mg base 3 "_law_rate" ["_law_urn"] (spU K raP) fr fdr) (C_law_of : Cal P w K mg base 2 "_law_of" ["_law_urn", "_law_some_so"] (spU K ofP) fo fdo) :
    FnOk P w K mg base CX0 4 f fd ["_law_urn", "_law_book_here", "_law_most_so"] (spU K rwP) := by
  refine F.ok scLRows (fun vs H Q E h => ?_) (fun cdv A outer s H vs Q E hr h => ?_)
  · obtain ⟨B, u, ws, ds, R, c, n, rfl, _, _, hw, _, _, ⟨xs, ts, rfl, _⟩, _⟩ := h
    exact congrArg (· + 1) (DpAll.len hw)
  · obtain ⟨B, u, ws, ds, R, c, n, rfl, b, bu, hw, un, few, ⟨xs, ts, rfl, l5, rfl, rfl⟩, q⟩ := h
    obtain ⟨v1, v2, rfl, h1, h2⟩ := two hw
    obtain rfl := p_int h2
    have few1 : n + 100 ≤ 100000 := few
    refine ⟨_, (pss_cons (ps_set (i := 3) scLRows.nd rfl (by first | exact .inl rfl | exact .inr rfl) (pe_lst pa_nil)) (pss_cons (ps_for PassesOwn.never rfl (pi_range1 rfl Ti.range (pa_cons (pe_call C_law_take.G (hr.mono (by decide)) (by rfl) C_law_take.m C_law_take.kp C_law_take.b .nil pass0 (pa_cons (pv 0) (pa_cons (pe_op op_add (pv 2) pe_int) pa_nil))) pa_nil)) (pg_name (i := 4) scLRows.nd rfl (by first | exact .inl rfl | exact .inr rfl)) (pss_cons (ps_set (i := 5) scLRows.nd rfl (by first | exact .inl rfl | exact .inr rfl) (pe_ifExp (pt_cmpR (xEq K hr.units) (pe_call C_law_take.G (hr.mono (by decide)) (by rfl) C_law_take.m C_law_take.kp C_law_take.b .nil pass0 (pa_cons (pv 0) (pa_cons pe_int pa_nil))) pe_int (nomark _)) (pe_tup (pa_cons pe_str pa_nil)) (pe_call C_law_few.G (hr.mono (by decide)) (by rfl) C_law_few.m C_law_few.kp C_law_few.b .nil pass0 (pa_cons (pv 0) (pa_cons (pe_ix (xIx K) (pv 1) pe_int (fun _ _ => rfl)) (pa_cons pe_int pa_nil)))))) (pss_one (ps_expr (pe_bm PySem.F.plainAttrs_list PySem.F.slot_list_append PySem.F.type_list_append mt_append (pv 3) (pa_cons (pe_tup (pa_cons (pv 5) (pa_cons (pe_call C_law_rate.G (hr.mono (by decide)) (by rfl) C_law_rate.m C_law_rate.kp C_law_rate.b .nil pass0 (pa_cons (pv 0) pa_nil)) (pa_cons (pe_call C_law_of.G (hr.mono (by decide)) (by rfl) C_law_of.m C_law_of.kp C_law_of.b .nil pass0 (pa_cons (pv 0) (pa_cons (pe_lst (pa_cons pe_str (pa_cons pe_str (pa_cons pe_str (pa_cons pe_str (pa_cons pe_str (pa_cons pe_str pa_nil))))))) pa_nil))) pa_nil)))) pa_nil)))))) (pss_one (ps_ret (pv 3))))), ?_⟩
    have a0 : At (ZE.del H u) B H B H := At.start b del_le
    have hk : (ZE.del H u) u = none := del_at
    refine g_asgO (K := K) (B := B) (ds := []) (el_lst ea_nilD (by decide)) a0 fun l H1 B1 e1 hl eb1 a1 mu => ?_
    have nlu : l ≠ u := fun z => by have := un.some; rw [← z, hl] at this; cases this
    have kl : (ZE.del H u) l = none := by rw [ZE.del_ne nlu]; exact hl
    have un1 := un.up e1
    have b1u : B1 u = none := a1.wk.ap u bu un.some
    refine l_forR (u_call (R := takeR 10) rfl (ea_consD (d := .int ((10 : Nat) : Int)) (ed_op (ed_var rfl (.int 9)) (ed_int 1) (rv_int fun _ => .int _)) ea_nilD) ⟨10, rfl, by decide, by decide, rfl, rfl⟩ a1.b b1u un1 (by omega) fun d v H2 hr e2 hv un2 => ?_)
    obtain ⟨k, rfl, lk⟩ := hr
    obtain rfl := p_int hv
    have a2 := a1.urn' hk b1u e2 un2.some
    have mu2 := mu.move (keep_del e2 nlu)
    refine for_rng (K := K) (B := B1) (N := k) (fun i σ' H' => ∃ B3, ∃ rows : List (List Str × (Nat × Nat) × Str), (∃ o4 o5, σ' = [some (V.ref u), some v1, some (.int 9), some (.ref l), o4, o5]) ∧ Ex B1 B3 ∧ At (ZE.del H u) B H B3 H' ∧ B3 u = none ∧ Mu K B3 H' l (rows.map rowD) ∧ (∀ r ∈ rows, RowK xs r) ∧ rows.length ≤ i ∧ Urn H' u (n + 1 + i * 10)) (ea_consD (ed_int _) ea_nilD) a2.b (by omega)
      (fun H3 e3 => ⟨B1, [], ⟨_, _, rfl⟩, Ex.refl _, a2.grow e3, b1u, mu2.grow e3, (fun _ m => nomatch m), Nat.le_refl _, un2.up e3⟩) (fun i σ3 H3 hi ⟨B3, rows, ⟨o4, o5, hσ⟩, eb, a3, b3u, mu3, hrw, lr, un3⟩ => ?_) (fun σ3 H3 ⟨B3, rows, ⟨o4, o5, hσ⟩, eb, a3, b3u, mu3, hrw, lr, un3⟩ => ?_)
    · subst hσ
      have h13 := dp_up h1 (eb1.trans eb)
      have bagE := eu_if (K := K) (σ := [some (V.ref u), some v1, some (.int 9), some (.ref l), some (.int (i : Int)), o5]) (R := fun d => ∃ bag : List Str, (bag = (["#"] : List Str) ∨ ((∀ y ∈ bag, y ∈ xs) ∧ bag.length ≤ xs.length)) ∧ d = tp bag) (c1 := 1) (c2 := 6) b3u
        (eut_of (c := 1) (R := fun d => ∃ bb, d = .bool bb) (eu_op (c1 := 1) (c2 := 0) (r := rEqD K) (Rd := fun d => ∃ bb, d = .bool bb) b3u (eu_take (E := E0) (i := 0) (low := 5) b3u rfl (by decide) (by decide)) (fun B' _ _ => eu_of (ed_int 0)) fun d1 d2 ⟨r1, g1, _⟩ g2 => by
          subst g1 g2
          exact ⟨_, ⟨_, rfl⟩, rv_eq (int_shaped _) (int_shaped _)⟩) fun d ⟨bb, g⟩ => ⟨bb, g, trivial⟩)
        (eu_is (eu_of (ed_tup (ds := [.str "#"]) (ea_consD (ed_str "#") ea_nilD) (by show 1 ≤ 100000; decide))) (fun d g => ⟨["#"], .inl rfl, g⟩) (Nat.zero_le _))
        (eu_is (eu_call (E := E0) (i := 0) b3u rfl (ea_consD (ed_op (ed_var (i := 1) rfl h13) (ed_int 0) (rv_ix (ds := [tp xs, .tuple (ts.map pr)]) (d := tp xs) (.inr rfl) rfl)) (ea_consD (ed_int 2) ea_nilD)) (Pm := fwP) (c := xs.length + 1) ⟨_, xs, 2, rfl, .inr rfl, by omega, by decide, rfl, rfl⟩) (fun d ⟨ys, g1, g2, g3⟩ => ⟨ys, .inr ⟨g1, g2⟩, g3⟩) (by omega))
      refine l_asg (bagE H3 (n + 1 + i * 10) a3.b un3 (by omega) _ fun d v5 H4 m hr e4 hv un4 lm => ?_)
      obtain ⟨bag, hbag, rfl⟩ := hr
      have a4 := a3.urn hk b3u e4 un4.some
      have b4u : sub H4 H3 B3 u = none := urn_out un3 b3u
      have mu4 := mu3.nextU a3.b b3u e4 nlu
      have u4 := urn_base a3.b b3u e4
      generalize sub H4 H3 B3 = B4 at a4 b4u mu4 hv u4
      refine ⟨.ref l, rfl, mu_ty mu4, v5, rfl, ?_⟩
      refine u_call (R := fun d => ∃ r ∈ rates, d = shD r) rfl ea_nilD ⟨rfl, rfl, rfl⟩ a4.b b4u un4 (by omega) fun d v6 H5 hr6 e5 hv6 un5 => ?_
      obtain ⟨rt, mrt, rfl⟩ := hr6
      have a5 := a4.urn hk b4u e5 un5.some
      have b5u : sub H5 H4 B4 u = none := urn_out un4 b4u
      have mu5 := mu4.nextU a4.b b4u e5 nlu
      have u5 := urn_base a4.b b4u e5
      have hv := dp_up hv u5
      generalize sub H5 H4 B4 = B5 at a5 b5u mu5 hv hv6 u5
      refine u_call (R := fun d => d ∈ salts.map PyData.str) rfl (ea_consD (ed_lst (ds := salts.map .str) (ea_consD (ed_str _) (ea_consD (ed_str _) (ea_consD (ed_str _) (ea_consD (ed_str _) (ea_consD (ed_str _) (ea_consD (ed_str _) ea_nilD)))))) (by decide)) ea_nilD) ⟨_, salts.map .str, rfl, .inl rfl, by decide, by decide, rfl, rfl⟩ a5.b b5u un5 (by omega) fun d v7 H6 hr7 e6 hv7 un6 => ?_
      obtain ⟨sl, msl, rfl⟩ := List.mem_map.mp hr7
      have a6 := a5.urn hk b5u e6 un6.some
      have b6u : sub H6 H5 B5 u = none := urn_out un5 b5u
      have mu6 := mu5.nextU a5.b b5u e6 nlu
      have u6 := urn_base a5.b b5u e6
      have hv := dp_up hv u6
      have hv6 := dp_up hv6 u6
      generalize sub H6 H5 B5 = B6 at a6 b6u mu6 hv hv6 hv7 u6
      refine ⟨by show 3 ≤ sizeLine; decide, fun p hp => ?_⟩
      have e7 : Ex H6 (upd H6 p (.tup [v5, v6, v7])) := Ex.new hp
      have a7 := a6.next e7
      have mu7 := mu6.next a6.b e7
      have u7 := le_sub a6.b e7
      have un7 := un6.up e7
      have b7u : sub (upd H6 p (.tup [v5, v6, v7])) H6 B6 u = none := urn_out un6 b6u
      have hrow : Dp K (sub (upd H6 p (.tup [v5, v6, v7])) H6 B6) (.ref p) (rowD (bag, rt, sl)) := .tup (st_of (new_at hp)) (.cons (dp_up hv u7) (.cons (dp_up hv6 u7) (.cons (dp_up hv7 u7) .nil)))
      unfold tNil
      refine mu_append mu7 (by rw [List.length_map]; omega) hrow fun ws m8 => ?_
      refine ⟨_, rows ++ [(bag, rt, sl)], ⟨_, _, rfl⟩, (((eb.trans u4).trans u5).trans u6).trans u7, a7.mut mu7.nb kl mu7.isS, b7u, by rw [List.map_append]; exact m8, fun r mr => ?_, by rw [List.length_append, List.length_singleton]; omega, (urn_more un7 (by omega)).move (upd_ne fun z => nlu z.symm)⟩
      rcases List.mem_append.mp mr with mr | mr
      · exact hrw r mr
      · rw [List.mem_singleton.mp mr]
        exact ⟨hbag, mrt, msl⟩
    · subst hσ
      dsimp only
      obtain ⟨B4, b4, a4, d4, k4⟩ := mu3.hold a3 (by cases w : H l with | none => rfl | some o => rw [hl] at w; cases w)
      exact g_ret (K := K) (d := .list (rows.map rowD)) (ed_var rfl d4) a4.b fun v H4 e4 hv => q _ v H4 ⟨rows, hrw, by omega, rfl⟩ (a4.ex.trans e4) (a4.out e4 hv) (urn_more (un3.up e4) (by omega))
end
end S5

set_option Elab.async false
set_option linter.all false
set_option maxRecDepth 100000
namespace S5
open PySem PySem.Spec PyProof.Rows L2 Evl ZE ZS StX ZD RZ
section
variable {P : Program} {w : World} {K : PySem.W.Frag} {mg : Str → Option Value} {base : Heap} {aI : Addr}
/-! ### lists -/
def li : Nat → PyData → PyData
  | n + 1, .list ds => .list (ds.map (li n))
  | n + 1, .tuple ds => .list (ds.map (li n))
  | _, d => d
def liP (n : Nat) (ds : List PyData) (d : PyData) : Prop := ∃ x, ds = [x] ∧ fzOk n x = true ∧ d = li n x
abbrev sLLists : Stmt := (top 41)
abbrev NLLists : List Str := ["_law_thing_so", "_law_bit"]
theorem scLLists : FnScope NLLists ["_law_thing_so"] (defScope sLLists) := ⟨rfl, rfl, rfl, by decide +kernel, rfl, by decide +kernel, by decide +kernel⟩
theorem ok_lists {f : Addr} {fd : FuncData} (F : Fun K "_law_lists" "_law_lists" sLLists f fd) (T : Tx K mg aI) (Ti : Ty K mg) (m : mg "_law_lists" = some (.ref f)) (kp : PySem.W.keepIn K (.ref f) = true) (bd : Binds K fd ["_law_thing_so"] []) : ∀ n, FnOk P w K mg base CX0 (n + 1) f fd ["_law_thing_so"] (spD K (liP n)) := by
  have isi : ∀ d, (∃ n, fzOk n d = true) → ∃ x y, kitB (tyN d) "list" = some x ∧ kitB (tyN d) "tuple" = some y ∧ (x || y) = (match d with | .list _ => true | .tuple _ => true | _ => false) := fun d ⟨n, h⟩ => by
    cases d with
    | str z => exact ⟨false, false, (show kitB "str" "list" = some false by decide +kernel), (show kitB "str" "tuple" = some false by decide +kernel), rfl⟩
    | int z => exact ⟨false, false, (show kitB "int" "list" = some false by decide +kernel), (show kitB "int" "tuple" = some false by decide +kernel), rfl⟩
    | list z => exact ⟨true, false, (show kitB "list" "list" = some true by decide +kernel), (show kitB "list" "tuple" = some false by decide +kernel), rfl⟩
    | tuple z => exact ⟨false, true, (show kitB "tuple" "list" = some false by decide +kernel), (show kitB "tuple" "tuple" = some true by decide +kernel), rfl⟩
    | _ => cases n <;> cases h
  intro n
  induction n with
  | zero =>
    refine F.ok scLLists (fun vs H Q E h => ?_) (fun cdv A outer s H vs Q E hr h => ?_)
    · obtain ⟨B, ds, d, b, hv, ⟨x, rfl, _⟩, _⟩ := h
      exact DpAll.len hv
    · obtain ⟨B, ds, d, b, hv, ⟨x, rfl, ho, hd⟩, q⟩ := h
      rw [hd] at q
      obtain ⟨v, rfl, h1⟩ := one hv
      obtain ⟨c1, c2, k1, k2, k3⟩ := isi x ⟨_, ho⟩
      refine ⟨_, (pss_one (ps_ret (pe_ifExp (pt_val (pe_callB (xIsiT K) (by rfl) Ti.isinstance (by decide +kernel) (pa_cons (pv 0) (pa_cons (pe_tup (pa_cons (pe_bltn (v := .ty "list") (u := .type "list") (by rfl) T.list (by decide +kernel) (by rfl)) (pa_cons (pe_bltn (v := .ty "tuple") (u := .type "tuple") (by rfl) T.tuple (by decide +kernel) (by rfl)) pa_nil))) pa_nil)))) pe_no (pv 0)))), ?_⟩
      have hx : x = li 0 x := by cases x <;> rfl
      have z : (c1 || c2) = false := by
        rw [k3]
        cases x with
        | list _ => cases ho
        | tuple _ => cases ho
        | _ => rfl
      exact g_ret (ed_if (b := false) (et_ofB (ed_is (ed_isi2 (ed_var rfl h1) k1 k2) (by rw [z]))) (fun z => nomatch z) fun _ => ed_var rfl h1) b fun v H3 e3 hv => q v H3 e3 (by rw [← hx]; exact hv)
  | succ n ih =>
    refine F.ok scLLists (fun vs H Q E h => ?_) (fun cdv A outer s H vs Q E hr h => ?_)
    · obtain ⟨B, ds, d, b, hv, ⟨x, rfl, _⟩, _⟩ := h
      exact DpAll.len hv
    · obtain ⟨B, ds, d, b, hv, ⟨x, rfl, ho, hd⟩, q⟩ := h
      rw [hd] at q
      obtain ⟨v, rfl, h1⟩ := one hv
      obtain ⟨c1, c2, k1, k2, k3⟩ := isi x ⟨_, ho⟩
      have C_law_lists : Cal P w K mg base (n + 1) "_law_lists" ["_law_thing_so"] (spD K (liP n)) f fd := ⟨m, kp, bd, ih⟩
      refine ⟨_, (pss_one (ps_ret (pe_ifExp (pt_val (pe_callB (xIsiT K) (by rfl) Ti.isinstance (by decide +kernel) (pa_cons (pv 0) (pa_cons (pe_tup (pa_cons (pe_bltn (v := .ty "list") (u := .type "list") (by rfl) T.list (by decide +kernel) (by rfl)) (pa_cons (pe_bltn (v := .ty "tuple") (u := .type "tuple") (by rfl) T.tuple (by decide +kernel) (by rfl)) pa_nil))) pa_nil)))) (pe_lc (own := [("_law_bit", 1)]) rfl scLLists.nd (xSeq K (pv 0)) (blkOk_by (N := NLLists) (sc := defScope sLLists) (by decide +kernel)) (fun _ _ _ _ _ => (pg_name (i := 1) scLLists.nd rfl (by first | exact .inl rfl | exact .inr rfl))) (fun _ _ _ _ _ => pts_nil) (fun _ _ _ _ _ => (pe_call C_law_lists.G hr (by rfl) C_law_lists.m C_law_lists.kp C_law_lists.b .nil pass0 (pa_cons (pv 1) pa_nil)))) (pv 0)))), ?_⟩
      refine g_ret (d := li (n + 1) x) (ed_if (b := c1 || c2) (et_ofB (ed_isi2 (ed_var rfl h1) k1 k2)) (fun hc => ?_) fun hc => ?_) b fun v H3 e3 hv => q v H3 e3 hv
      · have sq : ∃ ds, Sq x ds ∧ ds.length < 1000 ∧ (∀ d ∈ ds, fzOk n d = true) ∧ li (n + 1) x = .list (ds.map (li n)) := by
          rw [hc] at k3
          cases x with
          | list ds => exact ⟨ds, .inl rfl, by simpa [fzOk] using (Bool.and_eq_true_iff.mp ho).1, by simpa [fzOk] using (Bool.and_eq_true_iff.mp ho).2, rfl⟩
          | tuple ds => exact ⟨ds, .inr rfl, by simpa [fzOk] using (Bool.and_eq_true_iff.mp ho).1, by simpa [fzOk] using (Bool.and_eq_true_iff.mp ho).2, rfl⟩
          | _ => cases k3
        obtain ⟨es, sq, few, okd, e0⟩ := sq
        rw [e0]
        refine ed_is (ed_lc (P := P1 K _ _ 1) (fun _ => true) (li n) (ed_var rfl h1) sq (by omega) (tg_name fun _ => rfl) (fun _ _ _ _ _ _ => fun H1 e Q q => q H1 (Ex.refl H1)) (fun d md _ σ2 B1 e ⟨u, hs, hd⟩ => ?_) p1_up) (by rw [List.filter_eq_self.mpr fun _ _ => rfl])
        subst hs
        exact ed_call0 (ea_consD (ed_var rfl hd) ea_nilD) (sp_d ⟨d, rfl, okd d md, rfl⟩)
      · have e0 : li (n + 1) x = x := by
          rw [hc] at k3
          cases x with
          | list ds => cases k3
          | tuple ds => cases k3
          | _ => rfl
        rw [e0]
        exact ed_var rfl h1
/-! ### Keys(..) -/
theorem e_make {σ : L2.St} {B H : Hp} {C : Addr} {tas : TA} {E : XK} {A Tt : PyData} {ns : List Str} {ts : List (Str × Str)} (h : EvDA K tas σ B [A, Tt]) (b : Ex B H) (sx : Sq A (ns.map .str)) (ox : Oks ns) (ln : ns.length < 64) (lc : (ZO.can ZO.sLt ns).length ≤ 5) (okt : fzOk 2 Tt = true) (et : fz 2 Tt = .tuple (ts.map pr)) (bk : Book (ZO.can ZO.sLt ns) ts) {Q : VK}
    (q : ∀ p H2, Ex H H2 → Ky K C (sub H2 H B) p (ZO.can ZO.sLt ns) (pairsOf (ZO.can ZO.sLt ns) ts) → Q (.ref p) H2) : tMake C (spInit K C) [] E tas σ H Q := h H b _ fun vs H1 e1 hv p dx hp hdx ne => by
  obtain ⟨v1, v2, rfl, h1, h2⟩ := two hv
  refine ⟨H1, sub H1 H B, p, dx, v1, v2, A, Tt, ns, ts, rfl, upd_same, hp, ?_, sub_le, h1, sx, ox, ln, lc, h2, okt, et, bk, fun H2 e2 ky => ⟨rfl, q p H2 (e1.trans e2) (ky.up (later e1))⟩⟩
  intro a o ha
  rw [upd_ne (ne_of_none ha hp), upd_ne (ne_of_none ha hdx)]
  exact ha
end
end S5

set_option Elab.async false
set_option linter.all false
set_option maxRecDepth 100000
namespace S5
open PySem PySem.Spec PyProof.Rows L2 Evl ZE ZS StX ZD RZ
section
variable {P : Program} {w : World} {K : PySem.W.Frag} {mg : Str → Option Value} {base : Heap} {aI : Addr}
/-! ### box -/
def spBox (K : PySem.W.Frag) : Sp := fun vs H Q _ => ∃ (B : Hp) (ns : List Int) (k : Nat) (v1 : V), vs = [v1, .int (k : Int)] ∧ Ex B H ∧ Dp K B v1 (.list (ns.map .int)) ∧ k < ns.length ∧ k ≤ 100 ∧ ∀ u H2, H u = none → Ex H H2 → Urn H2 u 0 → Q (.ref u) H2
abbrev sLBox : Stmt := (top 36)
abbrev NLBox : List Str := ["_law_script", "_law_k", "_law_cell"]
theorem scLBox : FnScope NLBox ["_law_script", "_law_k"] (defScope sLBox) := ⟨rfl, rfl, rfl, by decide +kernel, rfl, by decide +kernel, by decide +kernel⟩
theorem ok_box {f : Addr} {fd : FuncData} (F : Fun K "_law_box" "_law_box" sLBox f fd) (T : Tx K mg aI) (Ti : Ty K mg) : FnOk P w K mg base CX0 1 f fd ["_law_script", "_law_k"] (spBox K) := by
  refine F.ok scLBox (fun vs H Q E h => ?_) (fun cdv A outer s H vs Q E hr h => ?_)
  · obtain ⟨_, _, _, _, rfl, _⟩ := h
    rfl
  · obtain ⟨B, ns, k, v1, rfl, b, h1, hk, hk2, q⟩ := h
    refine ⟨_, (pss_cons (ps_set (i := 2) scLBox.nd rfl (by first | exact .inl rfl | exact .inr rfl) (pe_ifExp (pt_cmpR op_lt (pv 1) (pe_callB (xLen K) (by rfl) T.len (by decide +kernel) (pa_cons (pv 0) pa_nil)) (nomark _)) (pe_ix (xIx K) (pv 0) (pv 1) (fun _ _ => rfl)) pe_int)) (pss_one (ps_ret (pe_lst (pa_cons (pe_op op_mul (pe_callB call_abs (by rfl) Ti.abs (by decide +kernel) (pa_cons (pv 2) pa_nil)) (pe_callTy call_int1 (by rfl) Ti.int (by decide +kernel) (pa_cons (pe_cmpR op_ge (pe_callB call_abs (by rfl) Ti.abs (by decide +kernel) (pa_cons (pv 2) pa_nil)) (pe_op op_pow pe_int pe_int) (nomark _)) pa_nil))) (pa_cons (pe_op op_add (pe_op op_add (pe_op op_mod (pe_callTy call_int1 (by rfl) Ti.int (by decide +kernel) (pa_cons (pv 2) pa_nil)) pe_int) (pe_op op_mul pe_int (pv 1))) pe_int) (pa_cons pe_int pa_nil))))))), ?_⟩
    have hc : (ns.map PyData.int)[k]? = some (.int ns[k]) := by rw [List.getElem?_map, List.getElem?_eq_getElem hk]; rfl
    generalize ns[k] = c at hc
    have b0 : ∀ {σ : L2.St} {B' : Hp}, σ[1]? = some (some (V.int (k : Int))) → EvD K (tVar 1) σ B' (.int (k : Int)) := fun hi => ed_var hi (.int _)
    refine g_asg (d := .int c) (ed_if (b := decide ((k : Int) < (ns.length : Int))) (et_of (ed_is (ed_op (b0 rfl) (ed_cb (ea_consD (ed_var rfl h1) ea_nilD) (rc_len (.inl rfl))) (rv_int fun _ => .bl _)) (by rw [List.length_map]))) (fun _ => ed_op (ed_var rfl h1) (b0 rfl) (rv_ix (.inl rfl) (atI_nat hc))) (fun z => absurd (of_decide_eq_false z) (by omega))) b fun v H2 e2 hv => ?_
    obtain rfl := p_int hv
    obtain ⟨a, ha⟩ : ∃ a : Int, (if c < 0 then -c else c) = a := ⟨_, rfl⟩
    have a0 : 0 ≤ a := by
      rw [← ha]
      split <;> omega
    have one : ∀ {σ : L2.St} {B' : Hp}, σ[2]? = some (some (V.int c)) → EvD K (tCB (fun xs H Q => ∃ i, xs = [V.int i] ∧ Q (V.int (if i < 0 then -i else i)) H) (tCons (tVar 2) tNil)) σ B' (.int a) := fun hi => ed_is (ed_cb (ea_consD (ed_var hi (.int c)) ea_nilD) rc_abs) (by rw [ha])
    obtain ⟨f1, hf⟩ : ∃ f1 : Int, (if decide ((10 : Int) ^ (18 : Int).toNat ≤ a) = true then (1 : Int) else 0) = f1 := ⟨_, rfl⟩
    have f0 : 0 ≤ f1 ∧ f1 ≤ 1 := by
      rw [← hf]
      split <;> decide
    obtain ⟨m, hm⟩ : ∃ m : Int, c % 2305843009213693951 = m := ⟨_, rfl⟩
    have m0 : 0 ≤ m := by omega
    have m1 : m < 2305843009213693951 := by omega
    have x0 : 0 ≤ a * f1 := Int.mul_nonneg a0 f0.1
    refine l_ret (l_lstD (ea_consD (K := K) (B := B) (d := .int (a * f1)) ?_ (ea_consD (d := .int (m + 39373 * k + 587)) ?_ (ea_consD (ed_int 0) ea_nilD))) (b.trans e2) (by show 3 ≤ 100000; decide) fun u vs H3 e3 hv hu => ?_)
    · refine ed_op (one rfl) (d2 := .int f1) ?_ (rv_I (.inr ⟨by omega, by omega⟩) fun _ => .int _)
      obtain ⟨t, ht⟩ : ∃ t : Int, (10 : Int) ^ (18 : Int).toNat = t := ⟨_, rfl⟩
      rw [ht] at hf
      refine ed_is (ed_cb (ea_consD (d := .bool (decide (t ≤ a))) (ed_op (one rfl) (d2 := .int t) ?_ (rv_int fun _ => .bl _)) ea_nilD) rc_intB) (by rw [hf])
      exact ed_op (ed_int 10) (ed_int 18) (rv_I ⟨by decide, by decide, by decide⟩ fun _ => by rw [ht]; exact .int _)
    · refine ed_op (d1 := .int (m + 39373 * k)) ?_ (ed_int 587) (rv_int fun _ => .int _)
      refine ed_op (d1 := .int m) (d2 := .int (39373 * k)) ?_ ?_ (rv_int fun _ => .int _)
      · exact ed_is (ed_op (ed_cb (ea_consD (ed_var rfl (.int c)) ea_nilD) rc_int) (ed_int 2305843009213693951) (rv_I (by decide) fun _ => .int _)) (by rw [hm])
      · exact ed_op (ed_int 39373) (b0 rfl) (rv_I (.inl ⟨by decide, by decide⟩) fun _ => .int _)
    · obtain ⟨x, y, z, rfl, hx, hy, hz⟩ := three' hv
      obtain rfl := p_int hx
      obtain rfl := p_int hy
      obtain rfl := p_int hz
      exact q u _ (fresh_back (e2.trans e3) hu) ((e2.trans e3).trans (Ex.new hu)) ⟨_, _, _, upd_same, x0, by omega, by omega, by omega, by omega⟩
/-! ### cells -/
def clE (ds : List PyData) (R : PyData → Prop) : Prop := ∃ ns : List Int, ds = [.list (ns.map .int), .int 3] ∧ ns.length ≤ 63 ∧ R = fun d => ∃ ms : List Int, 1 ≤ ms.length ∧ ms.length ≤ 3 ∧ d = .list (ms.map .int)
abbrev sLCells : Stmt := (top 38)
abbrev NLCells : List Str := ["_law_script", "_law_top", "_law_cells_here", "_law_k", "_law_cell", "_law_at_so"]
theorem scLCells : FnScope NLCells ["_law_script", "_law_top"] (defScope sLCells) := ⟨rfl, rfl, rfl, by decide +kernel, rfl, by decide +kernel, by decide +kernel⟩
theorem ok_cells {f : Addr} {fd : FuncData} (F : Fun K "_law_cells" "_law_cells" sLCells f fd) (T : Tx K mg aI) (Ti : Ty K mg) : FnOk P w K mg base CX0 1 f fd ["_law_script", "_law_top"] (spE K clE) := by
  refine F.ok scLCells (fun vs H Q E h => ?_) (fun cdv A outer s H vs Q E hr h => ?_)
  · obtain ⟨B, ds, R, b, hv, ⟨ns, rfl, _⟩, _⟩ := h
    exact DpAll.len hv
  · obtain ⟨B, ds, R, b, hv, ⟨ns, rfl, ln, rfl⟩, q⟩ := h
    obtain ⟨v1, v2, rfl, h1, h2⟩ := two hv
    obtain rfl := p_int h2
    refine ⟨_, (pss_cons (ps_set (i := 2) scLCells.nd rfl (by first | exact .inl rfl | exact .inr rfl) (pe_orT (pe_callTy (xList K) (by rfl) T.list (by decide +kernel) (pa_cons (pe_slice sl_list (pv 0) po_none (po_some (pv 1))) pa_nil)) (pe_one (pe_lst (pa_cons pe_int pa_nil))))) (pss_cons (ps_for PassesOwn.never rfl (pi_enum (by rfl) Ti.enumerate (pa_cons (pe_slice sl_list (pv 0) (po_some (pv 1)) (po_some pe_int)) pa_nil)) (xTup K 2 rfl (pgs_cons (pg_name (i := 3) scLCells.nd rfl (by first | exact .inl rfl | exact .inr rfl)) (pgs_cons (pg_name (i := 4) scLCells.nd rfl (by first | exact .inl rfl | exact .inr rfl)) pgs_nil))) (pss_cons (ps_set (i := 5) scLCells.nd rfl (by first | exact .inl rfl | exact .inr rfl) (pe_op op_mod (pe_callTy call_int1 (by rfl) Ti.int (by decide +kernel) (pa_cons (pv 3) pa_nil)) (pv 1))) (pss_one (ps_asg (pe_op op_add (pe_ix (xIx K) (pv 2) (pv 5) (fun _ _ => rfl)) (pe_op op_mul (pv 4) (pe_op op_add (pv 3) pe_int))) (pg_sub (pv 2) (pv 5) set_list))))) (pss_one (ps_ret (pv 2))))), ?_⟩
    have two2 : ∀ {σ : L2.St} {B' : Hp}, σ[1]? = some (some (V.int 3)) → EvD K (tVar 1) σ B' (.int ((3 : Nat) : Int)) := fun hi => ed_var hi (.int 3)
    refine l_asg (l_orT (l_cb1 ?_))
    refine ed_take (K := K) (B := B) (k := 3) (ed_var rfl h1) (two2 rfl) H b _ fun v H1 e1 hv => ?_
    cases hv with
    | lst hs ha =>
      rename_i a xs
      rw [← List.map_take] at ha
      obtain rfl := ints_dpa ha
      refine ⟨a, _, rfl, .inl (ex_l sub_le hs), fun l hl => ⟨_, .inl ⟨_, sq_of upd_same, rfl⟩, ?_⟩⟩
      -- what follows, from the cells
      have rest : ∀ (l : Addr) (H2 : Hp) (ms : List Int) (D : L2.Ends) (hD : D = { nx := fun _ H' => Q .non H', rt := Q }), H l = none → Ex H H2 → H2 l = some (.lst (ms.map V.int)) → 1 ≤ ms.length → ms.length ≤ 3 → (4 ≤ ns.length → ms.length = 3) →
          tSeq (tFor (iEnum K (tCons (tSl (rSlL K) (tVar 0) (tPart (tVar 1)) (tPart (tC (.int 63)))) tNil)) (gTup K 2 (gCons (gName 3) (gCons (gName 4) gNil)))
            (tSeq (tAsg (tOp (rI (fun _ j => 0 < j) fun i j => .int (i % j)) (tCB (fun xs H Q => (∃ i, xs = [.int i] ∧ Q (.int i) H) ∨ ∃ k, xs = [.bl k] ∧ Q (.int (if k then 1 else 0)) H) (tCons (tVar 3) tNil)) (tVar 1)) (gName 5))
              (tAsg (tOp (rI0 fun i j => .int (i + j)) (tOp (rIx K) (tVar 2) (tVar 5)) (tOp (rI CMul fun i j => .int (i * j)) (tVar 4) (tOp (rI0 fun i j => .int (i + j)) (tVar 3) (tC (.int 2))))) (gSub (tVar 2) (tVar 5) rSetL)))) (tRet (tVar 2)) D [some v1, some (.int 3), some (.ref l), none, none, none] H2 := by
        intro l H2 ms D hD l0 e2 hl2 m1 m2 m3
        subst hD
        have a2 := (At.start b (Ex.refl H)).grow e2
        have bl : B l = none := fresh_back b l0
        refine for_en (fun B2 i σ' H' => ∃ ms : List Int, (∃ o3 o4 o5, σ' = [some v1, some (.int 3), some (.ref l), o3, o4, o5]) ∧ At H B H B2 H' ∧ Ex B B2 ∧ B2 l = none ∧ H' l = some (.lst (ms.map V.int)) ∧ 1 ≤ ms.length ∧ ms.length ≤ 3 ∧ (4 ≤ ns.length → ms.length = 3))
          (ea_consD (ed_mid (k := 63) (j := 3) (by decide) (ed_var rfl h1) (two2 rfl) (ed_int 63)) ea_nilD) a2.b (fun H3 e3 => ⟨ms, ⟨_, _, _, rfl⟩, a2.next e3, le_sub a2.b e3, sub_none e3 (by rw [hl2]; rfl) bl, e3 l _ hl2, m1, m2, m3⟩) (fun B2 i σ3 H3 p => let ⟨_, _, a, _⟩ := p; a.b)
          (fun B2 i d x σ3 H3 tt hi hx ⟨ms, ⟨o3, o4, o5, hσ⟩, g1, g2, g3, g4, g5, g6, g7⟩ ht => ?_) (fun B2 σ3 H3 ⟨ms, ⟨o3, o4, o5, hσ⟩, g1, g2, g3, g4, g5, g6, g7⟩ => ?_)
        · subst hσ
          rw [List.getElem?_drop, List.getElem?_take] at hi
          have i3 : 3 + i < 63 ∧ 3 + i < ns.length := by
            by_cases c : 3 + i < 63
            · rw [if_pos c, List.getElem?_map] at hi
              obtain ⟨c, hc, _⟩ := Option.map_eq_some_iff.mp hi
              exact ⟨by assumption, (List.getElem?_eq_some_iff.mp hc).1⟩
            · rw [if_neg c] at hi
              cases hi
          rw [if_pos i3.1, List.getElem?_map] at hi
          obtain ⟨c, hc, rfl⟩ := Option.map_eq_some_iff.mp hi
          obtain rfl := p_int hx
          have ml := g7 (by omega)
          have g1' := g1.new (o := .tup [.int (i : Int), .int c]) ht
          have g4' : (upd H3 tt (.tup [.int (i : Int), .int c])) l = some (.lst (ms.map V.int)) := Ex.new ht l _ g4
          generalize upd H3 tt (.tup [.int (i : Int), .int c]) = H4 at g1' g4' ⊢
          have ob : Ex (oneB l (.lst (ms.map V.int))) H4 := oneB_le g4'
          obtain ⟨j, hj⟩ : ∃ j : Nat, (i : Int) % 3 = (j : Int) := ⟨i % 3, by omega⟩
          have jl : j < ms.length := by omega
          refine g_asg (K := K) (d := .int (j : Int)) (ed_is (ed_op (ed_cb (ea_consD (ed_var rfl (.int (i : Int))) ea_nilD) rc_int) (ed_var rfl (.int 3)) (rv_I (by decide) fun _ => .int _)) (by rw [hj])) ob fun v H5 e5 hv => ?_
          obtain rfl := p_int hv
          have dl : Dp K (oneB l (.lst (ms.map V.int))) (.ref l) (.list (ms.map .int)) := .lst (sq_of (if_pos rfl)) (dpa_ints ms)
          refine g_set1 (v := ms[j] + c * ((i : Int) + 2)) (j := j) (ed_op (ed_op (ed_var rfl dl) (ed_var rfl (.int (j : Int))) (rv_ix (d := .int ms[j]) (.inl rfl) (atI_nat (by rw [List.getElem?_map, List.getElem?_eq_getElem jl]; rfl)))) (ed_op (ed_var rfl (.int c)) (ed_op (ed_var rfl (.int (i : Int))) (ed_int 2) (rv_int fun _ => .int _)) (rv_I (.inr ⟨by omega, by omega⟩) fun _ => .int _)) (rv_int fun _ => .int _)) (ob.trans e5) rfl (ed_var rfl (.int (j : Int))) (e5 l _ g4') (ZE.ixN_nat (by rw [List.length_map]; exact jl)) fun H6 e6 => ?_
          refine ⟨ms.set j (ms[j] + c * ((i : Int) + 2)), ⟨_, _, _, rfl⟩, ((g1'.grow e5).grow e6).mut g3 l0 (by rw [e6 l _ (e5 l _ g4')]; rfl), g2, g3, ?_, by rw [List.length_set]; exact g5, by rw [List.length_set]; exact g6, fun z => by rw [List.length_set]; exact g7 z⟩
          rw [upd_same, List.map_set]
        · subst hσ
          have hd := g1.hold g3 l0 g4
          refine g_ret (K := K) (d := .list (ms.map .int)) (ed_var rfl (.lst (sq_of upd_same) (dpa_ints ms))) hd.1.b fun v H4 e4 hv => ?_
          exact q _ v H4 ⟨ms, g5, g6, rfl⟩ (hd.1.ex.trans e4) (hd.1.out e4 hv)
      have l0 : H l = none := fresh_back e1 hl
      cases ns with
      | nil =>
        refine (if_neg (by decide)).mpr ?_
        refine l_lstD (K := K) (B := B) (ds := [.int 0]) (ea_consD (ed_int 0) ea_nilD) ((b.trans e1).trans (Ex.new hl)) (by decide) fun p vs H3 e3 hv hp => ?_
        obtain ⟨z, rfl, hz⟩ := one hv
        obtain rfl := p_int hz
        exact rest p _ [0] _ rfl (fresh_back (e1.trans (Ex.new hl)) (fresh_back e3 hp)) (((e1.trans (Ex.new hl)).trans e3).trans (Ex.new hp)) upd_same (by decide) (by decide) (fun z => absurd z (by decide))
      | cons n0 nr =>
        refine (if_pos rfl).mpr ?_
        exact rest l _ ((n0 :: nr).take 3) _ rfl l0 (e1.trans (Ex.new hl)) upd_same (by rw [List.length_take, List.length_cons]; omega) (by rw [List.length_take]; omega) (fun z => by rw [List.length_take]; omega)
end
end S5

set_option Elab.async false
set_option linter.all false
set_option maxRecDepth 100000
namespace S5
open PySem PySem.Spec PyProof.Rows L2 Evl ZE ZS StX ZD RZ ZT ZX TL
section
variable {P : Program} {w : World} {K : PySem.W.Frag} {mg : Str → Option Value} {base : Heap} {aI : Addr}
/-! ### heard, by data -/
def HsD (xs : List Str) (ps : List (Str × Str)) (D1 D2 D3 D4 r : PyData) : Prop :=
  (∃ x, D4 = .str x ∧ Tok' x ∧ x.length ≤ 99 ∧ (∀ y ∈ wordsF x, y.length ≤ 59) ∧ ((spF x = none ∧ r = .list [.str "text", .str x]) ∨ ∃ ns nd salt, spF x = some (ns, nd, salt) ∧ shB nd.1 nd.2 = true ∧ saltF salt = true ∧ Tok' salt ∧ TxOk (closeF xs ps ns) nd.1 nd.2 ∧ r = outS xs ps ns nd.1 nd.2 salt)) ∨
  (∃ ns n d salt, D4 = .none ∧ D3 = .str salt ∧ Bag6 D1 ns ∧ Sq D2 [.int n, .int d] ∧ Tok' salt ∧ (shB n d = true → TxOk (closeF xs ps ns) n d) ∧ r = outS xs ps ns n d salt) ∨
  ∃ n d, D4 = .none ∧ D1 = .none ∧ Sq D2 [.int n, .int d] ∧ outF (xs ++ (["#"] : List Str)) ["user"] = none ∧ Bag6 (tp (closeF xs ps ["user"])) (closeF xs ps ["user"]) ∧ outF (xs ++ (["#"] : List Str)) (closeF xs ps ["user"]) = none ∧ (shB n d = true → TxOk (closeF xs ps (closeF xs ps ["user"])) n d) ∧ r = outS xs ps (closeF xs ps ["user"]) n d "x"
theorem ed_hs {σ : L2.St} {B : Hp} {i : Nat} {a C : Addr} {xs : List Str} {ps : List (Str × Str)} {t1 t2 t3 t4 : TE} {D1 D2 D3 D4 r : PyData} {E : XK} (hi : σ[i]? = some (some (V.ref a))) (ky : Ky K C B a xs ps) (kok : KyOk xs ps) (h1 : EvD K t1 σ B D1) (h2 : EvD K t2 σ B D2) (h3 : EvD K t3 σ B D3) (h4 : EvD K t4 σ B D4) (ok : HsD xs ps D1 D2 D3 D4 r) :
    EvD K (tCall (spHs K C) [] E (tCons (tVar i) (tCons t1 (tCons t2 (tCons t3 (tCons t4 tNil)))))) σ B r := fun H1 b Q q => by
  refine ⟨.ref a, hi, h1 H1 b _ fun v1 H2 e2 g1 => h2 H2 (b.trans e2) _ fun v2 H3 e3 g2 => h3 H3 ((b.trans e2).trans e3) _ fun v3 H4 e4 g3 => h4 H4 (((b.trans e2).trans e3).trans e4) _ fun v4 H5 e5 g4 => ?_⟩
  have e15 := ((e2.trans e3).trans e4).trans e5
  have k1 : Dp K (sub H5 H1 B) v1 D1 := dp_up g1 (sub_mono ((e3.trans e4).trans e5))
  have k2 : Dp K (sub H5 H1 B) v2 D2 := dp_up g2 ((sub_step e2).trans (sub_mono (e4.trans e5)))
  have k3 : Dp K (sub H5 H1 B) v3 D3 := dp_up g3 ((sub_step (e2.trans e3)).trans (sub_mono e5))
  have k4 : Dp K (sub H5 H1 B) v4 D4 := dp_up g4 (sub_step ((e2.trans e3).trans e4))
  refine ⟨sub H5 H1 B, .ref a, v1, v2, v3, v4, r, rfl, sub_le, ⟨a, xs, ps, rfl, ky.up (le_sub b e15), kok, ?_⟩, fun u H6 e6 hu => q u H6 (e15.trans e6) (dp_up hu (later e15))⟩
  rcases ok with ⟨x, rfl, tx, lx, l59, how⟩ | ⟨ns, n, d, salt, rfl, rfl, bag, sq, ts, txt, rfl⟩ | ⟨n, d, rfl, rfl, sq, ou, bag, ou2, txt, rfl⟩
  · obtain rfl := p_str k4
    exact .inl ⟨x, rfl, tx, lx, l59, how⟩
  · obtain rfl := p_str k3
    cases k4
    have nb1 : v1 ≠ .non := fun z => by
      subst z
      cases k1
      rcases bag.1 with s | s <;> cases s
    exact .inr (.inl ⟨D1, ns, D2, n, d, salt, rfl, rfl, k1, bag, nb1, k2, sq, ts, txt, rfl⟩)
  · cases k4
    cases k1
    exact .inr (.inr ⟨D2, n, d, rfl, rfl, k2, sq, ou, bag, ou2, txt, rfl⟩)
/-! ### by hand: the same for the three names -/
def hx : List Str := ["city", "shop", "user"]
def hp : List (Str × Str) := [("shop", "city")]
theorem user_clo : closeF hx hp ["user"] = (["user"] : List Str) ∧ outF (hx ++ (["#"] : List Str)) ["user"] = none := by decide +kernel
theorem user_bag : Bag6 (tp ["user"]) ["user"] := ⟨.inr rfl, (fun y m => by rw [List.mem_singleton.mp m]; decide +kernel), by decide⟩
theorem user_tx {n d : Int} (h1 : n.toNat < 10 ^ 100) (h2 : d.toNat < 10 ^ 100) : TxOk ["user"] n d := ⟨h1, h2, by decide, by decide, by decide +kernel⟩
/-- a rate that is none -/
def badR : List (Int × Int) := [(2, 4), (0, 1), (3, 2), (-1, 2), (1, 0), (1, -2), (0, 5), (2, 2), (1000, 999)]
theorem badR_sh : ∀ r ∈ badR, shB r.1 r.2 = false := by decide +kernel
theorem hs_bad1 {r : Int × Int} (m : r ∈ badR) : HsD hx hp (tp ["user"]) (rtD r.1 r.2) (.str "") .none (.list [.str "share", rtD r.1 r.2]) := by
  have z := badR_sh r m
  exact .inr (.inl ⟨["user"], r.1, r.2, "", rfl, rfl, user_bag, .inr rfl, ⟨by decide +kernel, by decide⟩, (fun h => by rw [z] at h; cases h), (outS_sh user_clo.2 z).symm⟩)
theorem hs_bad2 {r : Int × Int} (m : r ∈ badR) : HsD hx hp .none (rtD r.1 r.2) (.str "") .none (.list [.str "share", rtD r.1 r.2]) := by
  have z := badR_sh r m
  refine .inr (.inr ⟨r.1, r.2, rfl, rfl, .inr rfl, user_clo.2, ?_, ?_, (fun h => by rw [z] at h; cases h), ?_⟩)
  · rw [user_clo.1]
    exact user_bag
  · rw [user_clo.1]
    exact user_clo.2
  · rw [user_clo.1]
    exact (outS_sh user_clo.2 z).symm
def badS : List Str := ["A", "abcdefghi", "a b", "1", " ", "#", "a-b"]
theorem hs_salt {s : Str} (m : s ∈ badS) : HsD hx hp (tp ["user"]) (rtD 1 2) (.str s) .none (.list [.str "salt", .str s]) := by
  have z : ∀ s ∈ badS, saltF s = false ∧ PyData.strOk s = true ∧ s.length ≤ 1000 := by decide +kernel
  obtain ⟨z1, z2, z3⟩ := z s m
  exact .inr (.inl ⟨["user"], 1, 2, s, rfl, rfl, user_bag, .inr rfl, ⟨z2, z3⟩, (fun _ => by rw [user_clo.1]; exact user_tx (by decide) (by decide)), (outS_st user_clo.2 (by decide +kernel) z1).symm⟩)
def badT : List Str := ["", "user", "user 1/2 a b", "user 2/4", "user 0", "user 1/1", "user 3/2", "user 01/2", "user 1/02", "user -1/2", "user 1/2 A", "user 1/2 abcdefghi", "user+ 1/2", "1/2 user", "user 1 /2", "user 1/2;", "user 0/1", "user 1.5", "user +1/2", "user 1_0/11", "user 1/2/3", "user 1/ 2", "user 1/+2", "a1 1/2", "a_ 1/2", "user+A 1/2", "user 1/2 a1", "user 1/2 a_"]
theorem hs_text {x : Str} (m : x ∈ badT) : HsD hx hp .none .none (.str "") (.str x) (.list [.str "text", .str x]) := by
  have z : ∀ x ∈ badT, (PyData.strOk x = true ∧ x.length ≤ 99) ∧ (∀ y ∈ wordsF x, y.length ≤ 59) ∧ spF x = none := by decide +kernel
  obtain ⟨⟨z1, z2⟩, z3, z4⟩ := z x m
  exact .inl ⟨x, rfl, ⟨z1, by omega⟩, z2, z3, .inl ⟨z4, rfl⟩⟩
theorem hs_x : HsD hx hp (tp ["x", "#"]) (rtD 2 4) (.str "A") .none (.list [.str "name", .str "x"]) := by
  have z : outF (hx ++ (["#"] : List Str)) ["x", "#"] = some ("x" : Str) ∧ (∀ y ∈ (["x", "#"] : List Str), PyData.strOk y = true) ∧ PyData.strOk "A" = true := by decide +kernel
  have z2 : shB 2 4 = false := by decide +kernel
  exact .inr (.inl ⟨["x", "#"], 2, 4, "A", rfl, rfl, ⟨.inr rfl, z.2.1, by decide⟩, .inr rfl, ⟨z.2.2, by decide⟩, (fun h => by rw [z2] at h; cases h), (outS_nm z.1).symm⟩)
theorem hs_A : HsD hx hp (tp ["user"]) (rtD 2 4) (.str "A") .none (.list [.str "share", rtD 2 4]) := by
  have z : shB 2 4 = false := by decide +kernel
  exact .inr (.inl ⟨["user"], 2, 4, "A", rfl, rfl, user_bag, .inr rfl, ⟨by decide +kernel, by decide⟩, (fun h => by rw [z] at h; cases h), (outS_sh user_clo.2 z).symm⟩)
/-- a text that can be read -/
theorem hs_good {x out salt : Str} {ns ks : List Str} {nd : Nat × Nat} (tx : PyData.strOk x = true ∧ x.length ≤ 99) (l59 : ∀ y ∈ wordsF x, y.length ≤ 59) (h : spF x = some (ns, nd, salt)) (hs : shB nd.1 nd.2 = true) (ht : saltF salt = true) (ts : PyData.strOk salt = true ∧ salt.length ≤ 1000) (ou : outF (hx ++ (["#"] : List Str)) ns = none) (hc : closeF hx hp ns = ks) (tk : TxOk ks nd.1 nd.2) (e : smT ks nd.1 nd.2 salt = out) : HsD hx hp .none .none (.str "") (.str x) (.str out) := by
  subst hc
  subst e
  exact .inl ⟨x, rfl, ⟨tx.1, by have := tx.2; omega⟩, tx.2, l59, .inr ⟨ns, nd, salt, h, hs, ht, ts, tk, (outS_ok ou hs ht).symm⟩⟩
theorem hs_none : HsD hx hp .none .none (.str "") (.str "- 1/2") (.str "- 1/2") := hs_good (ns := []) (nd := (1, 2)) (salt := "") (ks := []) (by decide +kernel) (by decide +kernel) (by decide +kernel) (by decide +kernel) (by decide +kernel) (by decide +kernel) (by decide +kernel) (by decide +kernel) ⟨by decide, by decide, by decide, by decide, by decide +kernel⟩ (by decide +kernel)
theorem hs_all : HsD hx hp .none .none (.str "") (.str "# 1 day") (.str "# 1 day") := hs_good (ns := ["#"]) (nd := (1, 1)) (salt := "day") (ks := ["#"]) (by decide +kernel) (by decide +kernel) (by decide +kernel) (by decide +kernel) (by decide +kernel) (by decide +kernel) (by decide +kernel) (by decide +kernel) ⟨by decide, by decide, by decide, by decide, by decide +kernel⟩ (by decide +kernel)
theorem hs_wide : HsD hx hp .none .none (.str "") (.str "  user+shop   999/1000  zz ") (.str "city+shop+user 999/1000 zz") := hs_good (ns := ["user", "shop"]) (nd := (999, 1000)) (salt := "zz") (ks := ["city", "shop", "user"]) (by decide +kernel) (by decide +kernel) (by decide +kernel) (by decide +kernel) (by decide +kernel) (by decide +kernel) (by decide +kernel) (by decide +kernel) ⟨by decide, by decide, by decide, by decide, by decide +kernel⟩ (by decide +kernel)
def goodS : List Str := ["abcdefgh", "ijklmnop", "qrstuvwx", "yz"]
theorem hs_s1 {s : Str} (m : s ∈ goodS) : HsD hx hp (tp ["user"]) (rtD 1 2) (.str s) .none (.str (("user 1/2 " : Str) ++ s)) := by
  have z : ∀ s ∈ goodS, saltF s = true ∧ (PyData.strOk s = true ∧ s.length ≤ 1000) ∧ smT ["user"] 1 2 s = ("user 1/2 " : Str) ++ s := by decide +kernel
  obtain ⟨z1, z2, z3⟩ := z s m
  have e := outS_ok (xs := hx) (ps := hp) (ns := ["user"]) (n := 1) (d := 2) (salt := s) user_clo.2 (by decide +kernel) z1
  rw [user_clo.1] at e
  exact .inr (.inl ⟨["user"], 1, 2, s, rfl, rfl, user_bag, .inr rfl, z2, (fun _ => by rw [user_clo.1]; exact user_tx (by decide) (by decide)), by rw [e, ← z3]; rfl⟩)
set_option maxHeartbeats 1000000 in
theorem hs_s2 {s : Str} (m : s ∈ goodS) : HsD hx hp .none .none (.str "") (.str (("user 1/2 " : Str) ++ s)) (.str (("user 1/2 " : Str) ++ s)) := by
  have z : ∀ s ∈ goodS, (PyData.strOk (("user 1/2 " : Str) ++ s) = true ∧ (("user 1/2 " : Str) ++ s).length ≤ 99) ∧ (∀ y ∈ wordsF (("user 1/2 " : Str) ++ s), y.length ≤ 59) ∧ spF (("user 1/2 " : Str) ++ s) = some ((["user"] : List Str), ((1 : Nat), (2 : Nat)), s) ∧ saltF s = true ∧ (PyData.strOk s = true ∧ s.length ≤ 1000) ∧ smT ["user"] 1 2 s = ("user 1/2 " : Str) ++ s := by decide +kernel
  obtain ⟨z1, z2, z3, z4, z5, z6⟩ := z s m
  exact hs_good z1 z2 z3 (by decide +kernel) z4 z5 user_clo.2 user_clo.1 (user_tx (by decide) (by decide)) z6
theorem hs_x12 : HsD hx hp .none .none (.str "") (.str "x 1/2") (.list [.str "name", .str "x"]) := by
  have z : (PyData.strOk "x 1/2" = true ∧ ("x 1/2" : Str).length ≤ 99) ∧ (∀ y ∈ wordsF "x 1/2", y.length ≤ 59) ∧ spF "x 1/2" = some ((["x"] : List Str), ((1 : Nat), (2 : Nat)), ("" : Str)) ∧ saltF "" = true ∧ outF (hx ++ (["#"] : List Str)) ["x"] = some ("x" : Str) ∧ closeF hx hp ["x"] = [] := by decide +kernel
  obtain ⟨z1, z2, z3, z4, z5, z6⟩ := z
  refine .inl ⟨_, rfl, ⟨z1.1, by omega⟩, z1.2, z2, .inr ⟨_, _, _, z3, by decide +kernel, z4, ⟨by decide +kernel, by decide⟩, ?_, (outS_nm z5).symm⟩⟩
  rw [z6]
  exact ⟨by decide, by decide, by decide, by decide, by decide +kernel⟩
theorem hs_xy : HsD hx hp .none .none (.str "") (.str "x+y 2/4") (.list [.str "text", .str "x+y 2/4"]) := by
  have z : (PyData.strOk "x+y 2/4" = true ∧ ("x+y 2/4" : Str).length ≤ 99) ∧ (∀ y ∈ wordsF "x+y 2/4", y.length ≤ 59) ∧ spF "x+y 2/4" = none := by decide +kernel
  exact .inl ⟨_, rfl, ⟨z.1.1, by omega⟩, z.1.2, z.2.1, .inl ⟨z.2.2, rfl⟩⟩
end
end S5

set_option Elab.async false
set_option linter.all false
set_option maxRecDepth 100000
namespace S5
open PySem PySem.Spec PyProof.Rows L2 Evl ZE ZS StX ZD RZ ZT ZX TL
section
variable {P : Program} {w : World} {K : PySem.W.Frag} {mg : Str → Option Value} {base : Heap} {aI : Addr}
/-! ### what the last defs call -/
structure MkK (P : Program) (w : World) (K : PySem.W.Frag) (mg : Str → Option Value) (base : Heap) (C : Addr) (f e0 : Addr) (fd : FuncData) (ds1 : List Value) : Prop where
  M : Mk K C f
  G : FnOk P w K mg base CX0 5 f fd ["self", "names", "tells"] (spInit K C)
  b : Binds K fd ["self", "names", "tells"] []
  m : mg "Keys" = some (.ref C)
  v1 : Vals [V.ref e0] ds1
  b1 : Binds K fd ["self", "names", "tells"] ds1
  e0 : ∀ H, Dp K H (.ref e0) (.tuple [])
/-- a Sampler by keywords alone, without a salt, and so on -/
def gSm (vs zs : List V) : List V := match zs with
  | [s, r, n, k] => vs ++ [k, n, r, s]
  | _ => vs ++ zs
def gSmV (vs zs : List Value) : List Value := match zs with
  | [s, r, n, k] => vs ++ [k, n, r, s]
  | _ => vs ++ zs
structure MkS2 (P : Program) (w : World) (K : PySem.W.Frag) (mg : Str → Option Value) (base : Heap) (Cs C Cn Ch Ct : Addr) (f : Addr) (fd : FuncData) (ds3 : List Value) : Prop extends MkS P w K mg base Cs C Cn Ch Ct f fd where
  v3 : Vals [V.str ""] ds3
  b3 : Binds K fd ["self", "keys", "names", "rate", "salt"] ds3
  bN : KBn K fd ["self", "keys", "names", "rate", "salt"] 1 ["salt", "rate", "names", "keys"] gSmV gSm
section
variable {σ : L2.St} {B H : Hp} {i j : Nat} {p C Cs Cn Ch Ct Cb : Addr} {xs : List Str} {ps : List (Str × Str)} {d : PyData} {ds : List PyData} {E E2 : XK} {te ta tk tn tr ts : TE} {tas : TA} {A Tt : PyData} {ns r : List Str} {tl : List (Str × Str)}
theorem e_make1 {e0 : Addr} (h0 : ∀ H, Dp K H (.ref e0) (.tuple [])) (h : EvDA K tas σ B [A]) (b : Ex B H) (sx : Sq A (ns.map .str)) (ox : Oks ns) (ln : ns.length < 64) (lc : (ZO.can ZO.sLt ns).length ≤ 5) (bk : Book (ZO.can ZO.sLt ns) []) {Q : VK}
    (q : ∀ p H2, Ex H H2 → Ky K C (sub H2 H B) p (ZO.can ZO.sLt ns) (pairsOf (ZO.can ZO.sLt ns) []) → Q (.ref p) H2) : tMake C (spInit K C) [V.ref e0] E tas σ H Q := h H b _ fun vs H1 e1 hv p dx hp hdx ne => by
  obtain ⟨v1, rfl, h1⟩ := one hv
  refine ⟨H1, sub H1 H B, p, dx, v1, .ref e0, A, .tuple [], ns, [], rfl, upd_same, hp, ?_, sub_le, h1, sx, ox, ln, lc, h0 _, rfl, rfl, bk, fun H2 e2 ky => ⟨rfl, q p H2 (e1.trans e2) (ky.up (later e1))⟩⟩
  intro a o ha
  rw [upd_ne (ne_of_none ha hp), upd_ne (ne_of_none ha hdx)]
  exact ha
/-! ### a list times a number -/
theorem dpa_rep {B : Hp} {vs : List V} {ds : List PyData} (h : DpAll K B vs ds) : ∀ k : Nat, DpAll K B (List.replicate k vs).flatten (List.replicate k ds).flatten
  | 0 => .nil
  | k + 1 => by
    rw [List.replicate_succ, List.replicate_succ, List.flatten_cons, List.flatten_cons]
    exact DpAll.app h (dpa_rep h k)
theorem ed_repD {k : Nat} (h : EvDA K tas σ B ds) (hn : EvD K te σ B (.int (k : Int))) (hk : k < 1000) (hl : ds.length ≤ 100) : EvD K (tOp rRep (tLst tas) te) σ B (.list (List.replicate k ds).flatten) := fun H1 b Q q => (el_lst h (by omega)) H1 b _ fun l vs H2 Bi e2 hl1 hl2 bb eb bl hv => hn H2 (b.trans e2) _ fun v H3 e3 hv3 => by
  obtain rfl := p_int hv3
  have n := DpAll.len hv
  refine ⟨l, k, vs, rfl, rfl, e3 _ _ hl2, by omega, by omega, ?_, fun p hp => ?_⟩
  · rw [Int.toNat_natCast, n]
    exact sz_of (Nat.le_trans (Nat.mul_le_mul hl (Nat.le_of_lt hk)) (by decide))
  · rw [Int.toNat_natCast]
    have e4 := (e2.trans e3).trans (Ex.new (o := .lst (List.replicate k vs).flatten) hp)
    exact q _ _ e4 (.lst (sq_of (new_at2 (e2.trans e3) hp)) (dpa_up (dpa_rep hv k) (eb.trans (sub_mono (e3.trans (Ex.new hp))))))
/-! ### expressions that make a Sampler -/
def EvS (K : PySem.W.Frag) (Cs C : Addr) (te : TE) (σ : L2.St) (B : Hp) (m : SmP) : Prop := ∀ H1, Ex B H1 → ∀ Q : VK, (∀ p a H2, Ex H1 H2 → Sm K Cs C (sub H2 H1 B) p a m.xs m.ps m.ks m.n m.d m.salt → Q (.ref p) H2) → te σ H1 Q
/-- a Sampler as it is made -/
structure SmG (m : SmP) : Prop where
  kok : KyOk m.xs m.ps
  bag : Bag6 (tp m.ks) m.ks
  ts : Tok' m.salt
  ou : outF (m.xs ++ (["#"] : List Str)) m.ks = none
  clo : closeF m.xs m.ps m.ks = m.ks
  sa : saltF m.salt = true
theorem SmG.k {m : SmP} (g : SmG m) : SmK m := ⟨g.kok, g.bag.2.1, g.ts.1⟩
theorem es_var {m : SmP} {a : Addr} (hi : σ[i]? = some (some (V.ref p))) (h : Sm K Cs C B p a m.xs m.ps m.ks m.n m.d m.salt) : EvS K Cs C (tVar i) σ B m := fun H1 b Q q => ⟨.ref p, hi, q p a H1 (Ex.refl H1) (h.up (le_sub b (Ex.refl H1)))⟩
theorem W_ok {a : Addr} {n d : Int} {salt : Str} {Q : VK} (ou : outF (xs ++ (["#"] : List Str)) ns = none) (sh : shB n d = true) (sa : saltF salt = true) (q : ∀ p H2, Ex H H2 → Sm K Cs C (sub H2 H B) p a xs ps (closeF xs ps ns) n d salt → Q (.ref p) H2) : SmW K Cs C Cn Ch Ct H B a xs ps ns n d salt Q E :=
  ⟨fun y h => (by rw [ou] at h; cases h), fun _ h => (by rw [sh] at h; cases h), fun _ _ h => (by rw [sa] at h; cases h), fun _ _ _ p H2 e sm => q p H2 e sm⟩
section
variable {R : PyData} {n e : Int} {salt : Str} (hk : EvK K C tk σ B xs ps) (kok : KyOk xs ps) (hn : EvD K tn σ B A) (bag : Bag6 A ns) (hr : EvD K tr σ B R) (sq : Sq R [.int n, .int e]) (ou : outF (xs ++ (["#"] : List Str)) ns = none) (sh : shB n e = true) (sa : saltF salt = true)
include hk kok hn bag hr sq ou sh sa
/-- Sampler(keys, names, rate, salt = ..) -/
theorem es_mk (hs : EvD K ts σ B (.str salt)) (tk' : Tok' salt) : EvS K Cs C (tMakeK Cs 3 1 (spSin K Cs C Cn Ch Ct) (fun vs zs => vs ++ zs) E (tCons tk (tCons tn (tCons tr tNil))) (tCons ts tNil)) σ B ⟨xs, ps, closeF xs ps ns, n, e, salt⟩ := fun H1 b Q q => hk H1 b _ fun a H2 e2 ky => hn H2 (b.trans e2) _ fun v2 H3 e3 h2 => hr H3 ((b.trans e2).trans e3) _ fun v3 H4 e4 h3 => hs H4 (((b.trans e2).trans e3).trans e4) _ fun v4 H5 e5 h4 => by
  obtain rfl := p_str h4
  have a5 := (At.start b (Ex.refl H1)).next (((e2.trans e3).trans e4).trans e5)
  exact ⟨rfl, rfl, mkS a5 (ky.up (sub_mono ((e3.trans e4).trans e5))) kok (dp_up h2 ((sub_step e2).trans (sub_mono (e4.trans e5)))) bag (dp_up h3 ((sub_step (e2.trans e3)).trans (sub_mono e5))) sq tk' (W_ok ou sh sa fun p H6 e6 sm => q p a H6 e6 sm)⟩
end
/-- Sampler(keys, names, rate) -/
theorem es_mk3 {R : PyData} {n e : Int} (hk : EvK K C tk σ B xs ps) (kok : KyOk xs ps) (hn : EvD K tn σ B A) (bag : Bag6 A ns) (hr : EvD K tr σ B R) (sq : Sq R [.int n, .int e]) (ou : outF (xs ++ (["#"] : List Str)) ns = none) (sh : shB n e = true) :
    EvS K Cs C (tMake Cs (spSin K Cs C Cn Ch Ct) [V.str ""] E (tCons tk (tCons tn (tCons tr tNil)))) σ B ⟨xs, ps, closeF xs ps ns, n, e, ""⟩ := fun H1 b Q q => hk H1 b _ fun a H2 e2 ky => hn H2 (b.trans e2) _ fun v2 H3 e3 h2 => hr H3 ((b.trans e2).trans e3) _ fun v3 H4 e4 h3 => by
  have a5 := (At.start b (Ex.refl H1)).next ((e2.trans e3).trans e4)
  exact mkS a5 (ky.up (sub_mono (e3.trans e4))) kok (dp_up h2 ((sub_step e2).trans (sub_mono e4))) bag (dp_up h3 (sub_step (e2.trans e3))) sq (salt := "") ⟨by decide +kernel, by decide⟩ (W_ok ou sh (by decide +kernel) fun p H6 e6 sm => q p a H6 e6 sm)
/-- Sampler(salt = .., rate = .., names = .., keys = ..) -/
theorem es_mkN {R : PyData} {n e : Int} {salt : Str} (hs : EvD K ts σ B (.str salt)) (tk' : Tok' salt) (hr : EvD K tr σ B R) (sq : Sq R [.int n, .int e]) (hn : EvD K tn σ B A) (bag : Bag6 A ns) (hk : EvK K C tk σ B xs ps) (kok : KyOk xs ps) (ou : outF (xs ++ (["#"] : List Str)) ns = none) (sh : shB n e = true) (sa : saltF salt = true) :
    EvS K Cs C (tMakeK Cs 0 4 (spSin K Cs C Cn Ch Ct) gSm E tNil (tCons ts (tCons tr (tCons tn (tCons tk tNil))))) σ B ⟨xs, ps, closeF xs ps ns, n, e, salt⟩ := fun H1 b Q q => hs H1 b _ fun v4 H2 e2 h4 => hr H2 (b.trans e2) _ fun v3 H3 e3 h3 => hn H3 ((b.trans e2).trans e3) _ fun v2 H4 e4 h2 => hk H4 (((b.trans e2).trans e3).trans e4) _ fun a H5 e5 ky => by
  obtain rfl := p_str h4
  have a5 := (At.start b (Ex.refl H1)).next (((e2.trans e3).trans e4).trans e5)
  exact ⟨rfl, rfl, mkS a5 (ky.up (sub_step ((e2.trans e3).trans e4))) kok (dp_up h2 ((sub_step (e2.trans e3)).trans (sub_mono e5))) bag (dp_up h3 ((sub_step e2).trans (sub_mono (e4.trans e5)))) sq tk' (W_ok ou sh sa fun p H6 e6 sm => q p a H6 e6 sm)⟩
theorem es_is {m m' : SmP} (h : EvS K Cs C te σ B m) (e : m = m') : EvS K Cs C te σ B m' := e ▸ h
theorem SmG.at {m : SmP} (g : SmG m) (n' e' : Int) : SmG { m with n := n', d := e' } := ⟨g.kok, g.bag, g.ts, g.ou, g.clo, g.sa⟩
/-- o.at(rate) -/
theorem es_at {m : SmP} {R : PyData} {n' e' : Int} (h : EvS K Cs C te σ B m) (g : SmG m) (hR : EvD K ta σ B R) (sq : Sq R [.int n', .int e']) (sh : shB n' e' = true) : EvS K Cs C (tMeth Cs "at" (spAt K Cs C Cn Ch Ct) [] E te (tCons ta tNil)) σ B { m with n := n', d := e' } := fun H1 b Q q => h H1 b _ fun p a H2 e2 sm => by
  obtain ⟨dx, fs, vk, vr, h1, l1, l2, l3, l4, l5, _⟩ := sm.ex
  refine ⟨p, dx, fs, rfl, sub_le p _ h1, l5 "at" (by decide +kernel) (by decide +kernel) (by decide +kernel) (by decide +kernel), hR H2 (b.trans e2) _ fun v H3 e3 hv => ?_⟩
  refine ⟨sub H3 H1 B, p, a, v, m.xs, m.ps, m.ks, m.n, m.d, m.salt, R, n', e', rfl, sub_le, sm.up (sub_mono e3), g.kok, g.bag, g.ts, dp_up hv (sub_step e2), sq, W_ok g.ou sh g.sa fun p6 H6 e6 sm6 => ?_⟩
  rw [g.clo] at sm6
  exact q p6 a H6 ((e2.trans e3).trans e6) (sm6.up (later (e2.trans e3)))
/-- o.at(rate = ..) -/
theorem es_atN {m : SmP} {R : PyData} {n' e' : Int} (h : EvS K Cs C te σ B m) (g : SmG m) (hR : EvD K ta σ B R) (sq : Sq R [.int n', .int e']) (sh : shB n' e' = true) : EvS K Cs C (tMethN Cs "at" 1 (spAt K Cs C Cn Ch Ct) (fun vs zs => vs ++ zs) E te (tCons ta tNil)) σ B { m with n := n', d := e' } := fun H1 b Q q => h H1 b _ fun p a H2 e2 sm => by
  obtain ⟨dx, fs, vk, vr, h1, l1, l2, l3, l4, l5, _⟩ := sm.ex
  refine ⟨p, dx, fs, rfl, sub_le p _ h1, l5 "at" (by decide +kernel) (by decide +kernel) (by decide +kernel) (by decide +kernel), hR H2 (b.trans e2) _ fun v H3 e3 hv => ⟨rfl, ?_⟩⟩
  refine ⟨sub H3 H1 B, p, a, v, m.xs, m.ps, m.ks, m.n, m.d, m.salt, R, n', e', rfl, sub_le, sm.up (sub_mono e3), g.kok, g.bag, g.ts, dp_up hv (sub_step e2), sq, W_ok g.ou sh g.sa fun p6 H6 e6 sm6 => ?_⟩
  rw [g.clo] at sm6
  exact q p6 a H6 ((e2.trans e3).trans e6) (sm6.up (later (e2.trans e3)))
def gSwVV (_ zs : List Value) : List Value := match zs with
  | [x, k] => [k, x]
  | _ => zs
/-- Sampler.of(text = .., keys = ..) -/
def gSwV (_ zs : List V) : List V := match zs with
  | [x, k] => [k, x]
  | _ => zs
theorem es_ofN {x : Str} {nd : Nat × Nat} {salt : Str} (hc : te σ = fun H Q => Q (.ref Cs) H) (hx : EvD K ts σ B (.str x)) (tx : Tok' x) (lx : x.length ≤ 99) (l59 : ∀ y ∈ wordsF x, y.length ≤ 59) (hk : EvK K C tk σ B xs ps) (kok : KyOk xs ps) (hs : spF x = some (ns, nd, salt)) (ou : outF (xs ++ (["#"] : List Str)) ns = none) (sh : shB nd.1 nd.2 = true) (sa : saltF salt = true) :
    EvS K Cs C (tSMethN Cs 2 (spSof K Cs C Cb Cn Ch Ct) gSwV E te (tCons ts (tCons tk tNil))) σ B ⟨xs, ps, closeF xs ps ns, nd.1, nd.2, salt⟩ := fun H1 b Q q => by
  show te σ H1 _
  rw [hc]
  refine ⟨rfl, hx H1 b _ fun v H2 e2 hv => hk H2 (b.trans e2) _ fun a H3 e3 ky => ?_⟩
  obtain rfl := p_str hv
  refine ⟨rfl, sub H3 H1 B, a, x, xs, ps, rfl, sub_le, ky.up (sub_step e2), kok, tx, lx, l59, (fun z => by rw [hs] at z; cases z), fun ns' nd' salt' hs' => ?_⟩
  rw [hs] at hs'
  injection hs' with z
  injection z with z1 z
  injection z with z2 z3
  subst z1 z2 z3
  exact W_ok ou sh sa fun p H6 e6 sm => q p a H6 ((e2.trans e3).trans e6) (sm.up (later (e2.trans e3)))
/-! ### what it tells -/
theorem es_prop {m : SmP} {Pm : List Str → Int → Int → Str → List PyData → PyData → Prop} (h : EvS K Cs C te σ B m) (hp : Pm m.ks m.n m.d m.salt [] d) : EvD K (tProp Cs (spSm K Cs C Pm) [] E te) σ B d := fun H1 b Q q => h H1 b _ fun p a H2 e2 sm => by
  obtain ⟨dx, fs, vk, vr, h1, _⟩ := sm.ex
  exact ⟨p, dx, fs, rfl, sub_le p _ h1, sub H2 H1 B, p, a, [], m.xs, m.ps, m.ks, m.n, m.d, m.salt, [], d, rfl, sub_le, sm, .nil, hp, fun v H3 e3 hd => q v H3 (e2.trans e3) (dp_up hd (later e2))⟩
theorem es_schema {m : SmP} (h : EvS K Cs C te σ B m) : EvK K C (tProp Cs (spSch K Cs C) [] E te) σ B m.xs m.ps := fun H1 b Q q => h H1 b _ fun p a H2 e2 sm => by
  obtain ⟨dx, fs, vk, vr, h1, l1, l2, l3, l4, l5, ky, _⟩ := sm.ex
  exact ⟨p, dx, fs, rfl, sub_le p _ h1, sub H2 H1 B, p, a, m.xs, m.ps, m.ks, m.n, m.d, m.salt, rfl, sub_le, sm, fun H3 e3 => q a H3 (e2.trans e3) ((ky.up (sub_mono e3)))⟩
/-! ### things beside it -/
def EvTs (K : PySem.W.Frag) (Cs C : Addr) (te : TE) (σ : L2.St) (B : Hp) (t : Option SmP) : Prop := ∀ H1, Ex B H1 → ∀ Q : VK, (∀ v H2, Ex H1 H2 → Ts K Cs C (sub H2 H1 B) v t → Q v H2) → te σ H1 Q
theorem ts_sm {m : SmP} (h : EvS K Cs C te σ B m) (ok : SmK m) : EvTs K Cs C te σ B (some m) := fun H1 b Q q => h H1 b _ fun p a H2 e2 sm => q _ H2 e2 (.o sm ok)
theorem ts_tup (h : EvD K te σ B (.tuple ds)) : EvTs K Cs C te σ B none := fun H1 b Q q => h H1 b _ fun v H2 e2 hv => q _ H2 e2 (.d hv)
theorem ts_str {x : Str} (h : EvD K te σ B (.str x)) : EvTs K Cs C te σ B none := fun H1 b Q q => h H1 b _ fun v H2 e2 hv => by
  obtain rfl := p_str hv
  exact q _ H2 e2 .s
/-- o == t, o != t -/
theorem ed_eqS {m : SmP} {t : Option SmP} {g : Bool → Bool} (S : Sc K Cs) (Tk : Tks K Cs) (h : EvS K Cs C te σ B m) (ok : SmK m) (h2 : EvTs K Cs C ta σ B t) : EvD K (tOp (rEqO K Cs (spEqS K Cs C) E g) te ta) σ B (.bool (g (eqS m t))) := fun H1 b Q q => h H1 b _ fun p a H2 e2 sm => h2 H2 (b.trans e2) _ fun v H3 e3 ht => by
  have sm3 := sm.up (show Ex (sub H2 H1 B) (sub H3 H1 B) from sub_mono e3)
  have ht3 := ht.up (show Ex (sub H3 H2 B) (sub H3 H1 B) from sub_step e2)
  obtain ⟨dx, fs, vk, vr, h1, _⟩ := sm3.ex
  obtain ⟨c, ty, nf, _⟩ := ht3.ty S Tk
  exact ⟨p, dx, fs, c, rfl, sub_le p _ h1, tyX_up ty sub_le, nf, sub H3 H1 B, p, a, v, m, t, rfl, sub_le, sm3, ok, ht3, fun H4 e4 => ⟨_, rfl, q _ _ ((e2.trans e3).trans e4) (.bl _)⟩⟩
/-- keys, x, y = Keys(..), e, f -/
theorem g_tupK3 {t : TS} {D : Ends} {k : Nat} {t2 t3 : TE} {d2 d3 : PyData} (h : EvK K C te σ B xs ps) (h2 : EvD K t2 σ B d2) (h3 : EvD K t3 σ B d3) (b : Ex B H) (q : ∀ p v u H2, Ex H H2 → Ky K C (sub H2 H B) p xs ps → Dp K (sub H2 H B) v d2 → Dp K (sub H2 H B) u d3 → t D (((σ.set i (some (.ref p))).set j (some v)).set k (some u)) H2) :
    tSeq (tAsg (tTup (tCons te (tCons t2 (tCons t3 tNil)))) (gTup K 3 (gCons (gName i) (gCons (gName j) (gCons (gName k) gNil))))) t D σ H := h H b _ fun p H2 e2 ky => h2 H2 (b.trans e2) _ fun v H3 e3 hv => h3 H3 ((b.trans e2).trans e3) _ fun u H4 e4 hu =>
  ⟨by show 3 ≤ sizeLine; decide, fun pq hp => ⟨pq, [.ref p, v, u], rfl, st_of upd_same, rfl, _, _, rfl, _, _, rfl, _, _, rfl, rfl, q p v u _ (((e2.trans e3).trans e4).trans (Ex.new hp)) (ky.up (sub_mono ((e3.trans e4).trans (Ex.new hp)))) (dp_up hv ((sub_step e2).trans (sub_mono (e4.trans (Ex.new hp))))) (dp_up hu ((sub_step (e2.trans e3)).trans (sub_mono (Ex.new hp))))⟩⟩
end
end
end S5

set_option Elab.async false
set_option linter.all false
set_option maxRecDepth 100000
namespace S5
open PySem PySem.Spec PyProof.Rows L2 Evl ZE ZS StX ZD RZ ZT ZX TL
section
variable {P : Program} {w : World} {K : PySem.W.Frag} {mg : Str → Option Value} {base : Heap} {aI : Addr}
theorem all_oks {xs : List Str} (h : xs.all PyData.strOk = true) : Oks xs := fun x m => List.all_eq_true.mp h x m
theorem bk_of {xs : List Str} {ts : List (Str × Str)} (h : xs.all PyData.strOk = true) (l : xs.length ≤ 20) (l2 : ts.length ≤ 100) (ins : ∀ p ∈ ts, p.1 ∈ xs ∧ p.2 ∈ xs) (no : ∀ a ∈ xs, fwR xs (memR ts) a a = false) : Book xs ts := ⟨all_oks h, l, l2, ins, no⟩
theorem kok_of {xs : List Str} {ts : List (Str × Str)} (h : xs.all PyData.strOk = true) (l : xs.length ≤ 5) : KyOk xs (pairsOf xs ts) := ⟨all_oks h, l, pairs_prs (all_oks h) l⟩
section
variable {σ : L2.St} {B : Hp} {C : Addr} {tas : TA} {E : XK} {A Tt : PyData} {ns xs : List Str} {ts : List (Str × Str)}
theorem ek_mk2 (h : EvDA K tas σ B [A, Tt]) (sx : Sq A (ns.map .str)) (ox : ns.all PyData.strOk = true) (ln : ns.length < 64) (hc : ZO.can ZO.sLt ns = xs) (lc : xs.length ≤ 5) (okt : fzOk 2 Tt = true) (et : fz 2 Tt = .tuple (ts.map pr)) (bk : Book xs ts) : EvK K C (tMake C (spInit K C) [] E tas) σ B xs (pairsOf xs ts) := fun H1 b Q q => by
  subst hc
  exact e_make h b sx (all_oks ox) ln lc okt et bk q
theorem ek_mk1 {e0 : Addr} (h0 : ∀ H, Dp K H (.ref e0) (.tuple [])) (h : EvDA K tas σ B [A]) (sx : Sq A (ns.map .str)) (ox : ns.all PyData.strOk = true) (ln : ns.length < 64) (hc : ZO.can ZO.sLt ns = xs) (lc : xs.length ≤ 5) (bk : Book xs []) : EvK K C (tMake C (spInit K C) [V.ref e0] E tas) σ B xs (pairsOf xs []) := fun H1 b Q q => by
  subst hc
  exact e_make1 h0 h b sx (all_oks ox) ln lc bk q
end
/-! ### by hand: what is due -/
def shE (r : Int × Int) : PyData := .list [.str "share", rtD r.1 r.2]
def two1 (r : Int × Int) : List PyData := [shE r, shE r]
def g1 : List PyData := badR.flatMap two1 ++ [.list [.str "name", .str "x"], .list [.str "share", rtD 2 4]]
def stE (s : Str) : PyData := .list [.str "salt", .str s]
def g2 : List PyData := g1 ++ badS.map stE
def txs : List Str := badT ++ (["x 1/2", "x+y 2/4"] : List Str)
def txE (x : Str) : PyData := if x = "x 1/2" then .list [.str "name", .str "x"] else .list [.str "text", .str x]
def g3 : List PyData := g2 ++ txs.map txE
def goodT : List Str := ["- 1/2", "# 1 day", "  user+shop   999/1000  zz "]
def gtE (x : Str) : PyData := if x = "  user+shop   999/1000  zz " then .str "city+shop+user 999/1000 zz" else .str x
def g4 : List PyData := g3 ++ goodT.map gtE
def two2 (s : Str) : List PyData := [.str (("user 1/2 " : Str) ++ s), .str (("user 1/2 " : Str) ++ s)]
def g5 : List PyData := g4 ++ goodS.flatMap two2
def endD : List PyData := [.bool true, tp ["city", "shop"], rtD 1 4, .str "", .str "city+shop 1/4", .bool false, .bool false, .bool true, .bool false]
def g6 : List PyData := g5 ++ endD
theorem txs_ok : ∀ x ∈ txs, HsD hx hp .none .none (.str "") (.str x) (txE x) := fun x m => by
  rcases List.mem_append.mp m with m | m
  · have z : ∀ x ∈ badT, x ≠ "x 1/2" := by decide +kernel
    unfold txE
    rw [if_neg (z x m)]
    exact hs_text m
  · rcases List.mem_cons.mp m with rfl | m
    · exact hs_x12
    · rw [List.mem_singleton.mp m]
      exact hs_xy
theorem goodT_ok : ∀ x ∈ goodT, HsD hx hp .none .none (.str "") (.str x) (gtE x) := fun x m => by
  rcases List.mem_cons.mp m with rfl | m
  · exact hs_none
  · rcases List.mem_cons.mp m with rfl | m
    · exact hs_all
    · rw [List.mem_singleton.mp m]
      exact hs_wide
theorem flat_step {α : Type} (f : α → List PyData) {l : List α} {i : Nat} {r : α} (h : l[i]? = some r) : (l.take (i + 1)).flatMap f = (l.take i).flatMap f ++ f r := by
  rw [List.take_succ, h, List.flatMap_append]
  show _ ++ (f r ++ []) = _
  rw [List.append_nil]
theorem map_step {α : Type} (f : α → PyData) {l : List α} {i : Nat} {r : α} (h : l[i]? = some r) : (l.take (i + 1)).map f = (l.take i).map f ++ [f r] := by
  rw [List.take_succ, h, List.map_append]
  rfl
theorem flat2_len {α : Type} (f : α → List PyData) (hf : ∀ x, (f x).length ≤ 2) : ∀ l : List α, (l.flatMap f).length ≤ 2 * l.length
  | [] => Nat.le_refl _
  | x :: l => by
    have := flat2_len f hf l
    have := hf x
    rw [List.flatMap_cons, List.length_append, List.length_cons]
    omega
theorem flat2_len' {α : Type} (f : α → List PyData) (hf : ∀ x, (f x).length ≤ 2) (l : List α) (i : Nat) : ((l.take i).flatMap f).length ≤ 2 * l.length := by
  have h1 := flat2_len f hf (l.take i)
  have h2 := List.length_take_le' i l
  omega
theorem map_len' {α : Type} (f : α → PyData) (l : List α) (i : Nat) : ((l.take i).map f).length ≤ l.length := by
  rw [List.length_map]
  exact List.length_take_le' i l
theorem hp_is : pairsOf hx hp = hp := by decide +kernel
theorem hkok : KyOk hx hp := hp_is ▸ kok_of (ts := hp) (by decide +kernel) (by decide)
def hm : SmP := ⟨hx, hp, ["city", "shop"], 1, 4, ""⟩
theorem hmG : SmG hm := ⟨hkok, ⟨.inr rfl, all_oks (by decide +kernel), by decide⟩, ⟨by decide +kernel, by decide⟩, by decide +kernel, by decide +kernel, by decide +kernel⟩
def hbP (ds : List PyData) (d : PyData) : Prop := ds = [] ∧ d = .bool true
abbrev sLByHandRight : Stmt := (top 51)
abbrev NLByHandRight : List Str := ["_law_keyring", "_law_got", "_law_due", "_law_rate_so", "_law_salt_so", "_law_bad", "_law_flat", "_law_one_so"]
theorem scLByHandRight : FnScope NLByHandRight [] (defScope sLByHandRight) := ⟨rfl, rfl, rfl, by decide +kernel, rfl, by decide +kernel, by decide +kernel⟩
set_option maxHeartbeats 0 in
theorem ok_hand {f C Cs Cn Ch Ct fs fi e0 fh fS fa fq fqK p1 p2 p3 p4 p5 h1 h2 h3 h4 h5 : Addr} {fd fds fdi fdh fdS fda fdq fdqK fd1 fd2 fd3 fd4 fd5 : FuncData} {ds1 ds3 : List Value} (F : Fun K "_law_by_hand_right" "_law_by_hand_right" sLByHandRight f fd) (T : Tx K mg aI) (Tc : Kc K C) (Tk_ : Tk K C) (S : Sc K Cs) (Tks_ : Tks K Cs) (MK : MkK P w K mg base C fi e0 fdi ds1) (MS : MkS2 P w K mg base Cs C Cn Ch Ct fS fdS ds3)
    (PSc : PrS P w K mg base Cs 1 "schema" (spSch K Cs C) p1 h1 fd1) (PKe : PrS P w K mg base Cs 1 "keyset" (spSm K Cs C skP) p2 h2 fd2) (PRa : PrS P w K mg base Cs 1 "rate" (spSm K Cs C srP) p3 h3 fd3) (PSa : PrS P w K mg base Cs 1 "salt" (spSm K Cs C stP') p4 h4 fd4) (PTe : PrS P w K mg base Cs 2 "text" (spSm K Cs C smtP) p5 h5 fd5)
    (Mat : MeK P w K mg base (L2.CX P w) Cs 8 "at" ["self", "rate"] (spAt K Cs C Cn Ch Ct) fa fda) (Meq : MeK P w K mg base CX0 Cs 3 "__eq__" ["self", "other"] (spEqS K Cs C) fq fdq) (MeqK : MeK P w K mg base CX0 C 1 "__eq__" ["self", "other"] (spEqK K C) fqK fdqK)
    (C_law_heard : Cal P w K mg base 9 "_law_heard" ["_law_keyring", "_law_bag", "_law_rate_so", "_law_salt_so", "_law_flat"] (spHs K C) fh fdh) (C_law_same : Cal P w K mg base 4 "_law_same" ["_law_got", "_law_goal"] (spD K (smP 3)) fs fds) : FnOk P w K mg base CX0 10 f fd [] (spD K hbP) := by
  refine F.ok scLByHandRight (fun vs H Q E h => ?_) (fun cdv A outer s H vs Q E hr h => ?_)
  · obtain ⟨B, ds, d, b, hv, ⟨rfl, _⟩, _⟩ := h
    exact DpAll.len hv
  · obtain ⟨B, ds, d, b, hv, ⟨rfl, rfl⟩, q⟩ := h
    cases hv
    refine ⟨_, (pss_cons (ps_asg (pe_tup (pa_cons (pe_make MK.M MK.G (hr.mono (by decide)) (by rfl) MK.m MK.b .nil pass0 (pa_cons (pe_tup (pa_cons pe_str (pa_cons pe_str (pa_cons pe_str pa_nil)))) (pa_cons (pe_tup (pa_cons (pe_tup (pa_cons pe_str (pa_cons pe_str pa_nil))) pa_nil)) pa_nil))) (pa_cons (pe_lst pa_nil) (pa_cons (pe_lst pa_nil) pa_nil)))) (xTup K 3 rfl (pgs_cons (pg_name (i := 0) scLByHandRight.nd rfl (by first | exact .inl rfl | exact .inr rfl)) (pgs_cons (pg_name (i := 1) scLByHandRight.nd rfl (by first | exact .inl rfl | exact .inr rfl)) (pgs_cons (pg_name (i := 2) scLByHandRight.nd rfl (by first | exact .inl rfl | exact .inr rfl)) pgs_nil))))) (pss_cons (ps_for PassesOwn.never rfl (xSeq K (pe_lst (pa_cons (pe_tup (pa_cons pe_int (pa_cons pe_int pa_nil))) (pa_cons (pe_tup (pa_cons pe_int (pa_cons pe_int pa_nil))) (pa_cons (pe_tup (pa_cons pe_int (pa_cons pe_int pa_nil))) (pa_cons (pe_tup (pa_cons (pe_un un_neg pe_int) (pa_cons pe_int pa_nil))) (pa_cons (pe_tup (pa_cons pe_int (pa_cons pe_int pa_nil))) (pa_cons (pe_tup (pa_cons pe_int (pa_cons (pe_un un_neg pe_int) pa_nil))) (pa_cons (pe_tup (pa_cons pe_int (pa_cons pe_int pa_nil))) (pa_cons (pe_tup (pa_cons pe_int (pa_cons pe_int pa_nil))) (pa_cons (pe_tup (pa_cons pe_int (pa_cons pe_int pa_nil))) pa_nil))))))))))) (pg_name (i := 3) scLByHandRight.nd rfl (by first | exact .inl rfl | exact .inr rfl)) (pss_cons (ps_set (i := 1) scLByHandRight.nd rfl (by first | exact .inl rfl | exact .inr rfl) (pe_op (xCatL K) (pv 1) (pe_lst (pa_cons (pe_call C_law_heard.G (hr.mono (by decide)) (by rfl) C_law_heard.m C_law_heard.kp C_law_heard.b .nil pass0 (pa_cons (pv 0) (pa_cons (pe_tup (pa_cons pe_str pa_nil)) (pa_cons (pv 3) (pa_cons pe_str (pa_cons pe_non pa_nil)))))) (pa_cons (pe_call C_law_heard.G (hr.mono (by decide)) (by rfl) C_law_heard.m C_law_heard.kp C_law_heard.b .nil pass0 (pa_cons (pv 0) (pa_cons pe_non (pa_cons (pv 3) (pa_cons pe_str (pa_cons pe_non pa_nil)))))) pa_nil))))) (pss_one (ps_set (i := 2) scLByHandRight.nd rfl (by first | exact .inl rfl | exact .inr rfl) (pe_op (xCatL K) (pv 2) (pe_op op_rep (pe_lst (pa_cons (pe_lst (pa_cons pe_str (pa_cons (pv 3) pa_nil))) pa_nil)) pe_int)))))) (pss_cons (ps_set (i := 1) scLByHandRight.nd rfl (by first | exact .inl rfl | exact .inr rfl) (pe_op (xCatL K) (pv 1) (pe_lst (pa_cons (pe_call C_law_heard.G (hr.mono (by decide)) (by rfl) C_law_heard.m C_law_heard.kp C_law_heard.b .nil pass0 (pa_cons (pv 0) (pa_cons (pe_tup (pa_cons pe_str (pa_cons pe_str pa_nil))) (pa_cons (pe_tup (pa_cons pe_int (pa_cons pe_int pa_nil))) (pa_cons pe_str (pa_cons pe_non pa_nil)))))) (pa_cons (pe_call C_law_heard.G (hr.mono (by decide)) (by rfl) C_law_heard.m C_law_heard.kp C_law_heard.b .nil pass0 (pa_cons (pv 0) (pa_cons (pe_tup (pa_cons pe_str pa_nil)) (pa_cons (pe_tup (pa_cons pe_int (pa_cons pe_int pa_nil))) (pa_cons pe_str (pa_cons pe_non pa_nil)))))) pa_nil))))) (pss_cons (ps_set (i := 2) scLByHandRight.nd rfl (by first | exact .inl rfl | exact .inr rfl) (pe_op (xCatL K) (pv 2) (pe_lst (pa_cons (pe_lst (pa_cons pe_str (pa_cons pe_str pa_nil))) (pa_cons (pe_lst (pa_cons pe_str (pa_cons (pe_tup (pa_cons pe_int (pa_cons pe_int pa_nil))) pa_nil))) pa_nil))))) (pss_cons (ps_for PassesOwn.never rfl (xSeq K (pe_lst (pa_cons pe_str (pa_cons pe_str (pa_cons pe_str (pa_cons pe_str (pa_cons pe_str (pa_cons pe_str (pa_cons pe_str pa_nil))))))))) (pg_name (i := 4) scLByHandRight.nd rfl (by first | exact .inl rfl | exact .inr rfl)) (pss_cons (ps_expr (pe_bm PySem.F.plainAttrs_list PySem.F.slot_list_append PySem.F.type_list_append mt_append (pv 1) (pa_cons (pe_call C_law_heard.G (hr.mono (by decide)) (by rfl) C_law_heard.m C_law_heard.kp C_law_heard.b .nil pass0 (pa_cons (pv 0) (pa_cons (pe_tup (pa_cons pe_str pa_nil)) (pa_cons (pe_tup (pa_cons pe_int (pa_cons pe_int pa_nil))) (pa_cons (pv 4) (pa_cons pe_non pa_nil)))))) pa_nil))) (pss_one (ps_expr (pe_bm PySem.F.plainAttrs_list PySem.F.slot_list_append PySem.F.type_list_append mt_append (pv 2) (pa_cons (pe_lst (pa_cons pe_str (pa_cons (pv 4) pa_nil))) pa_nil)))))) (pss_cons (ps_set (i := 5) scLByHandRight.nd rfl (by first | exact .inl rfl | exact .inr rfl) (pe_lst (pa_cons pe_str (pa_cons pe_str (pa_cons pe_str (pa_cons pe_str (pa_cons pe_str (pa_cons pe_str (pa_cons pe_str (pa_cons pe_str (pa_cons pe_str pa_nil))))))))))) (pss_cons (ps_set (i := 5) scLByHandRight.nd rfl (by first | exact .inl rfl | exact .inr rfl) (pe_op (xCatL K) (pv 5) (pe_lst (pa_cons pe_str (pa_cons pe_str (pa_cons pe_str (pa_cons pe_str (pa_cons pe_str (pa_cons pe_str (pa_cons pe_str pa_nil)))))))))) (pss_cons (ps_set (i := 5) scLByHandRight.nd rfl (by first | exact .inl rfl | exact .inr rfl) (pe_op (xCatL K) (pv 5) (pe_lst (pa_cons pe_str (pa_cons pe_str (pa_cons pe_str (pa_cons pe_str (pa_cons pe_str (pa_cons pe_str (pa_cons pe_str pa_nil)))))))))) (pss_cons (ps_set (i := 5) scLByHandRight.nd rfl (by first | exact .inl rfl | exact .inr rfl) (pe_op (xCatL K) (pv 5) (pe_lst (pa_cons pe_str (pa_cons pe_str (pa_cons pe_str (pa_cons pe_str (pa_cons pe_str pa_nil)))))))) (pss_cons (ps_set (i := 1) scLByHandRight.nd rfl (by first | exact .inl rfl | exact .inr rfl) (pe_op (xCatL K) (pv 1) (pe_lc (own := [("_law_flat", 6)]) rfl scLByHandRight.nd (xSeq K (pe_op (xCatL K) (pv 5) (pe_lst (pa_cons pe_str (pa_cons pe_str pa_nil))))) (blkOk_by (N := NLByHandRight) (sc := defScope sLByHandRight) (by decide +kernel)) (fun _ _ _ _ _ => (pg_name (i := 6) scLByHandRight.nd rfl (by first | exact .inl rfl | exact .inr rfl))) (fun _ _ _ _ _ => pts_nil) (fun _ _ _ _ _ => (pe_call C_law_heard.G (hr.mono (by decide)) (by rfl) C_law_heard.m C_law_heard.kp C_law_heard.b .nil pass0 (pa_cons (pv 0) (pa_cons pe_non (pa_cons pe_non (pa_cons pe_str (pa_cons (pv 6) pa_nil)))))))))) (pss_cons (ps_set (i := 2) scLByHandRight.nd rfl (by first | exact .inl rfl | exact .inr rfl) (pe_op (xCatL K) (pe_op (xCatL K) (pv 2) (pe_lc (own := [("_law_flat", 6)]) rfl scLByHandRight.nd (xSeq K (pv 5)) (blkOk_by (N := NLByHandRight) (sc := defScope sLByHandRight) (by decide +kernel)) (fun _ _ _ _ _ => (pg_name (i := 6) scLByHandRight.nd rfl (by first | exact .inl rfl | exact .inr rfl))) (fun _ _ _ _ _ => pts_nil) (fun _ _ _ _ _ => (pe_lst (pa_cons pe_str (pa_cons (pv 6) pa_nil)))))) (pe_lst (pa_cons (pe_lst (pa_cons pe_str (pa_cons pe_str pa_nil))) (pa_cons (pe_lst (pa_cons pe_str (pa_cons pe_str pa_nil))) pa_nil))))) (pss_cons (ps_for PassesOwn.never rfl (xSeq K (pe_lst (pa_cons pe_str (pa_cons pe_str (pa_cons pe_str pa_nil))))) (pg_name (i := 6) scLByHandRight.nd rfl (by first | exact .inl rfl | exact .inr rfl)) (pss_one (ps_expr (pe_bm PySem.F.plainAttrs_list PySem.F.slot_list_append PySem.F.type_list_append mt_append (pv 1) (pa_cons (pe_call C_law_heard.G (hr.mono (by decide)) (by rfl) C_law_heard.m C_law_heard.kp C_law_heard.b .nil pass0 (pa_cons (pv 0) (pa_cons pe_non (pa_cons pe_non (pa_cons pe_str (pa_cons (pv 6) pa_nil)))))) pa_nil))))) (pss_cons (ps_set (i := 2) scLByHandRight.nd rfl (by first | exact .inl rfl | exact .inr rfl) (pe_op (xCatL K) (pv 2) (pe_lst (pa_cons pe_str (pa_cons pe_str (pa_cons pe_str pa_nil)))))) (pss_cons (ps_for PassesOwn.never rfl (xSeq K (pe_lst (pa_cons pe_str (pa_cons pe_str (pa_cons pe_str (pa_cons pe_str pa_nil)))))) (pg_name (i := 4) scLByHandRight.nd rfl (by first | exact .inl rfl | exact .inr rfl)) (pss_cons (ps_set (i := 1) scLByHandRight.nd rfl (by first | exact .inl rfl | exact .inr rfl) (pe_op (xCatL K) (pv 1) (pe_lst (pa_cons (pe_call C_law_heard.G (hr.mono (by decide)) (by rfl) C_law_heard.m C_law_heard.kp C_law_heard.b .nil pass0 (pa_cons (pv 0) (pa_cons (pe_tup (pa_cons pe_str pa_nil)) (pa_cons (pe_tup (pa_cons pe_int (pa_cons pe_int pa_nil))) (pa_cons (pv 4) (pa_cons pe_non pa_nil)))))) pa_nil)))) (pss_cons (ps_expr (pe_bm PySem.F.plainAttrs_list PySem.F.slot_list_append PySem.F.type_list_append mt_append (pv 1) (pa_cons (pe_call C_law_heard.G (hr.mono (by decide)) (by rfl) C_law_heard.m C_law_heard.kp C_law_heard.b .nil pass0 (pa_cons (pv 0) (pa_cons pe_non (pa_cons pe_non (pa_cons pe_str (pa_cons (pe_op op_add_str pe_str (pv 4)) pa_nil)))))) pa_nil))) (pss_one (ps_set (i := 2) scLByHandRight.nd rfl (by first | exact .inl rfl | exact .inr rfl) (pe_op (xCatL K) (pv 2) (pe_op op_rep (pe_lst (pa_cons (pe_op op_add_str pe_str (pv 4)) pa_nil)) pe_int))))))) (pss_cons (ps_set (i := 7) scLByHandRight.nd rfl (by first | exact .inl rfl | exact .inr rfl) (pe_makeK MS.M MS.G (hr.mono (by decide)) (by rfl) MS.m MS.b4 passL (pa_cons (pv 0) (pa_cons (pe_lst (pa_cons pe_str pa_nil)) (pa_cons (pe_lst (pa_cons pe_int (pa_cons pe_int pa_nil))) pa_nil))) (pk_cons pe_str pk_nil))) (pss_cons (ps_set (i := 1) scLByHandRight.nd rfl (by first | exact .inl rfl | exact .inr rfl) (pe_op (xCatL K) (pv 1) (pe_lst (pa_cons (pe_cmpR (op_eqO MeqK.m MeqK.G (hr.mono (by decide)) MeqK.b pass0) (pe_propX S.cl PSc.po PSc.G (hr.mono (by decide)) PSc.b .nil pass0 (pv 7) rfl) (pv 0) (nomark _)) (pa_cons (pe_propX S.cl PKe.po PKe.G (hr.mono (by decide)) PKe.b .nil pass0 (pv 7) rfl) (pa_cons (pe_propX S.cl PRa.po PRa.G (hr.mono (by decide)) PRa.b .nil pass0 (pv 7) rfl) (pa_cons (pe_propX S.cl PSa.po PSa.G (hr.mono (by decide)) PSa.b .nil pass0 (pv 7) rfl) (pa_cons (pe_propX S.cl PTe.po PTe.G (hr.mono (by decide)) PTe.b .nil pass0 (pv 7) rfl) pa_nil)))))))) (pss_cons (ps_set (i := 1) scLByHandRight.nd rfl (by first | exact .inl rfl | exact .inr rfl) (pe_op (xCatL K) (pv 1) (pe_lst (pa_cons (pe_cmpR (op_eqO Meq.m Meq.G (hr.mono (by decide)) Meq.b pass0) (pv 7) pe_str (nomark _)) (pa_cons (pe_cmpR (op_eqO Meq.m Meq.G (hr.mono (by decide)) Meq.b pass0) (pv 7) (pe_make MS.M MS.G (hr.mono (by decide)) (by rfl) MS.m MS.b3 MS.v3 passL (pa_cons (pv 0) (pa_cons (pe_tup (pa_cons pe_str pa_nil)) (pa_cons (pe_tup (pa_cons pe_int (pa_cons pe_int pa_nil))) pa_nil)))) (nomark _)) pa_nil))))) (pss_cons (ps_set (i := 1) scLByHandRight.nd rfl (by first | exact .inl rfl | exact .inr rfl) (pe_op (xCatL K) (pv 1) (pe_lst (pa_cons (pe_cmpR (op_eqO Meq.m Meq.G (hr.mono (by decide)) Meq.b pass0) (pv 7) (pe_make MS.M MS.G (hr.mono (by decide)) (by rfl) MS.m MS.b3 MS.v3 passL (pa_cons (pv 0) (pa_cons (pe_tup (pa_cons pe_str (pa_cons pe_str pa_nil))) (pa_cons (pe_tup (pa_cons pe_int (pa_cons pe_int pa_nil))) pa_nil)))) (nomark _)) (pa_cons (pe_cmpR (op_eqO Meq.m Meq.G (hr.mono (by decide)) Meq.b pass0) (pv 7) (pe_meth (pv 7) S.cl Mat.m Mat.G (hr.mono (by decide)) Mat.b .nil passL (pa_cons (pe_tup (pa_cons pe_int (pa_cons pe_int pa_nil))) pa_nil)) (nomark _)) pa_nil))))) (pss_one (ps_ret (pe_call C_law_same.G (hr.mono (by decide)) (by rfl) C_law_same.m C_law_same.kp C_law_same.b .nil pass0 (pa_cons (pv 1) (pa_cons (pe_op (xCatL K) (pv 2) (pe_lst (pa_cons pe_bl (pa_cons (pe_tup (pa_cons pe_str (pa_cons pe_str pa_nil))) (pa_cons (pe_tup (pa_cons pe_int (pa_cons pe_int pa_nil))) (pa_cons pe_str (pa_cons pe_str (pa_cons pe_bl (pa_cons pe_bl (pa_cons pe_bl (pa_cons pe_bl pa_nil))))))))))) pa_nil))))))))))))))))))))))), ?_⟩
    have s0 : ∀ {σ : L2.St} {B : Hp}, EvD K (tTup tNil) σ B (tp []) := fun {_ _} => ed_tup ea_nilD (by show 0 ≤ 100000; decide)
    have s1 : ∀ {σ : L2.St} {B : Hp} (x0 : Str), EvD K (tTup (tCons (tC (.str x0)) tNil)) σ B (tp [x0]) := fun x0 => ed_tup (ea_consD (ed_str x0) ea_nilD) (by show 1 ≤ 100000; decide)
    have s2 : ∀ {σ : L2.St} {B : Hp} (x0 x1 : Str), EvD K (tTup (tCons (tC (.str x0)) (tCons (tC (.str x1)) tNil))) σ B (tp [x0, x1]) := fun x0 x1 => ed_tup (ea_consD (ed_str x0) (ea_consD (ed_str x1) ea_nilD)) (by show 2 ≤ 100000; decide)
    have s3 : ∀ {σ : L2.St} {B : Hp} (x0 x1 x2 : Str), EvD K (tTup (tCons (tC (.str x0)) (tCons (tC (.str x1)) (tCons (tC (.str x2)) tNil)))) σ B (tp [x0, x1, x2]) := fun x0 x1 x2 => ed_tup (ea_consD (ed_str x0) (ea_consD (ed_str x1) (ea_consD (ed_str x2) ea_nilD))) (by show 3 ≤ 100000; decide)
    have r2 : ∀ {σ : L2.St} {B : Hp} (x y : Int), EvD K (tTup (tCons (tC (.int x)) (tCons (tC (.int y)) tNil))) σ B (rtD x y) := fun x y => ed_tup (ea_consD (ed_int x) (ea_consD (ed_int y) ea_nilD)) (by show 2 ≤ 100000; decide)
    have n2 : ∀ {σ : L2.St} {B : Hp} (x y : Str), EvD K (tLst (tCons (tC (.str x)) (tCons (tC (.str y)) tNil))) σ B (.list [.str x, .str y]) := fun x y => ed_lst (ea_consD (ed_str x) (ea_consD (ed_str y) ea_nilD)) (by show 2 ≤ 100000; decide)
    have a0 := At.start b (Ex.refl H)
    refine g_tupK3 (d2 := .list []) (d3 := .list []) (ek_mk2 (ns := ["city", "shop", "user"]) (xs := hx) (ts := hp) (ea_consD (s3 "city" "shop" "user") (ea_consD (ed_tup (ea_consD (s2 "shop" "city") ea_nilD) (by show 1 ≤ 100000; decide)) ea_nilD)) (.inr rfl) (by decide +kernel) (by decide) (by decide +kernel) (by decide) rfl rfl (bk_of (by decide +kernel) (by decide) (by decide) (by decide +kernel) (by decide +kernel))) (ed_lst ea_nilD (by decide)) (ed_lst ea_nilD (by decide)) a0.b fun p v1 v2 H1 e1 ky got due => ?_
    rw [hp_is] at ky
    have a1 := a0.next e1
    generalize sub H1 H B = B1 at a1 ky got due
    -- the rates
    refine for_sq (fun B2 i σ' H' => ∃ B3, (∃ g d o3, σ' = [some (.ref p), some g, some d, o3, none, none, none, none] ∧ Dp K B3 g (.list ((badR.take i).flatMap two1)) ∧ Dp K B3 d (.list ((badR.take i).flatMap two1))) ∧ Ex B1 B2 ∧ Ex B2 B3 ∧ At H B H B3 H') ((ed_is (ed_lst (ea_consD (ed_tup (ea_consD (ed_int 2) (ea_consD (ed_int 4) ea_nilD)) (by show 2 ≤ 100000; decide)) (ea_consD (ed_tup (ea_consD (ed_int 0) (ea_consD (ed_int 1) ea_nilD)) (by show 2 ≤ 100000; decide)) (ea_consD (ed_tup (ea_consD (ed_int 3) (ea_consD (ed_int 2) ea_nilD)) (by show 2 ≤ 100000; decide)) (ea_consD (ed_tup (ea_consD (ed_neg (ed_int 1)) (ea_consD (ed_int 2) ea_nilD)) (by show 2 ≤ 100000; decide)) (ea_consD (ed_tup (ea_consD (ed_int 1) (ea_consD (ed_int 0) ea_nilD)) (by show 2 ≤ 100000; decide)) (ea_consD (ed_tup (ea_consD (ed_int 1) (ea_consD (ed_neg (ed_int 2)) ea_nilD)) (by show 2 ≤ 100000; decide)) (ea_consD (ed_tup (ea_consD (ed_int 0) (ea_consD (ed_int 5) ea_nilD)) (by show 2 ≤ 100000; decide)) (ea_consD (ed_tup (ea_consD (ed_int 2) (ea_consD (ed_int 2) ea_nilD)) (by show 2 ≤ 100000; decide)) (ea_consD (ed_tup (ea_consD (ed_int 1000) (ea_consD (ed_int 999) ea_nilD)) (by show 2 ≤ 100000; decide)) ea_nilD))))))))) (by show 9 ≤ 100000; decide)) rfl : EvD K _ _ B1 (.list (badR.map fun r => rtD r.1 r.2)))) (.inl rfl) a1.b
      (fun H2 e2 => ⟨_, ⟨_, _, _, rfl, dp_up got (le_sub a1.b e2), dp_up due (le_sub a1.b e2)⟩, le_sub a1.b e2, Ex.refl _, a1.next e2⟩) (fun B2 i σ3 H3 ⟨_, _, _, c, a⟩ => c.trans a.b) (fun B2 i d x σ3 H3 hi hx3 ⟨B3, ⟨g, d2, o3, hσ, hg, hd⟩, u1, u2, a3⟩ => ?_) (fun B2 σ3 H3 ⟨B3, ⟨g, d2, o3, hσ, hg, hd⟩, u1, u2, a3⟩ => ?_)
    · subst hσ
      rw [List.getElem?_map] at hi
      obtain ⟨r, hr1, rfl⟩ := Option.map_eq_some_iff.mp hi
      have mr := List.mem_of_getElem? hr1
      have fl := flat2_len' two1 (fun _ => Nat.le_refl 2) badR i
      have fl : ((badR.take i).flatMap two1).length ≤ 18 := fl
      have u13 := u1.trans u2
      have hx3 := dp_up hx3 u2
      refine g_asg (K := K) (d := .list ((badR.take i).flatMap two1 ++ two1 r)) (ed_op (ed_var rfl hg) (ed_lst (ea_consD (ed_hs rfl (ky.up u13) hkok (s1 "user") (ed_var rfl hx3) (ed_str "") (ed_non) (hs_bad1 mr)) (ea_consD (ed_hs rfl (ky.up u13) hkok (ed_non) (ed_var rfl hx3) (ed_str "") (ed_non) (hs_bad2 mr)) ea_nilD)) (by show 2 ≤ 100000; decide)) (rv_catL (by show _ + 2 ≤ 100000; omega))) a3.b fun w5 H5 e5 hw5 => ?_
      have a5 := a3.next e5
      have u5 := le_sub a3.b e5
      refine g_asg1 (K := K) (d := .list ((badR.take i).flatMap two1 ++ two1 r)) (ed_op (ed_var rfl (dp_up hd u5)) (ed_is (ed_repD (k := 2) (ea_consD (d := shE r) (ed_lst (ea_consD (ed_str "share") (ea_consD (ed_var rfl (dp_up hx3 u5)) ea_nilD)) (by show 2 ≤ 100000; decide)) ea_nilD) (ed_int 2) (by decide) (by show 1 ≤ 100; decide)) (rfl : PyData.list (List.replicate 2 [shE r]).flatten = .list (two1 r))) (rv_catL (by show _ + 2 ≤ 100000; omega))) a5.b fun w6 H6 e6 hw6 => ?_
      rw [← flat_step two1 hr1] at hw5 hw6
      exact ⟨_, ⟨_, _, _, rfl, dp_up hw5 (le_sub a5.b e6), hw6⟩, u1, u2.trans (u5.trans (le_sub a5.b e6)), a5.next e6⟩
    subst hσ
    rw [List.length_map, List.take_length] at hg hd
    have ky := ky.up (u1.trans u2)
    clear u1 u2 got due a1 e1
    show tSeq _ _ _ _ _
    -- got, due: lists of one's own
    refine g_asgO (ds := g1) (el_cat (ds := badR.flatMap two1) (ed_var rfl hg) (ed_lst (ea_consD (ed_hs rfl ky hkok (s2 "x" "#") (r2 2 4) (ed_str "A") ed_non hs_x) (ea_consD (ed_hs rfl ky hkok (s1 "user") (r2 2 4) (ed_str "A") ed_non hs_A) ea_nilD)) (by show 2 ≤ 100000; decide)) (by decide)) a3 fun l1 H4 B4 e4 n4 u4 a4 m1 => ?_
    have ky := ky.up u4
    have f1 : H l1 = none := a3.fresh n4
    refine g_asgO2 (ds := g1) (el_cat (ds := badR.flatMap two1) (ed_var rfl (dp_up hd u4)) (ed_lst (ea_consD (n2 "name" "x") (ea_consD (ed_lst (ea_consD (ed_str "share") (ea_consD (r2 2 4) ea_nilD)) (by show 2 ≤ 100000; decide)) ea_nilD)) (by show 2 ≤ 100000; decide)) (by decide)) a4 m1 fun l2 H5 B5 e5 n5 u5 a5 m2 m1 ne => ?_
    have ky := ky.up u5
    have f2 : H l2 = none := a4.fresh n5
    clear hg hd
    -- the salts
    refine for_sq (fun B6 i σ' H' => ∃ B7, (∃ o3 o4, σ' = [some (.ref p), some (.ref l1), some (.ref l2), o3, o4, none, none, none]) ∧ Ex B5 B6 ∧ Ex B6 B7 ∧ At H B H B7 H' ∧ Mu K B7 H' l1 (g1 ++ (badS.take i).map stE) ∧ Mu K B7 H' l2 (g1 ++ (badS.take i).map stE)) ((ed_is (ed_lst (ea_consD (ed_str "A") (ea_consD (ed_str "abcdefghi") (ea_consD (ed_str "a b") (ea_consD (ed_str "1") (ea_consD (ed_str " ") (ea_consD (ed_str "#") (ea_consD (ed_str "a-b") ea_nilD))))))) (by show 7 ≤ 100000; decide)) rfl : EvD K _ _ B5 (.list (badS.map .str)))) (.inl rfl) a5.b
      (fun H6 e6 => ⟨_, ⟨_, _, rfl⟩, le_sub a5.b e6, Ex.refl _, a5.next e6, by rw [List.take_zero, List.map_nil, List.append_nil]; exact m1.next a5.b e6, by rw [List.take_zero, List.map_nil, List.append_nil]; exact m2.next a5.b e6⟩) (fun B2 i σ3 H3 ⟨_, _, _, c, a, _⟩ => c.trans a.b) (fun B6 i d x σ3 H6 hi hx3 ⟨B7, ⟨o3, o4, hσ⟩, u6, u7, a7, m1, m2⟩ => ?_) (fun B6 σ3 H6 ⟨B7, ⟨o3, o4, hσ⟩, u6, u7, a7, m1, m2⟩ => ?_)
    · subst hσ
      rw [List.getElem?_map] at hi
      obtain ⟨s, hs1, rfl⟩ := Option.map_eq_some_iff.mp hi
      obtain rfl := p_str hx3
      have ms := List.mem_of_getElem? hs1
      have ln : (g1 ++ (badS.take i).map stE).length ≤ 100 := by
        have z := map_len' stE badS i
        have z : ((badS.take i).map stE).length ≤ 7 := z
        rw [List.length_append, show g1.length = 20 by decide +kernel]
        omega
      refine g_append2 (i := 1) (d := stE s) rfl m1 a7 f1 (by omega) (ed_hs rfl (ky.up (u6.trans u7)) hkok (s1 "user") (r2 1 2) (ed_var rfl (.str s)) ed_non (hs_salt ms)) m2 ne fun H8 B8 u8 a8 m1 m2 _ => ?_
      refine l_append (i := 2) (d := stE s) rfl m2 a8.b (by omega) (ed_lst (ea_consD (ed_str "salt") (ea_consD (ed_var rfl (.str s)) ea_nilD)) (by show 2 ≤ 100000; decide)) fun H9 ws e9 m2' => ?_
      refine ⟨_, ⟨_, _, rfl⟩, u6, u7.trans (u8.trans (le_sub a8.b e9)), (a8.next e9).mut (m2.next a8.b e9).nb f2 (isSome_up e9 m2.isS), ?_, ?_⟩
      · rw [map_step stE hs1, ← List.append_assoc]
        exact (m1.next a8.b e9).other ne.symm
      · rw [map_step stE hs1, ← List.append_assoc]
        exact m2'
    subst hσ
    rw [List.length_map, List.take_length] at m1 m2
    have m1 : Mu K B7 H6 l1 g2 := m1
    have m2 : Mu K B7 H6 l2 g2 := m2
    have ky := ky.up (u6.trans u7)
    clear u6 u7 a5 a4 a3 e4 e5 n4 n5 u4 u5
    show tSeq _ _ _ _ _
    -- bad texts
    refine g_asg (K := K) (d := .list [.str "", .str "user", .str "user 1/2 a b", .str "user 2/4", .str "user 0", .str "user 1/1", .str "user 3/2", .str "user 01/2", .str "user 1/02"]) (ed_lst (ea_consD (ed_str "") (ea_consD (ed_str "user") (ea_consD (ed_str "user 1/2 a b") (ea_consD (ed_str "user 2/4") (ea_consD (ed_str "user 0") (ea_consD (ed_str "user 1/1") (ea_consD (ed_str "user 3/2") (ea_consD (ed_str "user 01/2") (ea_consD (ed_str "user 1/02") ea_nilD))))))))) (by show 9 ≤ 100000; decide)) a7.b fun w10 H10 e10 bad10 => ?_
    have a10 := a7.next e10
    have u10 := le_sub a7.b e10
    have ky := ky.up u10
    have m1 := m1.next a7.b e10
    have m2 := m2.next a7.b e10
    skip
    have bad := bad10
    clear bad10
    generalize sub H10 H6 B7 = B10 at a10 u10 ky m1 m2 bad
    refine g_asg (K := K) (d := .list [.str "", .str "user", .str "user 1/2 a b", .str "user 2/4", .str "user 0", .str "user 1/1", .str "user 3/2", .str "user 01/2", .str "user 1/02", .str "user -1/2", .str "user 1/2 A", .str "user 1/2 abcdefghi", .str "user+ 1/2", .str "1/2 user", .str "user 1 /2", .str "user 1/2;"]) (ed_is (ed_op (ed_var rfl bad) (ed_lst (ea_consD (ed_str "user -1/2") (ea_consD (ed_str "user 1/2 A") (ea_consD (ed_str "user 1/2 abcdefghi") (ea_consD (ed_str "user+ 1/2") (ea_consD (ed_str "1/2 user") (ea_consD (ed_str "user 1 /2") (ea_consD (ed_str "user 1/2;") ea_nilD))))))) (by show 7 ≤ 100000; decide)) (rv_catL (by decide))) rfl) a10.b fun w11 H11 e11 bad11 => ?_
    have a11 := a10.next e11
    have u11 := le_sub a10.b e11
    have ky := ky.up u11
    have m1 := m1.next a10.b e11
    have m2 := m2.next a10.b e11
    clear bad
    have bad := bad11
    clear bad11
    generalize sub H11 H10 B10 = B11 at a11 u11 ky m1 m2 bad
    refine g_asg (K := K) (d := .list [.str "", .str "user", .str "user 1/2 a b", .str "user 2/4", .str "user 0", .str "user 1/1", .str "user 3/2", .str "user 01/2", .str "user 1/02", .str "user -1/2", .str "user 1/2 A", .str "user 1/2 abcdefghi", .str "user+ 1/2", .str "1/2 user", .str "user 1 /2", .str "user 1/2;", .str "user 0/1", .str "user 1.5", .str "user +1/2", .str "user 1_0/11", .str "user 1/2/3", .str "user 1/ 2", .str "user 1/+2"]) (ed_is (ed_op (ed_var rfl bad) (ed_lst (ea_consD (ed_str "user 0/1") (ea_consD (ed_str "user 1.5") (ea_consD (ed_str "user +1/2") (ea_consD (ed_str "user 1_0/11") (ea_consD (ed_str "user 1/2/3") (ea_consD (ed_str "user 1/ 2") (ea_consD (ed_str "user 1/+2") ea_nilD))))))) (by show 7 ≤ 100000; decide)) (rv_catL (by decide))) rfl) a11.b fun w12 H12 e12 bad12 => ?_
    have a12 := a11.next e12
    have u12 := le_sub a11.b e12
    have ky := ky.up u12
    have m1 := m1.next a11.b e12
    have m2 := m2.next a11.b e12
    clear bad
    have bad := bad12
    clear bad12
    generalize sub H12 H11 B11 = B12 at a12 u12 ky m1 m2 bad
    refine g_asg (K := K) (d := .list [.str "", .str "user", .str "user 1/2 a b", .str "user 2/4", .str "user 0", .str "user 1/1", .str "user 3/2", .str "user 01/2", .str "user 1/02", .str "user -1/2", .str "user 1/2 A", .str "user 1/2 abcdefghi", .str "user+ 1/2", .str "1/2 user", .str "user 1 /2", .str "user 1/2;", .str "user 0/1", .str "user 1.5", .str "user +1/2", .str "user 1_0/11", .str "user 1/2/3", .str "user 1/ 2", .str "user 1/+2", .str "a1 1/2", .str "a_ 1/2", .str "user+A 1/2", .str "user 1/2 a1", .str "user 1/2 a_"]) (ed_is (ed_op (ed_var rfl bad) (ed_lst (ea_consD (ed_str "a1 1/2") (ea_consD (ed_str "a_ 1/2") (ea_consD (ed_str "user+A 1/2") (ea_consD (ed_str "user 1/2 a1") (ea_consD (ed_str "user 1/2 a_") ea_nilD))))) (by show 5 ≤ 100000; decide)) (rv_catL (by decide))) rfl) a12.b fun w13 H13 e13 bad13 => ?_
    have a13 := a12.next e13
    have u13 := le_sub a12.b e13
    have ky := ky.up u13
    have m1 := m1.next a12.b e13
    have m2 := m2.next a12.b e13
    clear bad
    have bad := bad13
    clear bad13
    generalize sub H13 H12 B12 = B13 at a13 u13 ky m1 m2 bad
    have bad : Dp K B13 w13 (.list (badT.map .str)) := bad
    obtain ⟨B14, u14, a14, got, k14⟩ := m1.hold a13 f1
    have m2 := m2.base u14 (by rw [k14 l2 ne]; exact m2.nb)
    have ky := ky.up u14
    have bad := dp_up bad u14
    have lc : ∀ {y : Str}, y ∈ txs → HsD hx hp .none .none (.str "") (.str y) (txE y) := fun m => txs_ok _ m
    refine g_asgO2 (ds := g3) (el_is (el_cat (ds := g2) (es := txs.map txE) (ed_var rfl got) (ed_is (ed_lcS (xs := txs) (fun _ => true) txE (ed_is (ed_op (d1 := .list (badT.map .str)) (ed_var rfl bad) (ed_lst (ea_consD (ed_str "x 1/2") (ea_consD (ed_str "x+y 2/4") ea_nilD)) (by show 2 ≤ 100000; decide)) (rv_catL (by decide))) rfl) (.inl rfl) (by decide) (fun _ => rfl) (fun _ _ _ _ => fun H1 e Q q => q H1 (Ex.refl H1)) fun x mx _ B1 e => ed_hs rfl (ky.up e) hkok ed_non ed_non (ed_str "") (ed_var rfl (.str x)) (lc mx)) (by rw [List.filter_eq_self.mpr fun _ _ => rfl])) (by decide +kernel)) rfl) a14 m2 fun l3 H15 B15 e15 n15 u15 a15 m3 m2 ne3 => ?_
    have f3 : H l3 = none := a14.fresh n15
    have ky := ky.up u15
    have bad := dp_up bad u15
    obtain ⟨B16, u16, a16, due, k16⟩ := m2.hold a15 f2
    have m3 := m3.base u16 (by rw [k16 l3 ne3]; exact m3.nb)
    have ky := ky.up u16
    have bad := dp_up bad u16
    refine g_asg (K := K) (d := .list g3) (ed_is (ed_op (d1 := .list (g2 ++ badT.map fun x => .list [.str "text", .str x])) (ed_op (d1 := .list g2) (d2 := .list (badT.map fun x => .list [.str "text", .str x])) (ed_var rfl due) (ed_is (ed_lcS (xs := badT) (fun _ => true) (fun x => .list [.str "text", .str x]) (ed_var rfl bad) (.inl rfl) (by decide) (fun _ => rfl) (fun _ _ _ _ => fun H1 e Q q => q H1 (Ex.refl H1)) fun x mx _ B1 e => ed_lst (ea_consD (ed_str "text") (ea_consD (ed_var rfl (.str x)) ea_nilD)) (by show 2 ≤ 100000; decide)) (by rw [List.filter_eq_self.mpr fun _ _ => rfl])) (rv_catL (ds := g2) (es := badT.map fun x => .list [.str "text", .str x]) (by decide +kernel))) (ed_lst (ea_consD (n2 "name" "x") (ea_consD (n2 "text" "x+y 2/4") ea_nilD)) (by show 2 ≤ 100000; decide)) (rv_catL (ds := g2 ++ badT.map fun x => .list [.str "text", .str x]) (by decide +kernel))) ?_) a16.b fun w17 H17 e17 due17 => ?_
    · rw [List.append_assoc]
      show _ = PyData.list (g2 ++ (badT ++ (["x 1/2", "x+y 2/4"] : List Str)).map txE)
      rw [List.map_append]
      have z : ∀ x ∈ badT, x ≠ "x 1/2" := by decide +kernel
      have z : badT.map txE = badT.map fun x => .list [.str "text", .str x] := List.map_congr_left fun x m => if_neg (z x m)
      rw [z]
      rfl
    have a17 := a16.next e17
    have u17 := le_sub a16.b e17
    have ky := ky.up u17
    have m3 := m3.next a16.b e17
    generalize sub H17 H15 B16 = B17 at a17 u17 ky m3 due17
    clear due got bad
    -- good texts
    refine for_sq (fun B18 i σ' H' => ∃ B19, (∃ o3 o4 o5 o6, σ' = [some (.ref p), some (.ref l3), some w17, o3, o4, o5, o6, none]) ∧ Ex B17 B18 ∧ Ex B18 B19 ∧ At H B H B19 H' ∧ Mu K B19 H' l3 (g3 ++ (goodT.take i).map gtE)) ((ed_is (ed_lst (ea_consD (ed_str "- 1/2") (ea_consD (ed_str "# 1 day") (ea_consD (ed_str "  user+shop   999/1000  zz ") ea_nilD))) (by show 3 ≤ 100000; decide)) rfl : EvD K _ _ B17 (.list (goodT.map .str)))) (.inl rfl) a17.b
      (fun H6 e6 => ⟨_, ⟨_, _, _, _, rfl⟩, le_sub a17.b e6, Ex.refl _, a17.next e6, by rw [List.take_zero, List.map_nil, List.append_nil]; exact m3.next a17.b e6⟩) (fun B2 i σ3 H3 ⟨_, _, _, c, a, _⟩ => c.trans a.b) (fun B18 i d x σ3 H18 hi hx3 ⟨B19, ⟨o3, o4, o5, o6, hσ⟩, u18, u19, a19, m3⟩ => ?_) (fun B18 σ3 H18 ⟨B19, ⟨o3, o4, o5, o6, hσ⟩, u18, u19, a19, m3⟩ => ?_)
    · subst hσ
      rw [List.getElem?_map] at hi
      obtain ⟨s, hs1, rfl⟩ := Option.map_eq_some_iff.mp hi
      obtain rfl := p_str hx3
      have ms := List.mem_of_getElem? hs1
      have ln : (g3 ++ (goodT.take i).map gtE).length ≤ 100 := by
        have z := map_len' gtE goodT i
        have z : ((goodT.take i).map gtE).length ≤ 3 := z
        rw [List.length_append, show g3.length = 57 by decide +kernel]
        omega
      refine l_append (i := 1) (d := gtE s) rfl m3 a19.b (by omega) (ed_hs rfl (ky.up (u18.trans u19)) hkok ed_non ed_non (ed_str "") (ed_var rfl (.str s)) (goodT_ok s ms)) fun H9 ws e9 m3' => ?_
      refine ⟨_, ⟨_, _, _, _, rfl⟩, u18, u19.trans (le_sub a19.b e9), (a19.next e9).mut (m3.next a19.b e9).nb f3 (isSome_up e9 m3.isS), ?_⟩
      rw [map_step gtE hs1, ← List.append_assoc]
      exact m3'
    subst hσ
    rw [List.length_map, List.take_length] at m3
    have m3 : Mu K B19 H18 l3 g4 := m3
    have ky := ky.up (u18.trans u19)
    have due := dp_up due17 (u18.trans u19)
    clear due17
    show tSeq _ _ _ _ _
    refine g_asg (K := K) (d := .list g4) (ed_is (ed_op (d1 := .list (g3)) (ed_var rfl due) (ed_lst (ea_consD (ed_str "- 1/2") (ea_consD (ed_str "# 1 day") (ea_consD (ed_str "city+shop+user 999/1000 zz") ea_nilD))) (by show 3 ≤ 100000; decide)) (rv_catL (by decide +kernel))) rfl) a19.b fun w20 H20 e20 due20 => ?_
    have a20 := a19.next e20
    have u20 := le_sub a19.b e20
    have ky := ky.up u20
    have m3 := m3.next a19.b e20
    generalize sub H20 H18 B19 = B20 at a20 u20 ky m3 due20
    clear due
    -- good salts
    refine for_sq (fun B21 i σ' H' => ∃ B22 l d o3 o4 o5 o6, σ' = [some (.ref p), some (.ref l), some d, o3, o4, o5, o6, none] ∧ Ex B20 B21 ∧ Ex B21 B22 ∧ At H B H B22 H' ∧ Mu K B22 H' l (g4 ++ (goodS.take i).flatMap two2) ∧ H l = none ∧ Dp K B22 d (.list (g4 ++ (goodS.take i).flatMap two2))) ((ed_is (ed_lst (ea_consD (ed_str "abcdefgh") (ea_consD (ed_str "ijklmnop") (ea_consD (ed_str "qrstuvwx") (ea_consD (ed_str "yz") ea_nilD)))) (by show 4 ≤ 100000; decide)) rfl : EvD K _ _ B20 (.list (goodS.map .str)))) (.inl rfl) a20.b
      (fun H6 e6 => ⟨_, l3, w20, _, _, _, _, rfl, le_sub a20.b e6, Ex.refl _, a20.next e6, by rw [List.take_zero, List.flatMap_nil, List.append_nil]; exact m3.next a20.b e6, f3, by rw [List.take_zero, List.flatMap_nil, List.append_nil]; exact dp_up due20 (le_sub a20.b e6)⟩) (fun B2 i σ3 H3 ⟨_, _, _, _, _, _, _, _, _, c, a, _⟩ => c.trans a.b) (fun B21 i d x σ3 H21 hi hx3 ⟨B22, l, dv, o3, o4, o5, o6, hσ, u21, u22, a22, m, fl, due⟩ => ?_) (fun B21 σ3 H21 ⟨B22, l, dv, o3, o4, o5, o6, hσ, u21, u22, a22, m, fl, due⟩ => ?_)
    · subst hσ
      rw [List.getElem?_map] at hi
      obtain ⟨s, hs1, rfl⟩ := Option.map_eq_some_iff.mp hi
      obtain rfl := p_str hx3
      have ms := List.mem_of_getElem? hs1
      have ls : s.length ≤ 8 := by
        have z : ∀ s ∈ goodS, s.length ≤ 8 := by decide +kernel
        exact z s ms
      have ln : (g4 ++ (goodS.take i).flatMap two2).length ≤ 100 := by
        have z := flat2_len' two2 (fun _ => Nat.le_refl 2) goodS i
        have z : ((goodS.take i).flatMap two2).length ≤ 8 := z
        rw [List.length_append, show g4.length = 60 by decide +kernel]
        omega
      have lu : ("user 1/2 " : Str).length = 9 := rfl
      have app : ∀ {σ : L2.St} {B' : Hp}, σ[4]? = some (some (V.str s)) → EvD K (tOp (fun a b H Q => ∃ i j : Str, a = .str i ∧ b = .str j ∧ i.length + j.length ≤ sizeLine ∧ Q (.str (i ++ j)) H) (tC (.str "user 1/2 ")) (tVar 4)) σ B' (.str (("user 1/2 " : Str) ++ s)) := fun h => ed_op (ed_str "user 1/2 ") (ed_var h (.str s)) (rv_app (by rw [lu]; omega))
      obtain ⟨B23, u23, a23, got, _⟩ := m.hold a22 fl
      have ky := ky.up (u21.trans (u22.trans u23))
      refine g_asgO (ds := g4 ++ (goodS.take i).flatMap two2 ++ [.str (("user 1/2 " : Str) ++ s)]) (el_cat (ed_var rfl got) (ed_lst (ea_consD (ed_hs rfl ky hkok (s1 "user") (r2 1 2) (ed_var rfl (.str s)) ed_non (hs_s1 ms)) ea_nilD) (by show 1 ≤ 100000; decide)) (by show _ + 1 ≤ 100000; omega)) a23 fun l' H24 B24 e24 n24 u24 a24 m => ?_
      have ky := ky.up u24
      have fl' : H l' = none := a23.fresh n24
      refine g_append (d := .str (("user 1/2 " : Str) ++ s)) rfl m a24 fl' (by rw [List.length_append]; show _ + 1 < 100000; omega) (ed_hs rfl ky hkok ed_non ed_non (ed_str "") (app rfl) (hs_s2 ms)) fun H25 B25 u25 a25 m => ?_
      have ue := u22.trans (u23.trans (u24.trans u25))
      refine g_asg1 (K := K) (d := .list (g4 ++ (goodS.take i).flatMap two2 ++ two2 s)) (ed_op (ed_var rfl (dp_up due (u23.trans (u24.trans u25)))) (ed_is (ed_repD (k := 2) (ea_consD (app rfl) ea_nilD) (ed_int 2) (by decide) (by show 1 ≤ 100; decide)) (rfl : PyData.list (List.replicate 2 [PyData.str (("user 1/2 " : Str) ++ s)]).flatten = .list (two2 s))) (rv_catL (by show _ + 2 ≤ 100000; omega))) a25.b fun w26 H26 e26 hw26 => ?_
      have m := m.next a25.b e26
      refine ⟨_, _, _, _, _, _, _, rfl, u21, ue.trans (le_sub a25.b e26), a25.next e26, ?_, fl', ?_⟩
      · rw [flat_step two2 hs1, ← List.append_assoc]
        rw [List.append_assoc] at m
        exact m
      · rw [flat_step two2 hs1, ← List.append_assoc]
        exact hw26
    subst hσ
    rw [List.length_map, List.take_length] at m due
    have due : Dp K B22 dv (.list g5) := due
    have m : Mu K B22 H21 l g5 := m
    obtain ⟨B23, u23, a23, got, _⟩ := m.hold a22 fl
    have ky := ky.up (u21.trans (u22.trans u23))
    have due := dp_up due u23
    clear u21 u22 u23 m m3
    show tSeq _ _ _ _ _
    -- a Sampler
    have mk1 : ∀ {σ : L2.St} {B' : Hp} {tn tr : TE} {A R : PyData} {ns ks : List Str} {n d : Int} {E : XK}, σ[0]? = some (some (V.ref p)) → Ex B23 B' → EvD K tn σ B' A → Bag6 A ns → EvD K tr σ B' R → Sq R [.int n, .int d] → outF (hx ++ (["#"] : List Str)) ns = none → shB n d = true → closeF hx hp ns = ks → EvS K Cs C (tMake Cs (spSin K Cs C Cn Ch Ct) [V.str ""] E (tCons (tVar 0) (tCons tn (tCons tr tNil)))) σ B' ⟨hx, hp, ks, n, d, ""⟩ := fun hi e hn bg hR sq ou sh hc => by
      subst hc
      exact es_mk3 (ek_var hi (ky.up e)) hkok hn bg hR sq ou sh
    refine l_asg ((es_is (m' := hm) (es_mk (n := 1) (e := 4) (ns := ["shop"]) (salt := "") (ek_var rfl ky) hkok (ed_lst (ea_consD (ed_str "shop") ea_nilD) (by show 1 ≤ 100000; decide)) ⟨.inl rfl, all_oks (by decide +kernel), by decide⟩ (ed_lst (ea_consD (ed_int 1) (ea_consD (ed_int 4) ea_nilD)) (by show 2 ≤ 100000; decide)) (.inl rfl) (by decide +kernel) (by decide +kernel) (by decide +kernel) (ed_str "") ⟨by decide +kernel, by decide⟩) (show (⟨hx, hp, closeF hx hp ["shop"], 1, 4, ""⟩ : SmP) = ⟨hx, hp, ["city", "shop"], 1, 4, ""⟩ from congrArg (fun z => (⟨hx, hp, z, 1, 4, ""⟩ : SmP)) (by decide +kernel))) H21 a23.b _ fun po ao H24 e24 sm => ?_)
    have a24 := a23.next e24
    have u24 := le_sub a23.b e24
    have got := dp_up got u24
    have due := dp_up due u24
    have ky := ky.up u24
    have u24' := u24
    generalize sub H24 H21 B23 = B24 at a24 u24 u24' got due ky sm
    have one : ∀ {σ : L2.St} {B' : Hp}, σ[7]? = some (some (V.ref po)) → Ex B24 B' → EvS K Cs C (tVar 7) σ B' hm := fun hi e => es_var hi (sm.up e)
    have hmK := hmG.k
    refine g_asg (K := K) (d := .list (g5 ++ [.bool true, tp ["city", "shop"], rtD 1 4, .str "", .str "city+shop 1/4"])) (ed_op (d1 := .list (g5)) (ed_var rfl got) (ed_lst (ea_consD (ed_is (ed_eqO Tc Tk_ (es_schema (one rfl (Ex.refl _))) hkok (eq_ky (ek_var rfl ky) hkok)) (congrArg PyData.bool (by decide +kernel))) (ea_consD (es_prop (one rfl (Ex.refl _)) ⟨rfl, rfl⟩) (ea_consD (es_prop (one rfl (Ex.refl _)) ⟨rfl, rfl⟩) (ea_consD (es_prop (one rfl (Ex.refl _)) ⟨rfl, rfl⟩) (ea_consD (es_prop (one rfl (Ex.refl _)) ⟨1, 4, rfl, rfl, by decide, by decide, rfl, by decide, by decide, by decide +kernel, ⟨by decide +kernel, by decide⟩, congrArg PyData.str (by decide +kernel)⟩) ea_nilD))))) (by show 5 ≤ 100000; decide)) (rv_catL (by decide +kernel))) a24.b fun w25 H25 e25 got25 => ?_
    have a25 := a24.next e25
    have u25 := le_sub a24.b e25
    have due := dp_up due u25
    clear got
    refine g_asg (K := K) (d := .list (g5 ++ [.bool true, tp ["city", "shop"], rtD 1 4, .str "", .str "city+shop 1/4"] ++ [.bool false, .bool false])) (ed_op (ed_var rfl got25) (ed_lst (ea_consD (ed_is (ed_eqS S Tks_ (one rfl u25) hmK (ts_str (ed_str "city+shop 1/4"))) rfl) (ea_consD (ed_is (ed_eqS S Tks_ (one rfl u25) hmK (ts_sm (mk1 (ks := ["city"]) rfl (u24'.trans u25) (s1 "city") ⟨.inr rfl, all_oks (by decide +kernel), by decide⟩ (r2 1 4) (.inr rfl) (by decide +kernel) (by decide +kernel) (by decide +kernel)) ⟨hkok, all_oks (by decide +kernel), by decide +kernel⟩)) (congrArg PyData.bool (by decide +kernel))) ea_nilD)) (by show 2 ≤ 100000; decide)) (rv_catL (by decide +kernel))) a25.b fun w26 H26 e26 got26 => ?_
    have a26 := a25.next e26
    have u26 := u25.trans (le_sub a25.b e26)
    have due := dp_up due (le_sub a25.b e26)
    clear got25
    refine g_asg (K := K) (d := .list (g5 ++ [.bool true, tp ["city", "shop"], rtD 1 4, .str "", .str "city+shop 1/4"] ++ [.bool false, .bool false] ++ [.bool true, .bool false])) (ed_op (ed_var rfl got26) (ed_lst (ea_consD (ed_is (ed_eqS S Tks_ (one rfl u26) hmK (ts_sm (mk1 (ks := ["city", "shop"]) rfl (u24'.trans u26) (s2 "city" "shop") ⟨.inr rfl, all_oks (by decide +kernel), by decide⟩ (r2 1 4) (.inr rfl) (by decide +kernel) (by decide +kernel) (by decide +kernel)) ⟨hkok, all_oks (by decide +kernel), by decide +kernel⟩)) (congrArg PyData.bool (by decide +kernel))) (ea_consD (ed_is (ed_eqS S Tks_ (one rfl u26) hmK (ts_sm (es_at (n' := 1) (e' := 3) (one rfl u26) hmG (r2 1 3) (.inr rfl) (by decide +kernel)) (hmG.at 1 3).k)) (congrArg PyData.bool (by decide +kernel))) ea_nilD)) (by show 2 ≤ 100000; decide)) (rv_catL (by decide +kernel))) a26.b fun w27 H27 e27 got27 => ?_
    have a27 := a26.next e27
    have due := dp_up due (le_sub a26.b e27)
    clear got26
    refine g_ret (ed_call0 (ea_consD (ed_var rfl got27) (ea_consD (d := .list g6) (ed_op (d1 := .list (g5)) (ed_var rfl due) (ed_lst (ds := endD) (ea_consD (ed_bl true) (ea_consD (s2 "city" "shop") (ea_consD (r2 1 4) (ea_consD (ed_str "") (ea_consD (ed_str "city+shop 1/4") (ea_consD (ed_bl false) (ea_consD (ed_bl false) (ea_consD (ed_bl true) (ea_consD (ed_bl false) ea_nilD))))))))) (by show 9 ≤ 100000; decide)) (rv_catL (by decide +kernel))) ea_nilD)) (sp_d ⟨_, rfl, by decide +kernel, rfl⟩)) a27.b fun v H e hv => q v H (a27.ex.trans e) (a27.out e hv)
end
end S5

set_option Elab.async false
set_option linter.all false
set_option maxRecDepth 100000
/-! What going over a relation again and again gives; what is closed. -/
namespace S5
open PySem PySem.Spec PyProof.Rows L2 Evl ZE ZS StX ZD RZ
/-! ### the program's: one middle after the other -/
theorem row_eq (m a : Str) : ∀ (l : List Str) (R : Rel) (x y : Str), l.foldl (stepR m a) R x y = (R x y || (decide (x = a) && decide (y ∈ l) && R a m && R m y))
  | [], R, x, y => by simp
  | c :: l, R, x, y => by
    have e1 : ∀ x y, stepR m a R c x y = (R x y || (decide (x = a) && decide (y = c) && R a m && R m c)) := fun x y => by
      unfold stepR
      by_cases h : R a m = true ∧ R m c = true
      · rw [if_pos h]
        unfold addR
        rw [h.1, h.2, Bool.and_true, Bool.and_true, Bool.or_comm]
        by_cases z1 : x = a <;> by_cases z2 : y = c <;> simp [z1, z2]
      · rw [if_neg h]
        have : (R a m && R m c) = false := by
          cases z1 : R a m <;> cases z2 : R m c <;> simp_all
        rw [Bool.and_assoc, this, Bool.and_false, Bool.or_false]
    have am : stepR m a R c a m = R a m := by
      rw [e1]
      by_cases z : m = c
      · subst z
        cases h : R a m <;> simp
      · simp [z]
    have my : stepR m a R c m y = (R m y || (decide (m = a) && decide (y = c) && R a m && R m c)) := e1 m y
    show l.foldl (stepR m a) (stepR m a R c) x y = _
    rw [row_eq m a l, e1, am, my]
    by_cases z1 : x = a
    · subst z1
      by_cases z2 : y = c
      · subst z2
        by_cases z3 : m = x
        · subst z3
          cases R m y <;> cases R m m <;> simp
        · cases R x y <;> cases R x m <;> cases R m y <;> simp [z3]
      · by_cases z4 : y ∈ l
        · simp [z2, z4]
        · simp [z2, z4]
    · simp [z1]
theorem mid_eq (names : List Str) (m : Str) : ∀ (l : List Str) (R : Rel) (x y : Str), l.foldl (rowR names m) R x y = (R x y || (decide (x ∈ l) && decide (y ∈ names) && R x m && R m y))
  | [], R, x, y => by simp
  | a :: l, R, x, y => by
    have e1 : ∀ x y, rowR names m R a x y = (R x y || (decide (x = a) && decide (y ∈ names) && R a m && R m y)) := fun x y => row_eq m a names R x y
    have xm : rowR names m R a x m = R x m := by
      rw [e1]
      by_cases z : x = a
      · subst z
        cases h : R x m <;> simp
      · simp [z]
    have my : rowR names m R a m y = R m y := by
      rw [e1]
      by_cases z : m = a
      · subst z
        cases h1 : R m y <;> simp
      · simp [z]
    show l.foldl (rowR names m) (rowR names m R a) x y = _
    rw [mid_eq names m l, e1, xm, my]
    by_cases z1 : x = a
    · subst z1
      cases R x y <;> cases R x m <;> cases R m y <;> by_cases z2 : y ∈ names <;> simp [z2]
    · by_cases z3 : x ∈ l
      · cases R x y <;> cases R x m <;> cases R m y <;> by_cases z2 : y ∈ names <;> simp [z1, z2, z3]
      · simp [z1, z3]
theorem midR_eq (names : List Str) (R : Rel) (m x y : Str) : midR names R m x y = (R x y || (decide (x ∈ names) && decide (y ∈ names) && R x m && R m y)) := mid_eq names m names R x y
/-- ways through m are there -/
def Thr (names : List Str) (R : Rel) (m : Str) : Prop := ∀ x ∈ names, ∀ y ∈ names, R x m = true → R m y = true → R x y = true
theorem thr_new (names : List Str) (R : Rel) (m : Str) : Thr names (midR names R m) m := fun x hx y hy h1 h2 => by
  have e1 : midR names R m x m = R x m := by
    rw [midR_eq]
    cases h : R x m <;> simp
  have e2 : midR names R m m y = R m y := by
    rw [midR_eq]
    cases h : R m y <;> simp
  rw [e1] at h1
  rw [e2] at h2
  rw [midR_eq, h1, h2]
  simp [hx, hy]
theorem thr_keep {names : List Str} {R : Rel} {m : Str} (h : Thr names R m) (hm : m ∈ names) (k : Str) (hk : k ∈ names) : Thr names (midR names R k) m := fun x hx y hy h1 h2 => by
  rw [midR_eq] at h1 h2 ⊢
  simp only [Bool.or_eq_true, Bool.and_eq_true, decide_eq_true_eq] at h1 h2 ⊢
  rcases h1 with h1 | ⟨⟨_, h1⟩, h1'⟩
  · rcases h2 with h2 | ⟨⟨_, h2⟩, h2'⟩
    · exact .inl (h x hx y hy h1 h2)
    · exact .inr ⟨⟨⟨hx, hy⟩, h x hx k hk h1 h2⟩, h2'⟩
  · rcases h2 with h2 | ⟨⟨_, h2⟩, h2'⟩
    · exact .inr ⟨⟨⟨hx, hy⟩, h1⟩, h k hk y hy h1' h2⟩
    · exact .inr ⟨⟨⟨hx, hy⟩, h1⟩, h2'⟩
theorem thr_fold {names : List Str} : ∀ (l : List Str) (R : Rel) (done : List Str), (∀ m ∈ l, m ∈ names) → (∀ m ∈ done, m ∈ names ∧ Thr names R m) → ∀ m, m ∈ done ∨ m ∈ l → Thr names (l.foldl (midR names) R) m
  | [], R, done, _, hd, m, h => (hd m (h.resolve_right List.not_mem_nil)).2
  | k :: l, R, done, hl, hd, m, h => by
    have hk := hl k (List.Mem.head _)
    refine thr_fold l (midR names R k) (k :: done) (fun m mm => hl m (List.Mem.tail _ mm)) (fun m mm => ?_) m ?_
    · rcases List.mem_cons.mp mm with rfl | mm
      · exact ⟨hk, thr_new names R m⟩
      · exact ⟨(hd m mm).1, thr_keep (hd m mm).2 (hd m mm).1 k hk⟩
    · rcases h with h | h
      · exact .inl (List.Mem.tail _ h)
      · rcases List.mem_cons.mp h with rfl | h
        · exact .inl (List.Mem.head _)
        · exact .inr h
theorem fw_trans {names : List Str} {R : Rel} {x m y : Str} (hx : x ∈ names) (hm : m ∈ names) (hy : y ∈ names) (h1 : fwR names R x m = true) (h2 : fwR names R m y = true) : fwR names R x y = true :=
  thr_fold names R [] (fun _ h => h) (fun _ h => nomatch h) m (.inr hm) x hx y hy h1 h2
theorem fold_up {names : List Str} : ∀ (l : List Str) (R : Rel) (x y : Str), R x y = true → l.foldl (midR names) R x y = true
  | [], _, _, _, h => h
  | k :: l, R, x, y, h => fold_up l (midR names R k) x y (by rw [midR_eq, h]; rfl)
theorem fw_up {names : List Str} {R : Rel} {x y : Str} (h : R x y = true) : fwR names R x y = true := fold_up names R x y h
/-- it is the least: any relation that can be walked through has it -/
theorem fold_least {names : List Str} {Q : Str → Str → Prop} (tr : ∀ x m y, Q x m → Q m y → Q x y) : ∀ (l : List Str) (R : Rel), (∀ x y, R x y = true → Q x y) → ∀ x y, l.foldl (midR names) R x y = true → Q x y
  | [], _, h, x, y, e => h x y e
  | k :: l, R, h, x, y, e => fold_least tr l (midR names R k) (fun x y e => by
    rw [midR_eq] at e
    simp only [Bool.or_eq_true, Bool.and_eq_true] at e
    rcases e with e | ⟨⟨_, e1⟩, e2⟩
    · exact h x y e
    · exact tr x k y (h x k e1) (h k y e2)) x y e
theorem fw_least {names : List Str} {R : Rel} {Q : Str → Str → Prop} (tr : ∀ x m y, Q x m → Q m y → Q x y) (h : ∀ x y, R x y = true → Q x y) {x y : Str} (e : fwR names R x y = true) : Q x y := fold_least tr names R h x y e
/-! ### the law's: the tables -/
theorem tab_up {own : Str} : ∀ (l : List Str) (tab : Tab) (x b : Str), b ∈ tab x → b ∈ l.foldl (stepT own) tab x
  | [], _, _, _, h => h
  | f :: l, tab, x, b, h => tab_up l (stepT own tab f) x b (by
    unfold stepT
    by_cases c : x = own
    · subst c
      rw [if_pos rfl]
      exact List.mem_append_left _ h
    · rw [if_neg c]
      exact h)
theorem turn_up : ∀ (l : List Str) (tab : Tab) (x b : Str), b ∈ tab x → b ∈ l.foldl rowT tab x
  | [], _, _, _, h => h
  | o :: l, tab, x, b, h => turn_up l (rowT tab o) x b (tab_up _ tab x b h)
theorem iter_up (xs : List Str) (tab : Tab) (x b : Str) (h : b ∈ tab x) : ∀ n, b ∈ iterT xs tab n x
  | 0 => h
  | n + 1 => turn_up xs _ x b (iter_up xs tab x b h n)
def TabIn (tab : Tab) (Q : Str → Str → Prop) : Prop := ∀ x b, b ∈ tab x → Q x b
theorem tab_in {Q : Str → Str → Prop} (tr : ∀ x m y, Q x m → Q m y → Q x y) {own : Str} : ∀ (l : List Str) (tab : Tab), TabIn tab Q → (∀ f ∈ l, Q own f) → TabIn (l.foldl (stepT own) tab) Q
  | [], _, h, _ => h
  | f :: l, tab, h, hl => tab_in tr l (stepT own tab f) (fun x b m => by
    unfold stepT at m
    by_cases c : x = own
    · subst c
      rw [if_pos rfl] at m
      rcases List.mem_append.mp m with m | m
      · exact h x b m
      · exact tr x f b (hl f (List.Mem.head _)) (h f b (List.mem_filter.mp m).1)
    · rw [if_neg c] at m
      exact h x b m) fun g m => hl g (List.Mem.tail _ m)
theorem turn_in {Q : Str → Str → Prop} (tr : ∀ x m y, Q x m → Q m y → Q x y) : ∀ (l : List Str) (tab : Tab), TabIn tab Q → TabIn (l.foldl rowT tab) Q
  | [], _, h => h
  | o :: l, tab, h => turn_in tr l (rowT tab o) (tab_in tr (tab o) tab h fun f m => h o f m)
theorem iter_in {Q : Str → Str → Prop} (tr : ∀ x m y, Q x m → Q m y → Q x y) (xs : List Str) (tab : Tab) (h : TabIn tab Q) : ∀ n, TabIn (iterT xs tab n) Q
  | 0 => h
  | n + 1 => turn_in tr xs _ (iter_in tr xs tab h n)
theorem told_mem {ts : List (Str × Str)} {x b : Str} : b ∈ toldF ts x ↔ (x, b) ∈ ts := by
  unfold toldF
  constructor
  · intro h
    obtain ⟨p, mp, rfl⟩ := List.mem_map.mp h
    have m := List.mem_filter.mp mp
    have e : p.1 = x := of_decide_eq_true m.2
    rw [← e]
    exact m.1
  · intro h
    exact List.mem_map.mpr ⟨(x, b), List.mem_filter.mpr ⟨h, decide_eq_true rfl⟩, rfl⟩
end S5

set_option Elab.async false
set_option linter.all false
set_option maxRecDepth 100000
/-! The law's own telling is what follows from the tellings. -/
namespace S5
open PySem PySem.Spec PyProof.Rows L2 Evl ZE ZS StX ZD RZ ZT ZX TL
section
variable {xs : List Str} {ts : List (Str × Str)}
theorem mem_memR {a b : Str} : memR ts a b = true ↔ (a, b) ∈ ts := decide_eq_true_iff
theorem pairs_in {a b : Str} : (a, b) ∈ pairsOf xs ts ↔ a ∈ xs ∧ b ∈ xs ∧ fwR xs (memR ts) a b = true := by
  constructor
  · intro h
    exact pairs_mem h
  · rintro ⟨ha, hb, h⟩
    exact List.mem_flatMap.mpr ⟨a, ha, List.mem_map.mpr ⟨b, List.mem_filter.mpr ⟨hb, h⟩, rfl⟩⟩
theorem noring (way : (∀ p ∈ ts, ZO.sLt p.1 p.2 = true) ∨ ∀ p ∈ ts, ZO.sLt p.2 p.1 = true) (a b : Str) (e : fwR xs (memR ts) a b = true) : a ≠ b := by
  intro z
  subst z
  rcases way with w | w
  · have := fw_least (Q := fun x y => ZO.sLt x y = true) (fun x m y h1 h2 => ZO.sto_s.tr x m y h1 h2) (fun x y r => w (x, y) (mem_memR.mp r)) e
    rw [ZO.sto_s.irr a] at this
    cases this
  · have := fw_least (Q := fun x y => ZO.sLt y x = true) (fun x m y h1 h2 => ZO.sto_s.tr y m x h2 h1) (fun x y r => w (x, y) (mem_memR.mp r)) e
    rw [ZO.sto_s.irr a] at this
    cases this
theorem tol {x y : Str} : x ∈ toldF (pairsOf xs ts) y ↔ y ∈ xs ∧ x ∈ xs ∧ fwR xs (memR ts) y x = true := told_mem.trans pairs_in
theorem fw_in (ins : ∀ p ∈ ts, p.1 ∈ xs ∧ p.2 ∈ xs) {x y : Str} (h : fwR xs (memR ts) x y = true) : x ∈ xs ∧ y ∈ xs :=
  fw_least (Q := fun x y => x ∈ xs ∧ y ∈ xs) (fun _ _ _ a b => ⟨a.1, b.2⟩) (fun x y e => ins (x, y) (mem_memR.mp e)) h
theorem fw_first (ins : ∀ p ∈ ts, p.1 ∈ xs ∧ p.2 ∈ xs) {x y : Str} (h : fwR xs (memR ts) x y = true) : (x, y) ∈ ts ∨ ∃ z, (x, z) ∈ ts ∧ fwR xs (memR ts) z y = true := by
  refine fw_least (Q := fun x y => (x, y) ∈ ts ∨ ∃ z, (x, z) ∈ ts ∧ fwR xs (memR ts) z y = true) (fun x m y h1 h2 => ?_) (fun x y e => .inl (mem_memR.mp e)) h
  have fm : fwR xs (memR ts) m y = true := by
    rcases h2 with h2 | ⟨z, h2, h3⟩
    · exact fw_up (mem_memR.mpr h2)
    · have i := ins _ h2
      exact fw_trans i.1 i.2 (fw_in ins h3).2 (fw_up (mem_memR.mpr h2)) h3
  rcases h1 with h1 | ⟨z, h1, h3⟩
  · exact .inr ⟨m, h1, fm⟩
  · have i := fw_in ins h3
    exact .inr ⟨z, h1, fw_trans i.1 i.2 (fw_in ins fm).2 h3 fm⟩
theorem row_get {own z y : Str} : ∀ (l : List Str) (tab : Tab), z ∈ l → y ∈ tab z → y ∈ l.foldl (stepT own) tab own
  | [], _, h, _ => nomatch h
  | c :: l, tab, h, hy => by
    show y ∈ l.foldl (stepT own) (stepT own tab c) own
    rcases List.mem_cons.mp h with rfl | h
    · refine tab_up l _ own y ?_
      unfold stepT
      rw [if_pos rfl, List.mem_append]
      by_cases m : y ∈ tab own
      · exact .inl m
      · exact .inr (List.mem_filter.mpr ⟨hy, by rw [decide_eq_false m]; rfl⟩)
    · exact row_get l _ h (tab_up [c] tab z y hy)
theorem turn_get {x z y : Str} : ∀ (l : List Str) (tab : Tab), x ∈ l → z ∈ tab x → y ∈ tab z → y ∈ l.foldl rowT tab x
  | [], _, h, _, _ => nomatch h
  | c :: l, tab, h, hz, hy => by
    show y ∈ l.foldl rowT (rowT tab c) x
    rcases List.mem_cons.mp h with rfl | h
    · exact turn_up l _ x y (row_get (tab x) tab hz hy)
    · exact turn_get l _ h (turn_up [c] tab x z hz) (turn_up [c] tab z y hy)
theorem tell_all (ins : ∀ p ∈ ts, p.1 ∈ xs ∧ p.2 ∈ xs) {L : Str → Str → Bool} (irr : ∀ a, L a a = false) (tr : ∀ a b c, L a b = true → L b c = true → L a c = true) (way : ∀ p ∈ ts, L p.1 p.2 = true) :
    ∀ (t : Nat) (x y : Str), (xs.filter fun z => L x z).length ≤ t + 1 → fwR xs (memR ts) x y = true → y ∈ iterT xs (toldF ts) t x := by
  have less : ∀ {x z : Str}, (x, z) ∈ ts → (xs.filter fun a => L z a).length < (xs.filter fun a => L x a).length := fun {x z} h => by
    have hz := (ins _ h).2
    have lxz := way _ h
    have sub : ∀ l : List Str, (l.filter fun a => L z a).length ≤ (l.filter fun a => L x a).length ∧ (z ∈ l → (l.filter fun a => L z a).length < (l.filter fun a => L x a).length) := by
      intro l
      induction l with
      | nil => exact ⟨Nat.le_refl _, fun h => nomatch h⟩
      | cons c l ih =>
        cases hc : L z c with
        | true =>
          have hc2 : L x c = true := tr _ _ _ lxz hc
          rw [List.filter_cons_of_pos (by exact hc), List.filter_cons_of_pos (by exact hc2), List.length_cons, List.length_cons]
          refine ⟨Nat.succ_le_succ ih.1, fun m => ?_⟩
          rcases List.mem_cons.mp m with rfl | m
          · rw [irr] at hc
            cases hc
          · exact Nat.succ_lt_succ (ih.2 m)
        | false =>
          rw [List.filter_cons_of_neg (by rw [hc]; exact Bool.false_ne_true)]
          cases hc2 : L x c with
          | true =>
            rw [List.filter_cons_of_pos (by exact hc2), List.length_cons]
            exact ⟨Nat.le_succ_of_le ih.1, fun _ => Nat.lt_succ_of_le ih.1⟩
          | false =>
            rw [List.filter_cons_of_neg (by rw [hc2]; exact Bool.false_ne_true)]
            refine ⟨ih.1, fun m => ?_⟩
            rcases List.mem_cons.mp m with rfl | m
            · rw [lxz] at hc2
              cases hc2
            · exact ih.2 m
    exact (sub xs).2 hz
  have fwL : ∀ {x y}, fwR xs (memR ts) x y = true → L x y = true := fun {x y} h => fw_least (Q := fun a b => L a b = true) (fun a b c => tr a b c) (fun a b e => way (a, b) (mem_memR.mp e)) h
  intro t
  induction t with
  | zero =>
    intro x y hm h
    rcases fw_first ins h with h1 | ⟨z, h1, h2⟩
    · exact told_mem.mpr h1
    · have l1 := less h1
      have : y ∈ xs.filter fun a => L z a := List.mem_filter.mpr ⟨(fw_in ins h2).2, fwL h2⟩
      have := List.length_pos_of_mem this
      omega
  | succ t ih =>
    intro x y hm h
    rcases fw_first ins h with h1 | ⟨z, h1, h2⟩
    · exact iter_up xs (toldF ts) x y (told_mem.mpr h1) (t + 1)
    · have l1 := less h1
      exact turn_get xs _ (ins _ h1).1 (iter_up xs (toldF ts) x z (told_mem.mpr h1) t) (ih z y (by omega) h2)
theorem tell_iff (ins : ∀ p ∈ ts, p.1 ∈ xs ∧ p.2 ∈ xs) (way : (∀ p ∈ ts, ZO.sLt p.1 p.2 = true) ∨ ∀ p ∈ ts, ZO.sLt p.2 p.1 = true) {x y : Str} : y ∈ tellT xs ts x ↔ fwR xs (memR ts) x y = true := by
  constructor
  · intro h
    refine (iter_in (Q := fun x y => x ∈ xs ∧ y ∈ xs ∧ fwR xs (memR ts) x y = true) (fun a b c h1 h2 => ⟨h1.1, h2.2.1, fw_trans h1.1 h1.2.1 h2.2.1 h1.2.2 h2.2.2⟩) xs (toldF ts) (fun a b hb => ?_) _ x y h).2.2
    have m := told_mem.mp hb
    exact ⟨(ins _ m).1, (ins _ m).2, fw_up (mem_memR.mpr m)⟩
  · intro h
    have len := List.length_filter_le (fun z => ZO.sLt x z) xs
    have len2 := List.length_filter_le (fun z => ZO.sLt z x) xs
    rcases way with w | w
    · exact tell_all ins ZO.sto_s.irr (fun a b c => ZO.sto_s.tr a b c) w xs.length x y (by omega) h
    · exact tell_all (L := fun a b => ZO.sLt b a) ins ZO.sto_s.irr (fun a b c h1 h2 => ZO.sto_s.tr c b a h2 h1) w xs.length x y (by omega) h
theorem tl_iff (ins : ∀ p ∈ ts, p.1 ∈ xs ∧ p.2 ∈ xs) (way : (∀ p ∈ ts, ZO.sLt p.1 p.2 = true) ∨ ∀ p ∈ ts, ZO.sLt p.2 p.1 = true) {x y : Str} : y ∈ tlF xs ts x ↔ y ∈ toldF (pairsOf xs ts) x := by
  rw [tol]
  unfold tlF
  rw [List.mem_filter, decide_eq_true_iff, tell_iff ins way]
  exact ⟨fun h => ⟨(fw_in ins h.2).1, h.1, h.2⟩, fun h => ⟨h.2.1, h.2.2⟩⟩
/-! ### the law's own of closed -/
theorem clo_eq (ins : ∀ p ∈ ts, p.1 ∈ xs ∧ p.2 ∈ xs) (way : (∀ p ∈ ts, ZO.sLt p.1 p.2 = true) ∨ ∀ p ∈ ts, ZO.sLt p.2 p.1 = true) (ns : List Str) : closeF xs (pairsOf xs ts) ns = wideF xs (tlF xs ts) ns := by
  unfold closeF wideF
  by_cases c : ("#" : Str) ∈ ns
  · rw [if_pos c, if_pos c]
  · rw [if_neg c, if_neg c]
    refine List.filter_congr fun x mx => decide_eq_decide.mpr ?_
    unfold reachF
    rw [List.mem_append, List.mem_flatMap, List.mem_flatMap]
    constructor
    · rintro ⟨n, mn, h⟩
      rcases List.mem_cons.mp h with rfl | h
      · exact .inl mn
      · exact .inr ⟨n, mn, (tl_iff ins way).mpr h⟩
    · rintro (h | ⟨n, mn, h⟩)
      · exact ⟨x, h, List.Mem.head _⟩
      · exact ⟨n, mn, List.Mem.tail _ ((tl_iff ins way).mp h)⟩
theorem pool_facts : ∀ x ∈ pool7, nameF x = true ∧ 43 ∉ tl x ∧ x.length ≤ 8 ∧ 1 ≤ x.length ∧ x ≠ "-" ∧ x ≠ "#" := by decide +kernel
end
end S5

set_option Elab.async false
set_option linter.all false
set_option maxRecDepth 100000
/-! Words in a text of a Sampler. -/
namespace S5
open PySem PySem.Spec PyProof.Rows L2 Evl ZE ZS StX ZD RZ ZT ZX TL
def flatF (ys : List Str) : Str := if ys = [] then "-" else Txt.join "+" ys
section
variable {xs : List Str} {ts : List (Str × Str)}
theorem ns_flat {bag : List Str} (pf : ∀ x ∈ bag, nameF x = true ∧ 43 ∉ tl x ∧ x.length ≤ 8 ∧ 1 ≤ x.length ∧ x ≠ "-" ∧ x ≠ "#") : ktF bag = flatF bag ∧ nsF (flatF bag) = some bag := by
  by_cases e : bag = []
  · subst e
    exact ⟨by decide +kernel, by decide +kernel⟩
  · have ct : cutF (Txt.join "+" bag) = bag := split_join (y := "+") (s := 43) (S := []) (by decide +kernel) (by decide +kernel) e fun p m => (pf p m).2.1
    have ne : ∀ z : Str, 43 ∉ tl z → z.length ≤ 1 → nameF z = false → Txt.join "+" bag ≠ z := fun z h1 h2 h3 h => by
      rw [h] at ct
      have cz : cutF z = [z] := split_join (y := "+") (s := 43) (S := []) (parts := [z]) (by decide +kernel) (by decide +kernel) (by simp) fun p m => by rw [List.mem_singleton.mp m]; exact h1
      rw [cz] at ct
      have := (pf z (by rw [← ct]; exact List.Mem.head _)).1
      rw [h3] at this
      cases this
    have n1 := ne "-" (by decide +kernel) (by decide +kernel) (by decide +kernel)
    have n2 := ne "#" (by decide +kernel) (by decide +kernel) (by decide +kernel)
    have fe : flatF bag = Txt.join "+" bag := if_neg e
    constructor
    · rw [fe]
      unfold ktF
      rw [if_neg fun z => ?_]
      have em : Txt.join "+" bag = Str.empty := by
        generalize Txt.join "+" bag = w at z
        obtain ⟨c⟩ := w
        have : c = #[] := Array.eq_empty_of_size_eq_zero z
        rw [this]
        rfl
      exact ne Str.empty (by decide +kernel) (by decide +kernel) (by decide +kernel) em
    · rw [fe]
      unfold nsF
      rw [if_neg n1, if_neg n2, ct, if_pos (List.all_eq_true.mpr fun p m => (pf p m).1)]
end
/-! ### words in a row -/
def wsp : List Nat → List Nat → List (List Nat)
  | acc, [] => if acc = [] then [] else [acc]
  | acc, c :: r => if c = 32 then (if acc = [] then wsp [] r else acc :: wsp [] r) else wsp (acc ++ [c]) r
theorem wsp_spl : ∀ (l acc : List Nat), (spl [32] 0 acc l).filter (fun p => !decide (p = [])) = wsp acc l
  | [], acc => by
    rw [spl_nil]
    show List.filter _ [acc] = if acc = [] then [] else [acc]
    by_cases h : acc = []
    · rw [if_pos h, h]
      rfl
    · rw [if_neg h, List.filter_cons_of_pos (by rw [decide_eq_false h]; rfl)]
      rfl
  | c :: r, acc => by
    have p : pre [32] (c :: r) = decide (c = 32) := by
      show ((c :: r).take 1 == [32]) = decide (c = 32)
      rw [show (c :: r).take 1 = [c] by simp]
      by_cases h : c = 32
      · rw [h]; rfl
      · rw [decide_eq_false h]
        simp [h]
    unfold spl wsp
    rw [p]
    by_cases h : c = 32
    · rw [if_pos (decide_eq_true h), if_pos h]
      show List.filter _ (acc :: spl [32] 0 [] r) = _
      by_cases h2 : acc = []
      · rw [if_pos h2, List.filter_cons_of_neg (by rw [decide_eq_true h2]; decide)]
        exact wsp_spl r []
      · rw [if_neg h2, List.filter_cons_of_pos (by rw [decide_eq_false h2]; rfl), wsp_spl r []]
    · rw [if_neg (by rw [decide_eq_false h]; exact Bool.false_ne_true), if_neg h]
      exact wsp_spl r (acc ++ [c])
theorem words_map (x : Str) : (wordsF x).map tl = wsp [] (tl x) := by
  have e : tl " " = [32] := by decide +kernel
  have z := sp_map x
  rw [e] at z
  rw [← wsp_spl, ← z, List.filter_map]
  congr 1
  refine List.filter_congr fun y _ => ?_
  congr 1
  exact decide_eq_decide.mpr ⟨fun h => by rw [h]; rfl, fun h => ext_tl h⟩
theorem wsp_word : ∀ (w acc r : List Nat), 32 ∉ w → wsp acc (w ++ r) = wsp (acc ++ w) r
  | [], acc, r, _ => by rw [List.append_nil]; rfl
  | c :: w, acc, r, h => by
    have hc : c ≠ 32 := fun z => h (z ▸ List.Mem.head _)
    show (if c = 32 then _ else wsp (acc ++ [c]) (w ++ r)) = _
    rw [if_neg hc, wsp_word w _ _ fun m => h (List.Mem.tail _ m), List.append_assoc]
    rfl
theorem wsp_sp (r : List Nat) : ∀ k, wsp [] (List.replicate k 32 ++ r) = wsp [] r
  | 0 => rfl
  | k + 1 => by
    rw [List.replicate_succ]
    show wsp [] (32 :: (List.replicate k 32 ++ r)) = _
    rw [show wsp [] (32 :: (List.replicate k 32 ++ r)) = wsp [] (List.replicate k 32 ++ r) from rfl]
    exact wsp_sp r k
theorem wsp_gap {w : List Nat} (h : w ≠ []) (r : List Nat) (k : Nat) : wsp w (List.replicate (k + 1) 32 ++ r) = w :: wsp [] r := by
  rw [List.replicate_succ]
  rw [← wsp_sp r k]
  show (if (32 : Nat) = 32 then (if w = [] then wsp [] (List.replicate k 32 ++ r) else w :: wsp [] (List.replicate k 32 ++ r)) else _) = _
  rw [if_pos rfl, if_neg h]
theorem wsp_end {w : List Nat} (h : w ≠ []) (k : Nat) : wsp w (List.replicate k 32) = [w] := by
  cases k with
  | zero => exact if_neg h
  | succ k =>
    have z := wsp_gap h [] k
    rw [List.append_nil] at z
    rw [z]
    rfl
theorem ws_of {x : Str} {ws : List Str} (h : wsp [] (tl x) = ws.map tl) : wordsF x = ws := map_tl_inj ((words_map x).trans h)
def spc (k : Nat) : Str := Txt.mul " " (k : Int)
theorem spc_tl : ∀ k, k ≤ 4 → tl (spc k) = List.replicate k 32
  | 0, _ => by decide +kernel
  | 1, _ => by decide +kernel
  | 2, _ => by decide +kernel
  | 3, _ => by decide +kernel
  | 4, _ => by decide +kernel
  | _ + 5, h => absurd h (by omega)
theorem spc_len {k : Nat} (h : k ≤ 4) : (spc k).length = k := by rw [len_tl, spc_tl k h, List.length_replicate]
theorem spc_ok {k : Nat} (h : k ≤ 4) : PyData.strOk (spc k) = true := by
  rw [strOk_tl, spc_tl k h]
  intro c m
  rw [(List.mem_replicate.mp m).2]
  decide
/-- a word -/
structure Wd (w : Str) (n : Nat) : Prop where
  ok : PyData.strOk w = true
  ne : tl w ≠ []
  sp : 32 ∉ tl w
  len : w.length ≤ n
theorem wsp_join {g c : Nat} : ∀ (r : List (List Nat)) (w : List Nat), (∀ x ∈ w :: r, x ≠ [] ∧ 32 ∉ x) → wsp [] (joinL (List.replicate (g + 1) 32) (w :: r) ++ List.replicate c 32) = w :: r
  | [], w, h => by
    have hw := h w (List.Mem.head _)
    show wsp [] (w ++ List.replicate c 32) = [w]
    rw [wsp_word _ _ _ hw.2, List.nil_append, wsp_end hw.1]
  | q :: r, w, h => by
    have hw := h w (List.Mem.head _)
    show wsp [] ((w ++ (List.replicate (g + 1) 32 ++ joinL (List.replicate (g + 1) 32) (q :: r))) ++ List.replicate c 32) = w :: q :: r
    rw [List.append_assoc, List.append_assoc, wsp_word _ _ _ hw.2, List.nil_append, wsp_gap hw.1, wsp_join r q fun x m => h x (List.Mem.tail _ m)]
theorem words_flat {ws : List Str} {n a g c : Nat} (hw : ∀ w ∈ ws, Wd w n) (ne : ws ≠ []) (ha : a ≤ 4) (hg : g + 1 ≤ 4) (hc : c ≤ 4) : wordsF (spc a ++ Txt.join (spc (g + 1)) ws ++ spc c) = ws := ws_of (by
  rw [tl_append, tl_append, join_eq, tl_join, spc_tl _ ha, spc_tl _ hg, spc_tl _ hc, List.append_assoc, wsp_sp]
  cases ws with
  | nil => exact absurd rfl ne
  | cons w r =>
    rw [List.map_cons]
    exact wsp_join _ _ fun x m => by
      rcases List.mem_cons.mp m with rfl | m
      · exact ⟨(hw w (List.Mem.head _)).ne, (hw w (List.Mem.head _)).sp⟩
      · obtain ⟨z, mz, rfl⟩ := List.mem_map.mp m
        exact ⟨(hw z (List.Mem.tail _ mz)).ne, (hw z (List.Mem.tail _ mz)).sp⟩)
end S5

set_option Elab.async false
set_option linter.all false
set_option maxRecDepth 100000
/-! A drawn row: its Sampler, and its text. -/
namespace S5
open PySem PySem.Spec PyProof.Rows L2 Evl ZE ZS StX ZD RZ ZT ZX TL
theorem app_assoc (a b c : Str) : a ++ b ++ c = a ++ (b ++ c) := ext_tl (by rw [tl_append, tl_append, tl_append, tl_append, List.append_assoc])
theorem app_tlen (a b : Str) : (a ++ b).length = a.length + b.length := by rw [len_tl, tl_append, List.length_append, ← len_tl, ← len_tl]
theorem joinL_mem {S : List Nat} {c : Nat} : ∀ {ps : List (List Nat)}, c ∈ joinL S ps → c ∈ S ∨ ∃ p ∈ ps, c ∈ p
  | [], h => nomatch h
  | [p], h => .inr ⟨p, List.mem_singleton.mpr rfl, h⟩
  | p :: q :: r, h => by
    rcases List.mem_append.mp h with h | h
    · exact .inr ⟨p, List.Mem.head _, h⟩
    · rcases List.mem_append.mp h with h | h
      · exact .inl h
      · rcases joinL_mem h with h | ⟨z, mz, h⟩
        · exact .inl h
        · exact .inr ⟨z, List.Mem.tail _ mz, h⟩
theorem joinL_len {S : List Nat} {n : Nat} : ∀ {ps : List (List Nat)}, (∀ p ∈ ps, p.length ≤ n) → (joinL S ps).length ≤ ps.length * (n + S.length)
  | [], _ => Nat.zero_le _
  | [p], h => by
    have := h p (List.Mem.head _)
    show p.length ≤ 1 * _
    omega
  | p :: q :: r, h => by
    have h1 := h p (List.Mem.head _)
    have h2 := joinL_len (S := S) fun z mz => h z (List.Mem.tail p mz)
    show (p ++ (S ++ joinL S (q :: r))).length ≤ _
    rw [List.length_append, List.length_append, List.length_cons, Nat.succ_mul]
    omega
theorem join_tok {ys : List Str} (ok : Oks ys) (l : ys.length ≤ 6) (l8 : ∀ y ∈ ys, y.length ≤ 8) : PyData.strOk (Txt.join "+" ys) = true ∧ (Txt.join "+" ys).length ≤ 54 := by
  constructor
  · rw [strOk_tl, join_eq, tl_join]
    intro c m
    rcases joinL_mem m with m | ⟨p, mp, m⟩
    · have e : tl "+" = [43] := by decide +kernel
      rw [e, List.mem_singleton] at m
      omega
    · obtain ⟨y, my, rfl⟩ := List.mem_map.mp mp
      exact strOk_tl.mp (ok y my) c m
  · rw [len_tl, join_eq, tl_join]
    have z := joinL_len (S := tl "+") (n := 8) (ps := ys.map tl) fun p mp => by
      obtain ⟨y, my, rfl⟩ := List.mem_map.mp mp
      rw [← len_tl]
      exact l8 y my
    have e : (tl "+").length = 1 := rfl
    rw [List.length_map, e] at z
    omega
theorem sum_le (n : Nat) : ∀ {ys : List Str}, (∀ y ∈ ys, y.length ≤ n) → (ys.map (·.length)).sum ≤ ys.length * n
  | [], _ => Nat.zero_le _
  | y :: ys, h => by
    have h1 := h y (List.Mem.head _)
    have h2 := sum_le n fun z mz => h z (List.Mem.tail y mz)
    rw [List.map_cons, List.sum_cons, List.length_cons, Nat.succ_mul]
    omega
theorem flat_tok {ys : List Str} (ok : Oks ys) (l : ys.length ≤ 6) (l8 : ∀ y ∈ ys, y.length ≤ 8) : PyData.strOk (flatF ys) = true ∧ (flatF ys).length ≤ 54 := by
  unfold flatF
  split
  · exact ⟨by decide +kernel, by decide +kernel⟩
  · exact join_tok ok l l8
section
variable {xs : List Str} {ts : List (Str × Str)}
theorem clo_mem {ps : List (Str × Str)} {ys zs : List Str} (h : ∀ x, x ∈ ys ↔ x ∈ zs) : closeF xs ps ys = closeF xs ps zs := by
  unfold closeF
  by_cases c : ("#" : Str) ∈ ys
  · rw [if_pos c, if_pos ((h _).mp c)]
  · rw [if_neg c, if_neg fun z => c ((h _).mpr z)]
    refine List.filter_congr fun x _ => decide_eq_decide.mpr ?_
    unfold reachF
    rw [List.mem_flatMap, List.mem_flatMap]
    exact ⟨fun ⟨n, m, k⟩ => ⟨n, (h n).mp m, k⟩, fun ⟨n, m, k⟩ => ⟨n, (h n).mpr m, k⟩⟩
/-- a row's bag -/
structure RowM (xs : List Str) (ts : List (Str × Str)) (bag W : List Str) : Prop where
  hW : closeF xs (pairsOf xs ts) bag = W
  out : outF (xs ++ (["#"] : List Str)) bag = none
  wide : wideF xs (tlF xs ts) bag = W
  ob : Oks bag
  lb : bag.length ≤ 5
  inx : ∀ y ∈ bag, y ∈ xs ∨ y = ("#" : Str)
  okW : Oks W
  lW : W.length ≤ 5
  l8 : ∀ y ∈ W, y.length ≤ 8
  outW : outF (xs ++ (["#"] : List Str)) W = none
  perm : ∀ ys : List Str, ys.Perm W → closeF xs (pairsOf xs ts) ys = W ∧ outF (xs ++ (["#"] : List Str)) ys = none ∧ Oks ys ∧ ys.length ≤ 5
  kt : ktF W = flatF W
  ns : nsF (flatF W) = some W
  wd : Wd (flatF W) 54
  outq : outF (xs ++ (["#"] : List Str)) (bag ++ (["q"] : List Str)) = some ("q" : Str)
theorem RowM.clo {bag W : List Str} (M : RowM xs ts bag W) : closeF xs (pairsOf xs ts) W = W := (M.perm W (.refl _)).1
theorem lets_sp {x : Str} (h : nameF x = true) : 32 ∉ tl x := by
  intro m
  have h := (Bool.and_eq_true_iff.mp (Bool.and_eq_true_iff.mp h).2).2
  have z : ∃ c ∈ lets x, c = (⟨#[32]⟩ : Str) := ⟨_, List.mem_map.mpr ⟨32, m, rfl⟩, rfl⟩
  obtain ⟨c, mc, rfl⟩ := z
  have := List.all_eq_true.mp h _ mc
  revert this
  decide +kernel
theorem row_ok (bk : Bk 4 xs ts) {bag : List Str} (hb : bag = (["#"] : List Str) ∨ ((∀ y ∈ bag, y ∈ xs) ∧ bag.length ≤ xs.length)) : RowM xs ts bag (closeF xs (pairsOf xs ts) bag) := by
  have ns : ("#" : Str) ∉ xs := fun m => by
    have := bk.pool _ m
    revert this
    decide +kernel
  have nq : ("q" : Str) ∉ xs ++ (["#"] : List Str) := fun m => by
    rcases List.mem_append.mp m with m | m
    · have := bk.pool _ m
      revert this
      decide +kernel
    · revert m
      decide +kernel
  have ok : Oks xs := fun x m => pool_ok x (bk.pool x m)
  have l4 := bk.len2
  have pf := fun x mx => pool_facts x (bk.pool x mx)
  have hout : ∀ y ∈ bag, y ∈ xs ++ (["#"] : List Str) := fun y m => by
    rcases hb with rfl | ⟨h, _⟩
    · exact List.mem_append_right _ m
    · exact List.mem_append_left _ (h y m)
  have hq : outF (xs ++ (["#"] : List Str)) (bag ++ (["q"] : List Str)) = some ("q" : Str) := by
    unfold outF
    rw [List.find?_append, List.find?_eq_none.mpr fun y m => by rw [decide_eq_true (hout y m)]; exact Bool.false_ne_true]
    rw [Option.none_or]
    rw [List.find?_cons_of_pos (by rw [decide_eq_false nq]; rfl)]
  by_cases c : ("#" : Str) ∈ bag
  · have e : bag = (["#"] : List Str) := hb.elim id fun h => absurd (h.1 _ c) ns
    subst e
    have eW : closeF xs (pairsOf xs ts) (["#"] : List Str) = (["#"] : List Str) := if_pos c
    rw [eW]
    refine ⟨eW, out_none.mpr hout, if_pos c, oks_sharp, by decide, fun y m => .inr (List.mem_singleton.mp m), oks_sharp, by decide, fun y m => (by rw [List.mem_singleton.mp m]; decide), out_none.mpr hout, fun ys hp => ?_, by decide +kernel, by decide +kernel, ⟨by decide +kernel, by decide +kernel, by decide +kernel, by decide +kernel⟩, hq⟩
    have e := List.perm_singleton.mp hp
    subst e
    exact ⟨eW, out_none.mpr hout, oks_sharp, by decide⟩
  · have hx : ∀ y ∈ bag, y ∈ xs := hb.elim (fun e => absurd (by rw [e]; exact List.Mem.head _) c) And.left
    have lb : bag.length ≤ 4 := hb.elim (fun e => by rw [e]; decide) fun h => Nat.le_trans h.2 l4
    have eW : closeF xs (pairsOf xs ts) bag = xs.filter fun x => decide (x ∈ reachF (pairsOf xs ts) bag) := if_neg c
    have subW : ∀ y ∈ closeF xs (pairsOf xs ts) bag, y ∈ xs := fun y m => by
      rw [eW] at m
      exact (List.mem_filter.mp m).1
    have lW : (closeF xs (pairsOf xs ts) bag).length ≤ 4 := by
      rw [eW]
      exact Nat.le_trans (List.length_filter_le _ _) l4
    have sh : ("#" : Str) ∉ closeF xs (pairsOf xs ts) bag := fun m => ns (subW _ m)
    have clo : closeF xs (pairsOf xs ts) (closeF xs (pairsOf xs ts) bag) = closeF xs (pairsOf xs ts) bag := by
      rw [show closeF xs (pairsOf xs ts) (closeF xs (pairsOf xs ts) bag) = xs.filter fun x => decide (x ∈ reachF (pairsOf xs ts) (closeF xs (pairsOf xs ts) bag)) from if_neg sh]
      conv => rhs; rw [eW]
      refine List.filter_congr fun x mx => decide_eq_decide.mpr ?_
      unfold reachF
      rw [List.mem_flatMap, List.mem_flatMap]
      constructor
      · rintro ⟨n, mn, h⟩
        rw [eW] at mn
        obtain ⟨n1, n2⟩ := List.mem_filter.mp mn
        have n2 := of_decide_eq_true n2
        unfold reachF at n2
        obtain ⟨m, mm, h2⟩ := List.mem_flatMap.mp n2
        rcases List.mem_cons.mp h with rfl | h
        · exact ⟨m, mm, h2⟩
        · rcases List.mem_cons.mp h2 with rfl | h2
          · exact ⟨n, mm, List.Mem.tail _ h⟩
          · have t1 := tol.mp h
            have t2 := tol.mp h2
            exact ⟨m, mm, List.Mem.tail _ (tol.mpr ⟨t2.1, t1.2.1, fw_trans t2.1 t2.2.1 t1.2.1 t2.2.2 t1.2.2⟩)⟩
      · rintro ⟨n, mn, h⟩
        refine ⟨x, ?_, List.Mem.head _⟩
        rw [eW]
        exact List.mem_filter.mpr ⟨mx, decide_eq_true (List.mem_flatMap.mpr ⟨n, mn, h⟩)⟩
    have pfW := fun x mx => pf x (subW x mx)
    have z := ns_flat pfW
    have okW : Oks (closeF xs (pairsOf xs ts) bag) := fun y m => ok y (subW y m)
    have l8 : ∀ y ∈ closeF xs (pairsOf xs ts) bag, y.length ≤ 8 := fun y my => (pfW y my).2.2.1
    have ft := flat_tok okW (by omega) l8
    refine ⟨rfl, out_none.mpr hout, (clo_eq bk.ins bk.way bag).symm, fun y m => ok y (hx y m), by omega, fun y m => .inl (hx y m), okW, by omega, l8, out_none.mpr fun y m => List.mem_append_left _ (subW y m), fun ys hp => ?_, z.1, z.2, ⟨ft.1, ?_, ?_, ft.2⟩, hq⟩
    · exact ⟨(clo_mem fun x => hp.mem_iff).trans clo, out_none.mpr fun y m => List.mem_append_left _ (subW y (hp.mem_iff.mp m)), fun y m => okW y (hp.mem_iff.mp m), by rw [hp.length_eq]; omega⟩
    · intro e
      have n0 : nsF (flatF (closeF xs (pairsOf xs ts) bag)) = none := by
        rw [show flatF (closeF xs (pairsOf xs ts) bag) = Str.empty from ext_tl e]
        decide +kernel
      rw [z.2] at n0
      cases n0
    · unfold flatF
      split
      · decide +kernel
      · rw [join_eq, tl_join]
        intro m
        rcases joinL_mem m with m | ⟨p, mp, m⟩
        · revert m
          decide +kernel
        · obtain ⟨y, my, rfl⟩ := List.mem_map.mp mp
          exact lets_sp (pfW y my).1 m
/-! ### its text -/
def wdsF (W : List Str) (r : Nat × Nat) (salt : Str) : List Str := [flatF W, shT r.1 r.2] ++ if salt = Str.empty then [] else [salt]
theorem rate_ok : ∀ r ∈ rates, siF (shT r.1 r.2) = some r ∧ shB r.1 r.2 = true ∧ Wd (shT r.1 r.2) 8 := fun r m => by
  have z : ∀ r ∈ rates, siF (shT r.1 r.2) = some r ∧ shB r.1 r.2 = true ∧ PyData.strOk (shT r.1 r.2) = true ∧ tl (shT r.1 r.2) ≠ [] ∧ 32 ∉ tl (shT r.1 r.2) ∧ (shT r.1 r.2).length ≤ 8 := by decide +kernel
  obtain ⟨h1, h2, h3, h4, h5, h6⟩ := z r m
  exact ⟨h1, h2, h3, h4, h5, h6⟩
theorem salt_ok : ∀ s ∈ salts, saltF s = true ∧ PyData.strOk s = true ∧ s.length ≤ 8 ∧ s ≠ "q" ∧ (s ≠ Str.empty → Wd s 8) := fun s m => by
  have z : ∀ s ∈ salts, saltF s = true ∧ PyData.strOk s = true ∧ s.length ≤ 8 ∧ s ≠ "q" ∧ (s ≠ Str.empty → tl s ≠ []) ∧ 32 ∉ tl s := by decide +kernel
  obtain ⟨h1, h2, h3, h4, h5, h6⟩ := z s m
  exact ⟨h1, h2, h3, h4, fun h => ⟨h2, h5 h, h6, h3⟩⟩
theorem wds_ok {bag W : List Str} {r : Nat × Nat} {salt : Str} (M : RowM xs ts bag W) (hr : r ∈ rates) (hs : salt ∈ salts) : ∀ w ∈ wdsF W r salt, Wd w 54 := fun w m => by
  have R := (rate_ok r hr).2.2
  have S := salt_ok salt hs
  unfold wdsF at m
  rcases List.mem_append.mp m with m | m
  · rcases List.mem_cons.mp m with rfl | m
    · exact M.wd
    · rw [List.mem_singleton.mp m]
      exact ⟨R.ok, R.ne, R.sp, Nat.le_trans R.len (by decide)⟩
  · split at m
    · cases m
    · next c =>
      rw [List.mem_singleton.mp m]
      have S := S.2.2.2.2 c
      exact ⟨S.ok, S.ne, S.sp, Nat.le_trans S.len (by decide)⟩
theorem join2 (y a b : Str) : Txt.join y [a, b] = a ++ y ++ b := by rw [join_eq]; rfl
theorem join3 (y a b c : Str) : Txt.join y [a, b, c] = a ++ y ++ (b ++ y ++ c) := by rw [join_eq]; rfl
theorem sp1 : spc 1 = (" " : Str) := by decide +kernel
theorem smT_wds {bag W : List Str} {r : Nat × Nat} {salt : Str} (M : RowM xs ts bag W) : Txt.join " " (wdsF W r salt) = smT W r.1 r.2 salt := by
  unfold wdsF smT plainT
  rw [M.kt]
  split
  · rw [List.append_nil, join2]
  · show Txt.join " " [flatF W, shT r.1 r.2, salt] = _
    rw [join3, app_assoc, app_assoc, app_assoc, app_assoc, app_assoc]
theorem flat_row {bag W : List Str} {r : Nat × Nat} {salt : Str} {a g c : Nat} (M : RowM xs ts bag W) (hr : r ∈ rates) (hs : salt ∈ salts) (ha : a ≤ 2) (hg1 : 1 ≤ g) (hg : g ≤ 3) (hc : c ≤ 1) :
    Tok' (spc a ++ Txt.join (spc g) (wdsF W r salt) ++ spc c) ∧ (spc a ++ Txt.join (spc g) (wdsF W r salt) ++ spc c).length ≤ 99 ∧ (∀ y ∈ wordsF (spc a ++ Txt.join (spc g) (wdsF W r salt) ++ spc c), y.length ≤ 59) ∧ spF (spc a ++ Txt.join (spc g) (wdsF W r salt) ++ spc c) = some (W, r, salt) := by
  obtain ⟨g, rfl⟩ : ∃ k, g = k + 1 := ⟨g - 1, by omega⟩
  have wo := wds_ok M hr hs
  have ew : wordsF (spc a ++ Txt.join (spc (g + 1)) (wdsF W r salt) ++ spc c) = wdsF W r salt := words_flat wo (by unfold wdsF; simp) (by omega) (by omega) (by omega)
  have R := rate_ok r hr
  have S := salt_ok salt hs
  have l1 := spc_len (k := a) (by omega)
  have l2 := spc_len (k := g + 1) (by omega)
  have l3 := spc_len (k := c) (by omega)
  have o1 := spc_ok (k := a) (by omega)
  have o2 := spc_ok (k := g + 1) (by omega)
  have o3 := spc_ok (k := c) (by omega)
  have lf := M.wd.len
  have lr := R.2.2.len
  have jn : PyData.strOk (Txt.join (spc (g + 1)) (wdsF W r salt)) = true ∧ (Txt.join (spc (g + 1)) (wdsF W r salt)).length ≤ 78 := by
    unfold wdsF
    split
    · rw [List.append_nil, join2]
      exact ⟨app_ok (app_ok M.wd.ok o2) R.2.2.ok, by rw [app_tlen, app_tlen]; omega⟩
    · show PyData.strOk (Txt.join (spc (g + 1)) [flatF W, shT r.1 r.2, salt]) = true ∧ (Txt.join (spc (g + 1)) [flatF W, shT r.1 r.2, salt]).length ≤ 78
      rw [join3]
      have := S.2.2.1
      exact ⟨app_ok (app_ok M.wd.ok o2) (app_ok (app_ok R.2.2.ok o2) S.2.1), by rw [app_tlen, app_tlen, app_tlen, app_tlen]; omega⟩
  have len : (spc a ++ Txt.join (spc (g + 1)) (wdsF W r salt) ++ spc c).length ≤ 99 := by
    rw [app_tlen, app_tlen]
    omega
  refine ⟨⟨app_ok (app_ok o1 jn.1) o3, by omega⟩, len, fun y m => ?_, ?_⟩
  · rw [ew] at m
    exact Nat.le_trans (wo y m).len (by decide)
  · unfold spF
    rw [ew]
    unfold wdsF
    by_cases e : salt = Str.empty
    · subst e
      rw [if_pos rfl, List.append_nil]
      show (if (2 = 2 ∨ 2 = 3) then (match nsF (flatF W), siF (shT r.1 r.2) with
        | some ns, some nd => if saltF Str.empty = true then some (ns, nd, Str.empty) else none
        | _, _ => none) else none) = _
      rw [if_pos (.inl rfl), M.ns, R.1]
      exact if_pos S.1
    · rw [if_neg e]
      show (if (3 = 2 ∨ 3 = 3) then (match nsF (flatF W), siF (shT r.1 r.2) with
        | some ns, some nd => if saltF salt = true then some (ns, nd, salt) else none
        | _, _ => none) else none) = _
      rw [if_pos (.inr rfl), M.ns, R.1]
      exact if_pos S.1
end
end S5

set_option Elab.async false
set_option linter.all false
set_option maxRecDepth 100000
namespace S5
open PySem PySem.Spec PyProof.Rows L2 Evl ZE ZS StX ZD RZ ZT ZX TL
section
variable {P : Program} {w : World} {K : PySem.W.Frag} {mg : Str → Option Value} {base : Heap} {aI : Addr}
section
variable {σ : L2.St} {B H : Hp} {te tl ta tb tw : TE} {tas : TA} {tc : TT} {t : TS} {u : TS} {D : Ends} {d : PyData} {ds : List PyData} {R : PyData → Prop} {c : Nat} {i : Nat}
theorem rv_mulS {x : Str} {n : Nat} (l1 : n ≤ 1000) (l2 : x.length ≤ 1000) : RvD K rMulS (.str x) (.int (n : Int)) (.str (Txt.mul x n)) := rv_sc (fun _ => .str _) fun H v u hv hu Q q => by
  obtain rfl := p_str hv
  obtain rfl := p_int hu
  exact ⟨x, n, rfl, rfl, l1, l2, q⟩
theorem rc_strI {n : Nat} (h : n < 10 ^ 100) : RcD K (fun xs H Q => ∃ i, xs = [V.int i] ∧ i.natAbs.log2 < 1920 ∧ Q (.str (toString i)) H) [.int (n : Int)] (.str (numT n)) := rc_sc (fun _ => .str _) fun H vs hv Q q => by
  obtain ⟨x, rfl, hx⟩ := one hv
  obtain rfl := p_int hx
  exact ⟨_, rfl, num_log h, q⟩
/-- sep.join(l), the separator drawn -/
theorem eu_join {v : Addr} {ys : List Str} {Rr : PyData → Prop} (bu : B v = none) (h : EvU K te σ B v R c) (hw : EvD K tw σ B (.list (ys.map .str))) (hR : ∀ d, R d → ∃ a : Str, d = .str a ∧ (ys.map (·.length)).sum + ys.length * a.length ≤ 16777216 ∧ Rr (.str (Txt.join a ys))) : EvU K (tM1 (rJoin K) te tw) σ B v Rr c := fun H n b un few Q q => h H n b un few _ fun d x H1 m hr e1 hx un1 l1 => by
  obtain ⟨a, rfl, la, rr⟩ := hR d hr
  obtain rfl := p_str hx
  have a1 := (At.start b (del_le (p := v))).urn' del_at bu e1 un1.some
  refine ⟨⟨a, rfl⟩, hw H1 a1.b _ fun y H2 e2 hy => ?_⟩
  obtain ⟨p, vs, rfl, hs, hx⟩ := sq_split hy (.inl rfl)
  obtain rfl := strs_vals hx
  exact ⟨a, p, ys, rfl, rfl, hs.imp (ex_l sub_le) (ex_t sub_le), la, q _ _ H2 m rr (e1.trans e2) (.str _) (un1.up e2) l1⟩
/-- if test: a statement without another branch, both ways told by J -/
theorem g_ifJ {b0 : Bool} (J : Hp → Prop) (h : EvT tc σ B b0) (b : Ex B H) (rest : ∀ H3, J H3 → u D σ H3) (q1 : b0 = true → ∀ H2, Ex H H2 → ∀ D' : Ends, (∀ H3, J H3 → D'.nx σ H3) → t D' σ H2) (q2 : b0 = false → ∀ H2, Ex H H2 → J H2) : tSeq (tIfS tc t tNext) u D σ H :=
  g_if1 h b (fun hc H2 e2 => q1 hc H2 e2 _ fun H3 j => rest H3 j) fun hc H2 e2 => rest H2 (q2 hc H2 e2)
theorem DpAll.setD : ∀ {vs : List V} {ds : List PyData} {v : V} {d : PyData} (j : Nat), DpAll K B vs ds → Dp K B v d → DpAll K B (vs.set j v) (ds.set j d)
  | _, _, _, _, _, .nil, _ => .nil
  | _, _, _, _, 0, .cons _ t, h => .cons h t
  | _, _, _, _, j + 1, .cons a t, h => .cons a (DpAll.setD j t h)
/-- l[k] = e, l of one's own -/
theorem g_setMu {l : Addr} {es : List PyData} {j : Nat} {k : Int} (h : EvD K te σ B d) (hi : σ[i]? = some (some (V.ref l))) (hk : EvD K ta σ B (.int k)) (m : Mu K B H l es) (b : Ex B H) (hj : ixN es.length k = some j) (q : ∀ H2 ws, Ex H H2 → Mu K (sub H2 H B) (upd H2 l (.lst ws)) l (es.set j d) → D.nx σ (upd H2 l (.lst ws))) : tAsg te (gSub (tVar i) ta rSetL) D σ H := h H b _ fun x H1 e1 hx => ⟨.ref l, hi, hk H1 (b.trans e1) _ fun y H2 e2 hy => by
  obtain rfl := p_int hy
  obtain ⟨vs, m1, m2, m3⟩ := m
  refine ⟨l, vs, k, j, rfl, rfl, e2 l _ (e1 l _ m1), by rw [DpAll.len m3]; exact hj, q H2 _ (e1.trans e2) ⟨_, upd_same, sub_no ⟨by rw [m1]; rfl, m2⟩, DpAll.setD j (dpa_up m3 (le_sub b (e1.trans e2))) (dp_up hx (sub_mono e2))⟩⟩⟩
end
def rtP (ds : List PyData) (R : PyData → Prop) (c : Nat) : Prop := ds = [] ∧ (R = fun d => d = .bool true) ∧ c = 700
theorem fz_prs (ts : List (Str × Str)) (l : ts.length ≤ 100) : fzOk 2 (.tuple (ts.map pr)) = true ∧ fz 2 (.tuple (ts.map pr)) = .tuple (ts.map pr) := by
  constructor
  · show (decide ((ts.map pr).length < 1000) && (ts.map pr).all (fzOk 1)) = true
    rw [List.length_map, decide_eq_true (by omega), Bool.true_and, List.all_eq_true]
    intro d m
    obtain ⟨x, _, rfl⟩ := List.mem_map.mp m
    rfl
  · show PyData.tuple ((ts.map pr).map (fz 1)) = _
    rw [List.map_map]
    rfl
theorem can_book {xs : List Str} {ts : List (Str × Str)} (bk : Bk 4 xs ts) : ZO.can ZO.sLt xs = xs ∧ Book xs ts ∧ Bo xs ts := by
  have ok : Oks xs := fun x m => pool_ok x (bk.pool x m)
  have l4 := bk.len2
  refine ⟨ZO.can_self ZO.sto_s bk.up, ⟨ok, by omega, bk.lp, bk.ins, fun a _ => ?_⟩, ⟨ok, by omega, bk.lp, bk.ins⟩⟩
  cases h : fwR xs (memR ts) a a with
  | false => rfl
  | true => exact absurd rfl (noring (xs := xs) bk.way a a h)
theorem d_r0 : RowK (xs : List Str) ([], (1, 2), "") := ⟨.inr ⟨(fun _ m => nomatch m), Nat.zero_le _⟩, by decide, by decide⟩
theorem rate_num : ∀ r ∈ rates, r.1 < 10 ^ 100 ∧ r.2 < 10 ^ 100 ∧ (numT r.1).length + 1 + (numT r.2).length ≤ 100 ∧ ((1 : Int) < (r.2 : Int) → numT r.1 ++ ("/" : Str) ++ numT r.2 = shT r.1 r.2) ∧ (¬ (1 : Int) < (r.2 : Int) → ("1" : Str) = shT r.1 r.2) := by decide +kernel
def wdsD (W : List Str) (r : Nat × Nat) (salt : Str) : List PyData := (wdsF W r salt).map .str
theorem q_kok : KyOk ["q"] (pairsOf ["q"] []) ∧ Oks (closeF ["q"] (pairsOf ["q"] []) []) := ⟨kok_of (by decide +kernel) (by decide), all_oks (by decide +kernel)⟩
abbrev sLRight : Stmt := (top 52)
abbrev NLRight : List Str := ["_law_urn", "_law_book_here", "_law_keyring", "_law_rows_so", "_law_bag", "_law_rate_so", "_law_salt_so", "_law_wide_here", "_law_far", "_law_own", "_law_words", "_law_got", "_law_flat", "_law_kin", "_law_other"]
theorem scLRight : FnScope NLRight ["_law_urn"] (defScope sLRight) := ⟨rfl, rfl, rfl, by decide +kernel, rfl, by decide +kernel, by decide +kernel⟩
set_option maxHeartbeats 0 in
theorem ok_right {f C Cs Cb Cn Ch Ct po_ go_ fi e0 fS fh fb fw fr fR fH fs ft fl fm fa fq p2 p3 p4 p5 h2_ h3_ h4_ h5_ : Addr} {fd fdi fdS fdh fdb fdw fdr fdR fdH fds fdt fdl fdm fda fdq fd2 fd3 fd4 fd5 fdo : FuncData} {ds1 ds3 : List Value} {mc : Value} (F : Fun K "_law_right" "_law_right" sLRight f fd) (T : Tx K mg aI) (Ti : Ty K mg) (S : Sc K Cs) (Tks_ : Tks K Cs) (MK : MkK P w K mg base C fi e0 fdi ds1) (MS : MkS2 P w K mg base Cs C Cn Ch Ct fS fdS ds3)
    (OS : OfS P w K mg base Cs C Cb Cn Ch Ct mc po_ go_ fdo) (Wof : KBn K fdo ["keys", "text"] 0 ["text", "keys"] gSwVV gSwV)
    (PKe : PrS P w K mg base Cs 1 "keyset" (spSm K Cs C skP) p2 h2_ fd2) (PRa : PrS P w K mg base Cs 1 "rate" (spSm K Cs C srP) p3 h3_ fd3) (PSa : PrS P w K mg base Cs 1 "salt" (spSm K Cs C stP') p4 h4_ fd4) (PTe : PrS P w K mg base Cs 2 "text" (spSm K Cs C smtP) p5 h5_ fd5)
    (Mat : MeK P w K mg base (L2.CX P w) Cs 8 "at" ["self", "rate"] (spAt K Cs C Cn Ch Ct) fa fda) (Wat : KBn K fda ["self", "rate"] 1 ["rate"] (fun us ws => us ++ ws) (fun vs zs => vs ++ zs)) (Meq : MeK P w K mg base CX0 Cs 3 "__eq__" ["self", "other"] (spEqS K Cs C) fq fdq)
    (C_law_by_hand_right : Cal P w K mg base 10 "_law_by_hand_right" [] (spD K hbP) fh fdh) (C_law_book : Cal P w K mg base 3 "_law_book" ["_law_urn", "_law_most_so"] (spU K bkP) fb fdb) (C_law_rows : Cal P w K mg base 4 "_law_rows" ["_law_urn", "_law_book_here", "_law_most_so"] (spU K rwP) fw fdw) (C_law_wide : Cal P w K mg base 2 "_law_wide" ["_law_book_here", "_law_bag"] (spD K wdP) fr fdr)
    (C_law_rate : Cal P w K mg base 3 "_law_rate" ["_law_urn"] (spU K raP) fR fdR) (C_law_heard : Cal P w K mg base 9 "_law_heard" ["_law_keyring", "_law_bag", "_law_rate_so", "_law_salt_so", "_law_flat"] (spHs K C) fH fdH) (C_law_same : Cal P w K mg base 4 "_law_same" ["_law_got", "_law_goal"] (spD K (smP 3)) fs fds)
    (C_law_take : Cal P w K mg base 1 "_law_take" ["_law_urn", "_law_low_so"] (spU K tkP) ft fdt) (C_law_lists : Cal P w K mg base 3 "_law_lists" ["_law_thing_so"] (spD K (liP 2)) fl fdl) (C_law_mixed : Cal P w K mg base 2 "_law_mixed" ["_law_urn", "_law_pool"] (spU K mxP) fm fdm) : FnOk P w K mg base CX0 11 f fd ["_law_urn"] (spU K rtP) := by
  refine F.ok scLRight (fun vs H Q E h => ?_) (fun cdv A outer s H vs Q E hr h => ?_)
  · obtain ⟨B, u, ws, ds, R, c, n, rfl, _, _, hw, _, _, ⟨rfl, _⟩, _⟩ := h
    exact congrArg (· + 1) (DpAll.len hw)
  · obtain ⟨B, u, ws, ds, R, c, n, rfl, b, bu, hw, un, few, ⟨rfl, rfl, rfl⟩, q⟩ := h
    cases hw
    refine ⟨_, (pss_cons (ps_if (pt_not (pt_val (pe_call0 C_law_by_hand_right.G (hr.mono (by decide)) (by rfl) C_law_by_hand_right.m C_law_by_hand_right.kp C_law_by_hand_right.b .nil pass0))) (pss_one (ps_ret pe_bl)) pss_nil) (pss_cons (ps_set (i := 1) scLRight.nd rfl (by first | exact .inl rfl | exact .inr rfl) (pe_call C_law_book.G (hr.mono (by decide)) (by rfl) C_law_book.m C_law_book.kp C_law_book.b .nil pass0 (pa_cons (pv 0) (pa_cons pe_int pa_nil)))) (pss_cons (ps_par (i := 2) (j := 3) rfl scLRight.nd rfl rfl (by decide) rfl rfl (pa_cons (pe_make MK.M MK.G (hr.mono (by decide)) (by rfl) MK.m MK.b .nil pass0 (pa_cons (pe_ix (xIx K) (pv 1) pe_int (fun _ _ => rfl)) (pa_cons (pe_ix (xIx K) (pv 1) pe_int (fun _ _ => rfl)) pa_nil))) (pa_cons (pe_op (xCatL K) (pe_call C_law_rows.G (hr.mono (by decide)) (by rfl) C_law_rows.m C_law_rows.kp C_law_rows.b .nil pass0 (pa_cons (pv 0) (pa_cons (pv 1) (pa_cons pe_int pa_nil)))) (pe_lst (pa_cons (pe_tup (pa_cons (pe_tup pa_nil) (pa_cons (pe_tup (pa_cons pe_int (pa_cons pe_int pa_nil))) (pa_cons pe_str pa_nil)))) pa_nil))) pa_nil)) (by rfl)) (pss_cons (ps_for PassesOwn.never rfl (xSeq K (pv 3)) (xTup K 3 rfl (pgs_cons (pg_name (i := 4) scLRight.nd rfl (by first | exact .inl rfl | exact .inr rfl)) (pgs_cons (pg_name (i := 5) scLRight.nd rfl (by first | exact .inl rfl | exact .inr rfl)) (pgs_cons (pg_name (i := 6) scLRight.nd rfl (by first | exact .inl rfl | exact .inr rfl)) pgs_nil)))) (pss_cons (ps_par (i := 7) (j := 8) rfl scLRight.nd rfl rfl (by decide) rfl rfl (pa_cons (pe_call C_law_wide.G (hr.mono (by decide)) (by rfl) C_law_wide.m C_law_wide.kp C_law_wide.b .nil pass0 (pa_cons (pv 1) (pa_cons (pv 4) pa_nil))) (pa_cons (pe_call C_law_rate.G (hr.mono (by decide)) (by rfl) C_law_rate.m C_law_rate.kp C_law_rate.b .nil pass0 (pa_cons (pv 0) pa_nil)) pa_nil)) (by rfl)) (pss_cons (ps_set (i := 9) scLRight.nd rfl (by first | exact .inl rfl | exact .inr rfl) (pe_makeK MS.M MS.G (hr.mono (by decide)) (by rfl) MS.m MS.b4 passL (pa_cons (pv 2) (pa_cons (pv 4) (pa_cons (pv 5) pa_nil))) (pk_cons (pv 6) pk_nil))) (pss_cons (ps_set (i := 10) scLRight.nd rfl (by first | exact .inl rfl | exact .inr rfl) (pe_op (xCatL K) (pe_lst (pa_cons (pe_ifExp (pt_cmpR (xNe K hr.units) (pv 7) (pe_tup pa_nil) (nomark _)) (xJoin K pe_str (pv 7)) pe_str) (pa_cons pe_str pa_nil))) (pe_op op_rep (pe_lst (pa_cons (pv 6) pa_nil)) (pe_callTy call_int1 (by rfl) Ti.int (by decide +kernel) (pa_cons (pe_cmpR (xNe K hr.units) (pv 6) pe_str (nomark _)) pa_nil))))) (pss_cons (ps_if (pt_cmpR op_gt (pe_ix (xIx K) (pv 5) pe_int (fun _ _ => rfl)) pe_int (nomark _)) (pss_one (ps_asg (pe_op op_add_str (pe_op op_add_str (pe_callTy call_str_int (by rfl) Ti.str (by decide +kernel) (pa_cons (pe_ix (xIx K) (pv 5) pe_int (fun _ _ => rfl)) pa_nil)) pe_str) (pe_callTy call_str_int (by rfl) Ti.str (by decide +kernel) (pa_cons (pe_ix (xIx K) (pv 5) pe_int (fun _ _ => rfl)) pa_nil))) (pg_sub (pv 10) pe_int set_list))) pss_nil) (pss_cons (ps_set (i := 11) scLRight.nd rfl (by first | exact .inl rfl | exact .inr rfl) (pe_lst (pa_cons (pe_propX S.cl PKe.po PKe.G (hr.mono (by decide)) PKe.b .nil pass0 (pv 9) rfl) (pa_cons (pe_propX S.cl PRa.po PRa.G (hr.mono (by decide)) PRa.b .nil pass0 (pv 9) rfl) (pa_cons (pe_propX S.cl PSa.po PSa.G (hr.mono (by decide)) PSa.b .nil pass0 (pv 9) rfl) (pa_cons (pe_propX S.cl PTe.po PTe.G (hr.mono (by decide)) PTe.b .nil pass0 (pv 9) rfl) (pa_cons (pe_propX S.cl PRa.po PRa.G (hr.mono (by decide)) PRa.b .nil pass0 (pe_methN (pv 9) S.cl Mat.m Mat.G (hr.mono (by decide)) Wat passL (pk_cons (pv 8) pk_nil)) rfl) (pa_cons (pe_propX S.cl PSa.po PSa.G (hr.mono (by decide)) PSa.b .nil pass0 (pe_meth (pv 9) S.cl Mat.m Mat.G (hr.mono (by decide)) Mat.b .nil passL (pa_cons (pv 8) pa_nil)) rfl) (pa_cons (pe_propX S.cl PKe.po PKe.G (hr.mono (by decide)) PKe.b .nil pass0 (pe_meth (pv 9) S.cl Mat.m Mat.G (hr.mono (by decide)) Mat.b .nil passL (pa_cons (pv 8) pa_nil)) rfl) pa_nil))))))))) (pss_cons (ps_if (pt_not (pt_val (pe_call C_law_same.G (hr.mono (by decide)) (by rfl) C_law_same.m C_law_same.kp C_law_same.b .nil pass0 (pa_cons (pv 11) (pa_cons (pe_lst (pa_cons (pv 7) (pa_cons (pv 5) (pa_cons (pv 6) (pa_cons (xJoin K pe_str (pv 10)) (pa_cons (pv 8) (pa_cons (pv 6) (pa_cons (pv 7) pa_nil)))))))) pa_nil))))) (pss_one (ps_ret pe_bl)) pss_nil) (pss_cons (ps_set (i := 12) scLRight.nd rfl (by first | exact .inl rfl | exact .inr rfl) (pe_op op_add_str (pe_op op_add_str (pe_op op_mul_str pe_str (pe_call C_law_take.G (hr.mono (by decide)) (by rfl) C_law_take.m C_law_take.kp C_law_take.b .nil pass0 (pa_cons (pv 0) (pa_cons pe_int pa_nil)))) (xJoin K (pe_op op_mul_str pe_str (pe_op op_add pe_int (pe_call C_law_take.G (hr.mono (by decide)) (by rfl) C_law_take.m C_law_take.kp C_law_take.b .nil pass0 (pa_cons (pv 0) (pa_cons pe_int pa_nil))))) (pv 10))) (pe_op op_mul_str pe_str (pe_call C_law_take.G (hr.mono (by decide)) (by rfl) C_law_take.m C_law_take.kp C_law_take.b .nil pass0 (pa_cons (pv 0) (pa_cons pe_int pa_nil)))))) (pss_cons (ps_set (i := 13) scLRight.nd rfl (by first | exact .inl rfl | exact .inr rfl) (pe_makeK0 MS.M MS.G (hr.mono (by decide)) (by rfl) MS.m MS.bN passL (pk_cons (pv 6) (pk_cons (pe_call C_law_lists.G (hr.mono (by decide)) (by rfl) C_law_lists.m C_law_lists.kp C_law_lists.b .nil pass0 (pa_cons (pv 5) pa_nil)) (pk_cons (pe_call C_law_lists.G (hr.mono (by decide)) (by rfl) C_law_lists.m C_law_lists.kp C_law_lists.b .nil pass0 (pa_cons (pe_call C_law_mixed.G (hr.mono (by decide)) (by rfl) C_law_mixed.m C_law_mixed.kp C_law_mixed.b .nil pass0 (pa_cons (pv 0) (pa_cons (pv 7) pa_nil))) pa_nil)) (pk_cons (pv 2) pk_nil)))))) (pss_cons (ps_if (PW.pt (pw_or (pt_cmpR (op_neO Meq.m Meq.G (hr.mono (by decide)) Meq.b pass0 Tks_.ne Tks_.hm) (pe_smethN (pe_glob (v := V.ref Cs) (by rfl) MS.m (by rfl)) OS.r OS.s OS.G (hr.mono (by decide)) Wof passL (pk_cons (pv 12) (pk_cons (pv 2) pk_nil))) (pv 9) (nomark _)) (pw_or (pt_cmpR (op_neO Meq.m Meq.G (hr.mono (by decide)) Meq.b pass0 Tks_.ne Tks_.hm) (pv 13) (pv 9) (nomark _)) (pw_or1 (pt_cmpR (xNe K hr.units) (pe_cmpR (op_eqO Meq.m Meq.G (hr.mono (by decide)) Meq.b pass0) (pe_meth (pv 9) S.cl Mat.m Mat.G (hr.mono (by decide)) Mat.b .nil passL (pa_cons (pv 8) pa_nil)) (pv 9) (nomark _)) (pe_cmpR (xEq K hr.units) (pv 8) (pv 5) (nomark _)) (nomark _)))))) (pss_one (ps_ret pe_bl)) pss_nil) (pss_cons (ps_set (i := 14) scLRight.nd rfl (by first | exact .inl rfl | exact .inr rfl) (pe_makeK MS.M MS.G (hr.mono (by decide)) (by rfl) MS.m MS.b4 passL (pa_cons (pe_make MK.M MK.G (hr.mono (by decide)) (by rfl) MK.m MK.b1 MK.v1 pass0 (pa_cons (pe_tup (pa_cons pe_str pa_nil)) pa_nil)) (pa_cons (pe_tup pa_nil) (pa_cons (pv 5) pa_nil))) (pk_cons (pv 6) pk_nil))) (pss_cons (ps_if (PW.pt (pw_or (pt_cmpR (op_eqO Meq.m Meq.G (hr.mono (by decide)) Meq.b pass0) (pv 9) (pv 14) (nomark _)) (pw_or (pt_cmpR (op_eqO Meq.m Meq.G (hr.mono (by decide)) Meq.b pass0) (pv 9) (pv 7) (nomark _)) (pw_or1 (pt_cmpR (op_eqO Meq.m Meq.G (hr.mono (by decide)) Meq.b pass0) (pv 9) (pe_makeK MS.M MS.G (hr.mono (by decide)) (by rfl) MS.m MS.b4 passL (pa_cons (pv 2) (pa_cons (pv 4) (pa_cons (pv 5) pa_nil))) (pk_cons pe_str pk_nil)) (nomark _)))))) (pss_one (ps_ret pe_bl)) pss_nil) (pss_one (ps_if (pt_not (pt_val (pe_call C_law_same.G (hr.mono (by decide)) (by rfl) C_law_same.m C_law_same.kp C_law_same.b .nil pass0 (pa_cons (pe_call C_law_heard.G (hr.mono (by decide)) (by rfl) C_law_heard.m C_law_heard.kp C_law_heard.b .nil pass0 (pa_cons (pv 2) (pa_cons (pe_op (xCatT K) (pe_callTy (xTuple K) (by rfl) T.tuple (by decide +kernel) (pa_cons (pv 4) pa_nil)) (pe_tup (pa_cons pe_str pa_nil))) (pa_cons (pe_tup (pa_cons pe_int (pa_cons pe_int pa_nil))) (pa_cons pe_str (pa_cons pe_non pa_nil)))))) (pa_cons (pe_lst (pa_cons pe_str (pa_cons pe_str pa_nil))) pa_nil))))) (pss_one (ps_ret pe_bl)) pss_nil)))))))))))))) (pss_one (ps_ret pe_bl)))))), ?_⟩
    have a0 : At (ZE.del H u) B H B H := At.start b del_le
    have few1 : n + 700 ≤ 100000 := few
    refine g_if1 (c := false) (et_is (et_not (et_ofB (ed_call0 (ds := []) ea_nilD (sp_d ⟨rfl, rfl⟩)))) rfl) a0.b (fun z => nomatch z) fun _ H2 e2 => ?_
    have a2 := a0.grow e2
    have un2 := un.up e2
    -- the book
    refine l_asg (u_call (R := fun d => ∃ xs ps, Bk 4 xs ps ∧ d = bkD xs ps) rfl (ea_consD (ed_int 4) ea_nilD) ⟨4, rfl, by decide, by decide, rfl, rfl⟩ a2.b bu un2 (by omega) fun d v1 H3 hr3 e3 h1 un3 => ?_)
    obtain ⟨xs, ts, hbk, rfl⟩ := hr3
    obtain ⟨hcan, hbook, bo⟩ := can_book hbk
    have kok : KyOk xs (pairsOf xs ts) := ⟨bo.ok, bo.few, pairs_prs bo.ok bo.few⟩
    have fzp := fz_prs ts bo.lp
    have a3 := a2.urn del_at bu e3 un3.some
    have b3u : sub H3 H2 B u = none := urn_out un2 bu
    generalize sub H3 H2 B = B3 at a3 b3u h1
    -- its Keys, rows
    refine l_par2 (e_make (ns := xs) (ts := ts) (ea_consD (ed_op (ed_var rfl h1) (ed_int 0) (rv_ix (ds := [tp xs, .tuple (ts.map pr)]) (d := tp xs) (.inr rfl) rfl)) (ea_consD (ed_op (ed_var rfl h1) (ed_int 1) (rv_ix (ds := [tp xs, .tuple (ts.map pr)]) (d := .tuple (ts.map pr)) (.inr rfl) rfl)) ea_nilD)) a3.b (.inr rfl) bo.ok (by have := bo.few; omega) (by rw [hcan]; exact bo.few) fzp.1 fzp.2 (by rw [hcan]; exact hbook) fun p H4 e4 ky => ?_)
    rw [hcan] at ky
    have a4 := a3.next e4
    have u4 := le_sub a3.b e4
    have un4 := un3.up e4
    have b4u : sub H4 H3 B3 u = none := urn_out un3 b3u
    have h1 := dp_up h1 u4
    generalize sub H4 H3 B3 = B4 at a4 u4 b4u h1 ky
    refine (eu_op (Ra := fun d => ∃ rows : List (List Str × (Nat × Nat) × Str), (∀ r ∈ rows, RowK xs r) ∧ rows.length ≤ 9 ∧ d = .list (rows.map rowD)) (c1 := 100) (c2 := 0) (Rd := fun d => ∃ rows : List (List Str × (Nat × Nat) × Str), (∀ r ∈ rows, RowK xs r) ∧ rows.length ≤ 10 ∧ d = .list (rows.map rowD)) b4u (eu_call b4u rfl (ea_consD (ed_var rfl h1) (ea_consD (ed_int 9) ea_nilD)) ⟨xs, ts, rfl, bo.few, rfl, rfl⟩) (fun B' _ _ => eu_of (ed_lst (ds := [rowD ([], (1, 2), "")]) (ea_consD (ed_tup (ds := [tp [], shD (1, 2), .str ""]) (ea_consD (ed_tup ea_nilD (by decide)) (ea_consD (ed_tup (ds := [.int 1, .int 2]) (ea_consD (ed_int 1) (ea_consD (ed_int 2) ea_nilD)) (by show 2 ≤ 100000; decide)) (ea_consD (ed_str "") ea_nilD))) (by show 3 ≤ 100000; decide)) ea_nilD) (by show 1 ≤ 100000; decide))) (fun d1 d2 hd1 hd2 => ?_)) H4 _ a4.b un4 (by omega) _ fun d v3 H5 m5 hr5 e5 h3 un5 lm5 => ?_
    · obtain ⟨rows, hrw, lr, rfl⟩ := hd1
      subst hd2
      refine ⟨.list ((rows ++ ([([], (1, 2), "")] : List (List Str × (Nat × Nat) × Str))).map rowD), ⟨_, fun r mr => ?_, by rw [List.length_append]; show _ + 1 ≤ 10; omega, rfl⟩, ?_⟩
      · rcases List.mem_append.mp mr with mr | mr
        · exact hrw r mr
        · rw [List.mem_singleton.mp mr]
          exact d_r0
      · rw [List.map_append]
        exact rv_catL (by rw [List.length_map]; show _ + 1 ≤ 100000; omega)
    obtain ⟨rows, hrw, lr, rfl⟩ := hr5
    refine ⟨_, _, rfl, ?_⟩
    have a5 := a4.urn del_at b4u e5 un5.some
    have u5 := urn_base a4.b b4u e5
    have b5u : sub H5 H4 B4 u = none := urn_out un4 b4u
    have h1 := dp_up h1 u5
    have ky := ky.up u5
    generalize sub H5 H4 B4 = B5 at a5 u5 b5u h1 h3 ky
    have l5 : m5 ≤ n + 309 := by omega
    have bb := a5.wk.bb
    -- each row
    refine for_sq (fun B6 j σ' H' => (∃ o4 o5 o6 o7 o8 o9 o10 o11 o12 o13 o14, σ' = [some (.ref u), some v1, some (.ref p), some v3, o4, o5, o6, o7, o8, o9, o10, o11, o12, o13, o14]) ∧ At (ZE.del H u) B H B6 H' ∧ Ex B5 B6 ∧ B6 u = none ∧ ∃ m, Urn H' u m ∧ m ≤ n + 309 + j * 20) (ed_var rfl h3) (.inl rfl) a5.b (fun H6 e6 => ⟨⟨_, _, _, _, _, _, _, _, _, _, _, rfl⟩, a5.next e6, le_sub a5.b e6, urn_out un5 b5u, m5, un5.up e6, by omega⟩) (fun _ _ _ _ p => p.2.1.b) (fun B6 j d x σ6 H6 hj hx ⟨⟨o4, o5, o6, o7, o8, o9, o10, o11, o12, o13, o14, hσ⟩, a6, u6, b6u, m6, un6, lm6⟩ => ?_) (fun B6 σ6 H6 ⟨⟨o4, o5, o6, o7, o8, o9, o10, o11, o12, o13, o14, hσ⟩, a6, u6, b6u, m6, un6, lm6⟩ => ?_)
    · subst hσ
      rw [List.getElem?_map] at hj
      obtain ⟨⟨bag, rt, salt⟩, hj1, rfl⟩ := Option.map_eq_some_iff.mp hj
      have hrk := hrw _ (List.mem_of_getElem? hj1)
      have jl : j < rows.length := (List.getElem?_eq_some_iff.mp hj1).1
      have mrt : rt ∈ rates := hrk.rate
      have msl : salt ∈ salts := hrk.salt
      obtain ⟨W, M⟩ : ∃ W, RowM xs ts bag W := ⟨_, row_ok hbk hrk.bag⟩
      have hR := rate_ok rt mrt
      have hS := salt_ok salt msl
      have hN := rate_num rt mrt
      have tsl : Tok' salt := ⟨hS.2.1, by have := hS.2.2.1; omega⟩
      have gOwn : SmG ⟨xs, pairsOf xs ts, W, rt.1, rt.2, salt⟩ := ⟨kok, ⟨.inr rfl, M.okW, by show W.length ≤ 60; have := M.lW; omega⟩, tsl, M.outW, M.clo, hS.1⟩
      clear h3 hj hrk
      have h1 := dp_up h1 u6
      have ky := ky.up u6
      have hx' : Dp K B6 x (.tuple [tp bag, shD rt, .str salt]) := hx
      cases hx' with
      | tup hs ha =>
      cases ha with
      | cons h4 t =>
      obtain ⟨v5, v6, rfl, h5, h6⟩ := two t
      obtain rfl := p_str h6
      rename_i x0 xs0 v4
      refine ⟨_, _, rfl, ex_t a6.b hs, rfl, _, _, rfl, _, _, rfl, _, _, rfl, rfl, ?_⟩
      clear hs hx t
      -- wide, far
      have wide : EvD K (tCall (spD K wdP) [] E0 (tCons (tVar 1) (tCons (tVar 4) tNil))) [some (V.ref u), some v1, some (.ref p), some v3, some v4, some v5, some (.str salt), o7, o8, o9, o10, o11, o12, o13, o14] B6 (tp W) := ed_call0 (ea_consD (ed_var rfl h1) (ea_consD (ed_var rfl h4) ea_nilD)) (sp_d ⟨tp bag, xs, ts, bag, rfl, .inr rfl, bo, M.ob, by have := M.lb; omega, M.inx, by rw [M.wide]⟩)
      refine l_par2 (wide H6 a6.b _ fun v7 H7 e7 h7 => ?_)
      clear wide
      have a7 := a6.next e7
      have u7 := le_sub a6.b e7
      have un7 := un6.up e7
      have b7u : sub H7 H6 B6 u = none := urn_out un6 b6u
      have h1 := dp_up h1 u7
      have h4 := dp_up h4 u7
      have h5 := dp_up h5 u7
      have ky := ky.up u7
      generalize sub H7 H6 B6 = B7 at a7 u7 b7u h1 h4 h5 h7 ky
      refine u_call (R := fun d => ∃ r ∈ rates, d = shD r) rfl ea_nilD ⟨rfl, rfl, rfl⟩ a7.b b7u un7 (by omega) fun d v8 H8 hr8 e8 h8 un8 => ?_
      obtain ⟨far, mfar, rfl⟩ := hr8
      have hF := rate_ok far mfar
      refine ⟨_, _, rfl, ?_⟩
      have a8 := a7.urn del_at b7u e8 un8.some
      have u8 := urn_base a7.b b7u e8
      have b8u : sub H8 H7 B7 u = none := urn_out un7 b7u
      have h1 := dp_up h1 u8
      have h4 := dp_up h4 u8
      have h5 := dp_up h5 u8
      have h7 := dp_up h7 u8
      have ky := ky.up u8
      generalize sub H8 H7 B7 = B8 at a8 u8 b8u h1 h4 h5 h7 h8 ky
      -- own
      refine l_asg ((es_is (m' := ⟨xs, pairsOf xs ts, W, rt.1, rt.2, salt⟩) (es_mk (n := rt.1) (e := rt.2) (ns := bag) (salt := salt) (ek_var rfl ky) kok (ed_var rfl h4) ⟨.inr rfl, M.ob, by have := M.lb; omega⟩ (ed_var rfl h5) (.inr rfl) M.out hR.2.1 hS.1 (ed_var rfl (.str salt)) tsl) (congrArg (fun z => (⟨xs, pairsOf xs ts, z, rt.1, rt.2, salt⟩ : SmP)) M.hW)) H8 a8.b _ fun po ao H9 e9 sm => ?_)
      have a9 := a8.next e9
      have u9 := le_sub a8.b e9
      have un9 := un8.up e9
      have b9u : sub H9 H8 B8 u = none := urn_out un8 b8u
      have h1 := dp_up h1 u9
      have h4 := dp_up h4 u9
      have h5 := dp_up h5 u9
      have h7 := dp_up h7 u9
      have h8 := dp_up h8 u9
      have ky := ky.up u9
      generalize sub H9 H8 B8 = B9 at a9 u9 b9u h1 h4 h5 h7 h8 ky sm
      -- words
      have lW := M.lW
      have jnW : (W.map (·.length)).sum + W.length * ("+" : Str).length ≤ 16777216 := by
        have z := sum_le 8 M.l8
        have e : ("+" : Str).length = 1 := rfl
        rw [e]
        omega
      have flatE : ∀ {σ : L2.St} {B' : Hp}, σ[7]? = some (some v7) → Ex B9 B' → EvD K (tIf (tTest (tOp (rNeD K) (tVar 7) (tTup tNil))) (tM1 (rJoin K) (tC (.str "+")) (tVar 7)) (tC (.str "-"))) σ B' (.str (flatF W)) := fun hi e => ed_if (b := !decide (W = [])) (et_of (ed_is (ed_op (ed_var hi (dp_up h7 e)) (ed_tup ea_nilD (by decide)) (rv_ne (tp_shaped M.okW) (tp_shaped (xs := []) Oks.nil))) (congrArg (fun z => PyData.bool (!z)) (eq_tp M.okW Oks.nil))))
        (fun hc => ed_is (ed_join (a := "+") (ys := W) (ed_var hi (dp_up h7 e)) (.inr rfl) jnW) (by unfold flatF; rw [if_neg fun z => by rw [z] at hc; cases hc]))
        fun hc => ed_is (ed_str "-") (by unfold flatF; rw [if_pos (Classical.byContradiction fun z => by rw [decide_eq_false z] at hc; cases hc)])
      have sE : ∀ {σ : L2.St} {B' : Hp}, σ[6]? = some (some (V.str salt)) → EvD K (tVar 6) σ B' (.str salt) := fun hi => ed_var hi (.str salt)
      have o0 : PyData.strOk Str.empty = true := by decide +kernel
      have repE : ∀ {σ : L2.St} {B' : Hp}, σ[6]? = some (some (V.str salt)) → EvD K (tCB (fun xs H Q => (∃ i, xs = [V.int i] ∧ Q (V.int i) H) ∨ ∃ k, xs = [V.bl k] ∧ Q (V.int (if k then 1 else 0)) H) (tCons (tOp (rNeD K) (tVar 6) (tC (.str ""))) tNil)) σ B' (.int ((if salt = Str.empty then 0 else 1 : Nat) : Int)) := fun hi => ed_is (ed_cb (ea_consD (d := .bool (!decide (salt = Str.empty))) (ed_is (ed_op (sE hi) (ed_str _) (rv_ne (str_shaped tsl.1) (str_shaped o0))) (congrArg (fun z => PyData.bool (!z)) (eq_str tsl.1 o0))) ea_nilD) rc_intB) (by split <;> rename_i h1 <;> split <;> rename_i h2 <;> simp_all)
      have eW0 : [PyData.str (flatF W), .str "1"] ++ (List.replicate (if salt = Str.empty then 0 else 1) [PyData.str salt]).flatten = [.str (flatF W), .str "1"] ++ (if salt = Str.empty then [] else [salt]).map PyData.str := by split <;> rfl
      refine g_asgO (ds := [.str (flatF W), .str "1"] ++ (if salt = Str.empty then [] else [salt]).map PyData.str) (el_is (el_cat (ed_lst (ea_consD (flatE rfl (Ex.refl _)) (ea_consD (ed_str "1") ea_nilD)) (by show 2 ≤ 100000; decide)) (ed_repD (k := if salt = Str.empty then 0 else 1) (ea_consD (sE rfl) ea_nilD) (repE rfl) (by split <;> decide) (by show 1 ≤ 100; decide)) (by split <;> simp)) eW0) a9 fun lw H10 B10 e10 n10 u10 a10 mw => ?_
      have fw : (ZE.del H u) lw = none := by
        cases z : (ZE.del H u) lw with
        | none => rfl
        | some o => rw [a9.ex lw o z] at n10; cases n10
      have un10 := un9.up e10
      have nlu : lw ≠ u := fun z => by have := un9.some; rw [← z, n10] at this; cases this
      have b10u : B10 u = none := a10.wk.ap u bu un.some
      have h1 := dp_up h1 u10
      have h4 := dp_up h4 u10
      have h5 := dp_up h5 u10
      have h7 := dp_up h7 u10
      have h8 := dp_up h8 u10
      have ky := ky.up u10
      have sm := sm.up u10
      -- the rate's own word
      refine g_ifJ (b0 := decide ((1 : Int) < (rt.2 : Int))) (fun H' => ∃ B', Ex B10 B' ∧ At (ZE.del H u) B H B' H' ∧ Mu K B' H' lw (wdsD W rt salt) ∧ Urn H' u (m6 + 1) ∧ B' u = none) (et_is (et_of (ed_op (ed_op (ed_var rfl h5) (ed_int 1) (rv_ix (ds := [.int (rt.1 : Int), .int (rt.2 : Int)]) (d := .int (rt.2 : Int)) (.inr rfl) rfl)) (ed_int 1) (rv_int fun _ => .bl _))) (by rfl)) a10.b ?_ (fun hc H11 e11 D' hD => ?_) (fun hc H11 e11 => ?_)
      rotate_left
      · have hc := of_decide_eq_true hc
        have a11 := a10.next e11
        have u11 := le_sub a10.b e11
        have mw := mw.next a10.b e11
        have un11 := un10.up e11
        have b11u : sub H11 H10 B10 u = none := urn_out un10 b10u
        have h5 := dp_up h5 u11
        generalize sub H11 H10 B10 = B11 at a11 u11 mw b11u h5
        have ix : ∀ {σ : L2.St} {k : Int} {z : Nat}, σ[5]? = some (some v5) → atI [PyData.int (rt.1 : Int), .int (rt.2 : Int)] k = some (.int (z : Int)) → EvD K (tOp (rIx K) (tVar 5) (tC (.int k))) σ B11 (.int (z : Int)) := fun hi hz => ed_op (ed_var hi h5) (ed_int _) (rv_ix (ds := [.int (rt.1 : Int), .int (rt.2 : Int)]) (.inr rfl) hz)
        have le : ("/" : Str).length = 1 := rfl
        have ln := hN.2.2.1
        refine g_setMu (d := .str (numT rt.1 ++ ("/" : Str) ++ numT rt.2)) (j := 1) (k := 1) (ed_op (ed_op (ed_cb (ea_consD (ix (k := 0) rfl rfl) ea_nilD) (rc_strI hN.1)) (ed_str "/") (rv_app (by rw [le]; omega))) (ed_cb (ea_consD (ix (k := 1) rfl rfl) ea_nilD) (rc_strI hN.2.1)) (rv_app (by rw [app_tlen, le]; omega))) rfl (ed_int 1) mw a11.b (by rw [List.length_append]; show ixN (2 + _) ((1 : Nat) : Int) = some 1; exact Evl.ixN_nat (Nat.lt_of_lt_of_le (by decide : 1 < 2) (Nat.le_add_right _ _))) fun H12 ws e12 m12 => hD _ ⟨_, u11.trans (le_sub a11.b e12), (a11.next e12).mut m12.nb fw (isSome_up e12 mw.isS), ?_, ?_, urn_out un11 b11u⟩
        · have e : ([PyData.str (flatF W), .str "1"] ++ (if salt = Str.empty then [] else [salt]).map PyData.str).set 1 (.str (numT rt.1 ++ ("/" : Str) ++ numT rt.2)) = wdsD W rt salt := by
            rw [hN.2.2.2.1 hc]
            unfold wdsD wdsF
            rw [List.map_append]
            rfl
          rw [e] at m12
          exact m12
        · exact (un11.up e12).move (upd_ne fun z => nlu z.symm)
      · have hc := of_decide_eq_false hc
        refine ⟨_, le_sub a10.b e11, a10.next e11, ?_, un10.up e11, urn_out un10 b10u⟩
        have e : ([PyData.str (flatF W), .str "1"] ++ (if salt = Str.empty then [] else [salt]).map PyData.str) = wdsD W rt salt := by
          rw [hN.2.2.2.2 hc]
          unfold wdsD wdsF
          rw [List.map_append]
          rfl
        rw [← e]
        exact mw.next a10.b e11
      rintro H13 ⟨B13', u13', a13', mw, un13, b13u'⟩
      have nH : H lw = none := by
        have z := fw
        rw [ZE.del_ne nlu] at z
        exact z
      obtain ⟨B13, u13, a13, hwd, k13⟩ := mw.hold a13' nH
      have b13u : B13 u = none := by rw [k13 u fun z => nlu z.symm]; exact b13u'
      have u13 := u13'.trans u13
      have h1 := dp_up h1 u13
      have h4 := dp_up h4 u13
      have h5 := dp_up h5 u13
      have h7 := dp_up h7 u13
      have h8 := dp_up h8 u13
      have ky := ky.up u13
      have sm := sm.up u13
      clear a13' mw u13' b13u' k13
      -- got
      have one : ∀ {σ : L2.St} {B' : Hp}, σ[9]? = some (some (V.ref po)) → Ex B13 B' → EvS K Cs C (tVar 9) σ B' ⟨xs, pairsOf xs ts, W, rt.1, rt.2, salt⟩ := fun hi e => es_var hi (sm.up e)
      have sumW : (W.map (·.length)).sum ≤ 1000 := Nat.le_trans (sum_le 8 M.l8) (by omega)
      have jlW : (Txt.join "+" W).length ≤ 1000 := by have := (join_tok M.okW (by omega) M.l8).2; omega
      have txW : smtP W rt.1 rt.2 salt [] (.str (smT W rt.1 rt.2 salt)) := ⟨rt.1, rt.2, rfl, rfl, hN.1, hN.2.1, rfl, sumW, by omega, jlW, tsl, rfl⟩
      have eG : [tp W, rtD rt.1 rt.2, .str salt, .str (smT W rt.1 rt.2 salt), rtD far.1 far.2, .str salt, tp W] = [tp W, shD rt, .str salt, .str (Txt.join " " (wdsF W rt salt)), shD far, .str salt, tp W] := by rw [smT_wds M]; rfl
      refine g_asg (K := K) (d := .list [tp W, rtD rt.1 rt.2, .str salt, .str (smT W rt.1 rt.2 salt), rtD far.1 far.2, .str salt, tp W]) (ed_lst (ea_consD (es_prop (one rfl (Ex.refl _)) ⟨rfl, rfl⟩) (ea_consD (es_prop (one rfl (Ex.refl _)) ⟨rfl, rfl⟩) (ea_consD (es_prop (one rfl (Ex.refl _)) ⟨rfl, rfl⟩) (ea_consD (es_prop (one rfl (Ex.refl _)) txW) (ea_consD (es_prop (es_atN (n' := far.1) (e' := far.2) (one rfl (Ex.refl _)) gOwn (ed_var rfl h8) (.inr rfl) hF.2.1) ⟨rfl, rfl⟩) (ea_consD (es_prop (es_at (n' := far.1) (e' := far.2) (one rfl (Ex.refl _)) gOwn (ed_var rfl h8) (.inr rfl) hF.2.1) ⟨rfl, rfl⟩) (ea_consD (es_prop (es_at (n' := far.1) (e' := far.2) (one rfl (Ex.refl _)) gOwn (ed_var rfl h8) (.inr rfl) hF.2.1) ⟨rfl, rfl⟩) ea_nilD))))))) (by show 7 ≤ 100000; decide)) a13.b fun v11 H14 e14 h11 => ?_
      have a14 := a13.next e14
      have u14 := le_sub a13.b e14
      have un14 := un13.up e14
      have b14u : sub H14 H13 B13 u = none := urn_out un13 b13u
      have h1 := dp_up h1 u14
      have h4 := dp_up h4 u14
      have h5 := dp_up h5 u14
      have h7 := dp_up h7 u14
      have h8 := dp_up h8 u14
      have hwd := dp_up hwd u14
      have ky := ky.up u14
      have sm := sm.up u14
      generalize sub H14 H13 B13 = B14 at a14 u14 b14u h1 h4 h5 h7 h8 hwd h11 ky sm
      have u14' := u14
      have wdl := wds_ok M mrt msl
      have lwd : (wdsF W rt salt).length ≤ 3 := by unfold wdsF; split <;> simp
      have jnw : ∀ {g : Nat}, g ≤ 4 → ((wdsF W rt salt).map (·.length)).sum + (wdsF W rt salt).length * (spc g).length ≤ 16777216 := fun {g} hg => by
        have z := sum_le 54 fun y m => (wdl y m).len
        rw [spc_len hg]
        have : (wdsF W rt salt).length * g ≤ 3 * 4 := Nat.mul_le_mul lwd hg
        omega
      refine g_if1 (c := false) (et_is (et_not (et_ofB (ed_call0 (ea_consD (ed_var rfl h11) (ea_consD (ed_is (d := .list [tp W, shD rt, .str salt, .str (Txt.join " " (wdsF W rt salt)), shD far, .str salt, tp W]) (d1 := .list [tp W, rtD rt.1 rt.2, .str salt, .str (smT W rt.1 rt.2 salt), rtD far.1 far.2, .str salt, tp W]) (ed_lst (ea_consD (ed_var rfl h7) (ea_consD (ed_var rfl h5) (ea_consD (sE rfl) (ea_consD (ed_join (a := " ") (ys := wdsF W rt salt) (ed_var rfl hwd) (.inl rfl) (by rw [← sp1]; exact jnw (by decide))) (ea_consD (ed_var rfl h8) (ea_consD (sE rfl) (ea_consD (ed_var rfl h7) ea_nilD))))))) (by show 7 ≤ 100000; decide)) (congrArg PyData.list eG.symm)) ea_nilD)) (sp_d ⟨_, rfl, sm_list (by show 7 ≤ 20; decide) fun d md => ?_, rfl⟩)))) rfl) a14.b (fun z => nomatch z) fun _ H15 e15 => ?_
      · have s1 : smOk 2 (tp W) = true := sm_tp M.okW (by omega)
        have s2 : smOk 2 (.str salt) = true := tsl.1
        have s3 : smOk 2 (.str (smT W rt.1 rt.2 salt)) = true := by
          have ft := flat_row M mrt msl (a := 0) (g := 1) (c := 0) (by decide) (by decide) (by decide) (by decide)
          have e0 : spc 0 = Str.empty := by decide +kernel
          rw [sp1, e0, smT_wds M] at ft
          have e1 : Str.empty ++ smT W rt.1 rt.2 salt ++ Str.empty = smT W rt.1 rt.2 salt := ext_tl (by rw [tl_append, tl_append]; show [] ++ _ ++ [] = _; rw [List.nil_append, List.append_nil])
          rw [e1] at ft
          exact ft.1.1
        rcases List.mem_cons.mp md with rfl | md
        · exact s1
        rcases List.mem_cons.mp md with rfl | md
        · rfl
        rcases List.mem_cons.mp md with rfl | md
        · exact s2
        rcases List.mem_cons.mp md with rfl | md
        · exact s3
        rcases List.mem_cons.mp md with rfl | md
        · rfl
        rcases List.mem_cons.mp md with rfl | md
        · exact s2
        rw [List.mem_singleton.mp md]
        exact s1
      clear h11
      have a15 := a14.next e15
      have u15 := le_sub a14.b e15
      have un15 := un14.up e15
      have b15u : sub H15 H14 B14 u = none := urn_out un14 b14u
      have h1 := dp_up h1 u15
      have h4 := dp_up h4 u15
      have h5 := dp_up h5 u15
      have h7 := dp_up h7 u15
      have h8 := dp_up h8 u15
      have hwd := dp_up hwd u15
      have ky := ky.up u15
      have sm := sm.up u15
      generalize sub H15 H14 B14 = B15 at a15 u15 b15u h1 h4 h5 h7 h8 hwd ky sm
      -- flat
      have tk : ∀ {σ : L2.St} {B' : Hp} {low : Nat}, B' u = none → σ[0]? = some (some (V.ref u)) → 1 ≤ low → low ≤ 1000 → EvU K (tCall (spU K tkP) [] E0 (tCons (tVar 0) (tCons (tC (.int (low : Int))) tNil))) σ B' u (takeR low) 1 := fun bz hi l1 l2 => eu_take bz hi l1 l2
      have spE : ∀ {σ : L2.St} {B' : Hp} {low : Nat}, B' u = none → σ[0]? = some (some (V.ref u)) → 1 ≤ low → low ≤ 3 → EvU K (tOp rMulS (tC (.str " ")) (tCall (spU K tkP) [] E0 (tCons (tVar 0) (tCons (tC (.int (low : Int))) tNil)))) σ B' u (fun d => ∃ k : Nat, k < low ∧ d = .str (spc k)) (0 + 1) := fun {σ B' low} bz hi l1 l2 => eu_op bz (eu_of (ed_str " ")) (fun B2 _ b2 => tk (low := low) b2 hi l1 (by omega)) fun d1 d2 g1 ⟨k, g2, lk⟩ => by
        subst g1 g2
        exact ⟨_, ⟨k, lk, rfl⟩, rv_mulS (by omega) (by decide)⟩
      have l1 : (" " : Str).length = 1 := rfl
      refine l_asg ((eu_op (c1 := 2) (c2 := 1) (r := fun a b H Q => ∃ i j : Str, a = .str i ∧ b = .str j ∧ i.length + j.length ≤ sizeLine ∧ Q (.str (i ++ j)) H) (Ra := fun d => ∃ i g : Nat, i ≤ 2 ∧ 1 ≤ g ∧ g ≤ 3 ∧ d = .str (spc i ++ Txt.join (spc g) (wdsF W rt salt))) (Rd := fun d => ∃ i g c : Nat, i ≤ 2 ∧ 1 ≤ g ∧ g ≤ 3 ∧ c ≤ 1 ∧ d = .str (spc i ++ Txt.join (spc g) (wdsF W rt salt) ++ spc c)) b15u
        (eu_op (c1 := 1) (c2 := 1) (Rd := fun d => ∃ i g : Nat, i ≤ 2 ∧ 1 ≤ g ∧ g ≤ 3 ∧ d = .str (spc i ++ Txt.join (spc g) (wdsF W rt salt))) (Rc := fun d => ∃ g : Nat, 1 ≤ g ∧ g ≤ 3 ∧ d = .str (Txt.join (spc g) (wdsF W rt salt))) b15u (eu_is (spE (low := 3) b15u rfl (by decide) (by decide)) (fun _ h => h) (by decide))
          (fun B2 x2 b2 => eu_join (c := 1) (R := fun d => ∃ g : Nat, 1 ≤ g ∧ g ≤ 3 ∧ d = .str (spc g)) b2 (eu_is (eu_op (c1 := 0) (c2 := 0 + 1) (Rd := fun d => ∃ g : Nat, 1 ≤ g ∧ g ≤ 3 ∧ d = .str (spc g)) (Rc := fun d => ∃ g : Nat, 1 ≤ g ∧ g ≤ 3 ∧ d = .int (g : Int)) b2 (eu_of (ed_str " ")) (fun B3 x3 b3 => eu_op b3 (eu_of (ed_int 1)) (fun B4 x4 b4 => tk (low := 3) b4 rfl (by decide) (by decide)) fun d1 d2 g1 ⟨k, g2, lk⟩ => by
            subst g1 g2
            exact ⟨.int ((k + 1 : Nat) : Int), ⟨k + 1, by omega, by omega, rfl⟩, by rw [show ((k + 1 : Nat) : Int) = 1 + (k : Int) by omega]; exact rv_int fun _ => .int _⟩) fun d1 d2 g1 ⟨k, k1, k2, g2⟩ => by
            subst g1 g2
            exact ⟨_, ⟨k, k1, k2, rfl⟩, rv_mulS (by omega) (by decide)⟩) (fun _ h => h) (by decide)) (ed_var rfl (dp_up hwd x2)) fun d ⟨g, g1, g2, hd⟩ => ⟨_, hd, jnw (by omega), g, g1, g2, rfl⟩)
          fun d1 d2 ⟨k, lk, g1⟩ ⟨g, gg1, gg2, g2⟩ => by
            subst g1 g2
            have z := (flat_row M mrt msl (a := k) (g := g) (c := 0) (by omega) gg1 gg2 (by decide)).2.1
            rw [app_tlen, app_tlen] at z
            exact ⟨_, ⟨k, g, by omega, gg1, gg2, rfl⟩, rv_app (by omega)⟩)
        (fun B2 x2 b2 => eu_is (spE (low := 2) b2 rfl (by decide) (by decide)) (fun _ h => h) (by decide))
        fun d1 d2 ⟨i, g, i1, gg1, gg2, g1⟩ ⟨k, lk, g2⟩ => by
          subst g1 g2
          have z := (flat_row M mrt msl (a := i) (g := g) (c := k) i1 gg1 gg2 (by omega)).2.1
          rw [app_tlen] at z
          exact ⟨_, ⟨i, g, k, i1, gg1, gg2, by omega, rfl⟩, rv_app (by omega)⟩) H15 _ a15.b un15 (by omega) _ fun d v12 H16 m16 hr16 e16 h12 un16 lm16 => ?_)
      obtain ⟨fa_, fg_, fc_, fa1, fg1, fg2, fc1, rfl⟩ := hr16
      obtain ⟨tkf, lf, l59, hsp⟩ := flat_row M mrt msl (a := fa_) (g := fg_) (c := fc_) fa1 fg1 fg2 fc1
      generalize spc fa_ ++ Txt.join (spc fg_) (wdsF W rt salt) ++ spc fc_ = flat at h12 tkf lf l59 hsp
      obtain rfl := p_str h12
      clear h12
      have a16 := a15.urn del_at b15u e16 un16.some
      have u16 := urn_base a15.b b15u e16
      have b16u : sub H16 H15 B15 u = none := urn_out un15 b15u
      have h1 := dp_up h1 u16
      have h4 := dp_up h4 u16
      have h5 := dp_up h5 u16
      have h7 := dp_up h7 u16
      have h8 := dp_up h8 u16
      have hwd := dp_up hwd u16
      have ky := ky.up u16
      have sm := sm.up u16
      generalize sub H16 H15 B15 = B16 at a16 u16 b16u h1 h4 h5 h7 h8 hwd ky sm
      -- kin
      refine l_asg ?_
      refine ⟨.str salt, rfl, ?_⟩
      have fzr : fzOk 2 (shD rt) = true ∧ li 2 (shD rt) = .list [.int (rt.1 : Int), .int (rt.2 : Int)] := ⟨rfl, rfl⟩
      refine (ed_call0 (K := K) (B := B16) (d := .list [.int (rt.1 : Int), .int (rt.2 : Int)]) (ea_consD (ed_var rfl h5) ea_nilD) (sp_d ⟨shD rt, rfl, fzr.1, fzr.2.symm⟩) : EvD K _ _ _ _) H16 a16.b _ fun vr H17 e17 hvr => ?_
      have a17 := a16.next e17
      have u17 := le_sub a16.b e17
      have un17 := un16.up e17
      have b17u : sub H17 H16 B16 u = none := urn_out un16 b16u
      have h1 := dp_up h1 u17
      have h4 := dp_up h4 u17
      have h5 := dp_up h5 u17
      have h7 := dp_up h7 u17
      have h8 := dp_up h8 u17
      have hwd := dp_up hwd u17
      have ky := ky.up u17
      have sm := sm.up u17
      generalize sub H17 H16 B16 = B17 at a17 u17 b17u h1 h4 h5 h7 h8 hwd hvr ky sm
      refine u_call (R := fun d => ∃ ys : List Str, ys.Perm W ∧ d = tp ys) rfl (ea_consD (ed_var rfl h7) ea_nilD) ⟨tp W, W, rfl, .inr rfl, by omega, rfl, rfl⟩ a17.b b17u un17 (by omega) fun d vm H18 hr18 e18 hvm un18 => ?_
      obtain ⟨ys, hperm, rfl⟩ := hr18
      obtain ⟨cy, oy, oky, ly⟩ := M.perm ys hperm
      have lpW := hperm.length_eq
      have a18 := a17.urn del_at b17u e18 un18.some
      have u18 := urn_base a17.b b17u e18
      have b18u : sub H18 H17 B17 u = none := urn_out un17 b17u
      have h1 := dp_up h1 u18
      have h4 := dp_up h4 u18
      have h5 := dp_up h5 u18
      have h7 := dp_up h7 u18
      have h8 := dp_up h8 u18
      have hwd := dp_up hwd u18
      have hvr := dp_up hvr u18
      have ky := ky.up u18
      have sm := sm.up u18
      generalize sub H18 H17 B17 = B18 at a18 u18 b18u h1 h4 h5 h7 h8 hwd hvr hvm ky sm
      have liE : li 2 (tp ys) = .list (ys.map .str) := by
        show PyData.list ((ys.map PyData.str).map (li 1)) = _
        rw [List.map_map]
        rfl
      have fzy : fzOk 2 (tp ys) = true := by
        show (decide ((ys.map PyData.str).length < 1000) && (ys.map PyData.str).all (fzOk 1)) = true
        rw [List.length_map, decide_eq_true (by omega), Bool.true_and, List.all_eq_true]
        intro d m
        obtain ⟨x, _, rfl⟩ := List.mem_map.mp m
        rfl
      refine ⟨B18, [tp ys], _, a18.b, .cons hvm .nil, ⟨tp ys, rfl, fzy, rfl⟩, fun vn H19 e19 hvn => ?_⟩
      rw [liE] at hvn
      have a19 := a18.next e19
      have u19 := le_sub a18.b e19
      have un19 := un18.up e19
      have b19u : sub H19 H18 B18 u = none := urn_out un18 b18u
      have h1 := dp_up h1 u19
      have h4 := dp_up h4 u19
      have h5 := dp_up h5 u19
      have h7 := dp_up h7 u19
      have h8 := dp_up h8 u19
      have hwd := dp_up hwd u19
      have hvr := dp_up hvr u19
      have hvm := dp_up hvm u19
      have ky := ky.up u19
      have sm := sm.up u19
      generalize sub H19 H18 B18 = B19 at a19 u19 b19u h1 h4 h5 h7 h8 hwd hvr hvm hvn ky sm
      refine ⟨.ref p, rfl, rfl, rfl, mkSa (Cs := Cs) (Cn := Cn) (Ch := Ch) (Ct := Ct) (ns := ys) (A := .list (ys.map .str)) (R := .list [.int (rt.1 : Int), .int (rt.2 : Int)]) (n := rt.1) (d := rt.2) (salt := salt) (At.start a19.b (Ex.refl _)) ky kok hvn ⟨.inl rfl, oky, by omega⟩ hvr (.inl rfl) tsl (fun y h => by rw [oy] at h; cases h) (fun _ h => by rw [hR.2.1] at h; cases h) (fun _ _ h => by rw [hS.1] at h; cases h) fun _ _ _ pk H20 e20 smk => ?_⟩
      rw [cy] at smk
      have a20 := a19.next e20
      have u20 := le_sub a19.b e20
      have un20 := un19.up e20
      have b20u : sub H20 H19 B19 u = none := urn_out un19 b19u
      have h1 := dp_up h1 u20
      have h4 := dp_up h4 u20
      have h5 := dp_up h5 u20
      have h7 := dp_up h7 u20
      have h8 := dp_up h8 u20
      have hwd := dp_up hwd u20
      have ky := ky.up u20
      have sm := sm.up u20
      generalize sub H20 H19 B19 = B20 at a20 u20 b20u h1 h4 h5 h7 h8 hwd ky sm smk
      have one : ∀ {σ : L2.St} {B' : Hp}, σ[9]? = some (some (V.ref po)) → Ex B20 B' → EvS K Cs C (tVar 9) σ B' ⟨xs, pairsOf xs ts, W, rt.1, rt.2, salt⟩ := fun hi e => es_var hi (sm.up e)
      have hk := gOwn.k
      have gFar : SmG ⟨xs, pairsOf xs ts, W, far.1, far.2, salt⟩ := gOwn.at far.1 far.2
      have eqO : eqS ⟨xs, pairsOf xs ts, W, rt.1, rt.2, salt⟩ (some ⟨xs, pairsOf xs ts, W, rt.1, rt.2, salt⟩) = true := by simp [eqS]
      have eqF : eqS ⟨xs, pairsOf xs ts, W, far.1, far.2, salt⟩ (some ⟨xs, pairsOf xs ts, W, rt.1, rt.2, salt⟩) = PyData.eqv (rtD far.1 far.2) (rtD rt.1 rt.2) := by rw [rt_eq]; simp [eqS]
      have ofE : ∀ {σ : L2.St} {B' : Hp} {Z : XK}, σ[12]? = some (some (V.str flat)) → σ[2]? = some (some (V.ref p)) → Ex B20 B' → EvS K Cs C (tSMethN Cs 2 (spSof K Cs C Cb Cn Ch Ct) gSwV Z (tC (.ref Cs)) (tCons (tVar 12) (tCons (tVar 2) tNil))) σ B' ⟨xs, pairsOf xs ts, W, rt.1, rt.2, salt⟩ := fun h12 h2 e => es_is (es_ofN (x := flat) (nd := rt) (ns := W) (salt := salt) rfl (ed_var h12 (.str _)) tkf lf l59 (ek_var h2 (ky.up e)) kok hsp M.outW hR.2.1 hS.1) (congrArg (fun z => (⟨xs, pairsOf xs ts, z, rt.1, rt.2, salt⟩ : SmP)) M.clo)
      refine g_if1 (c := false) (et_is (et_or (et_of (ed_is (ed_eqS S Tks_ (ofE rfl rfl (Ex.refl _)) hk (ts_sm (one rfl (Ex.refl _)) hk)) (congrArg (fun z => PyData.bool (!z)) eqO))) fun _ => et_or (et_of (ed_is (ed_eqS S Tks_ (es_var (K := K) (m := ⟨xs, pairsOf xs ts, W, rt.1, rt.2, salt⟩) rfl smk) hk (ts_sm (one rfl (Ex.refl _)) hk)) (congrArg (fun z => PyData.bool (!z)) eqO))) fun _ => et_of (ed_is (ed_op (ed_eqS (g := fun z => z) S Tks_ (es_at (n' := far.1) (e' := far.2) (one rfl (Ex.refl _)) gOwn (ed_var rfl h8) (.inr rfl) hF.2.1) gFar.k (ts_sm (one rfl (Ex.refl _)) hk)) (ed_op (ed_var rfl h8) (ed_var rfl h5) (rv_eq (rt_shaped _ _) (rt_shaped _ _))) (rv_ne (K := K) rfl rfl)) (d1 := .bool false) ?_)) rfl) a20.b (fun z => nomatch z) fun _ H21 e21 => ?_
      · rw [eqF]
        show PyData.bool (!PyData.eqv (.bool (PyData.eqv (shD far) (shD rt))) (.bool (PyData.eqv (shD far) (shD rt)))) = _
        cases PyData.eqv (shD far) (shD rt) <;> rfl
      have a21 := a20.next e21
      have u21 := le_sub a20.b e21
      have un21 := un20.up e21
      have b21u : sub H21 H20 B20 u = none := urn_out un20 b20u
      have h1 := dp_up h1 u21
      have h4 := dp_up h4 u21
      have h5 := dp_up h5 u21
      have h7 := dp_up h7 u21
      have h8 := dp_up h8 u21
      have hwd := dp_up hwd u21
      have ky := ky.up u21
      have sm := sm.up u21
      have smk := smk.up u21
      generalize sub H21 H20 B20 = B21 at a21 u21 b21u h1 h4 h5 h7 h8 hwd ky sm smk
      -- other
      have nq : ("q" : Str) ∉ xs := fun m => by
        have := hbk.pool _ m
        revert this
        decide +kernel
      refine l_asg ((es_mk (n := rt.1) (e := rt.2) (ns := []) (salt := salt) (ek_mk1 (ns := ["q"]) (xs := ["q"]) MK.e0 (ea_consD (ed_tup (ea_consD (ed_str "q") ea_nilD) (by show 1 ≤ 100000; decide)) ea_nilD) (.inr rfl) (by decide +kernel) (by decide) (by decide +kernel) (by decide) (bk_of (by decide +kernel) (by decide) (by decide) (fun _ z => nomatch z) (by decide +kernel))) (kok_of (by decide +kernel) (by decide)) (ed_tup ea_nilD (by decide)) ⟨.inr rfl, Oks.nil, by decide⟩ (ed_var rfl h5) (.inr rfl) rfl hR.2.1 hS.1 (sE rfl) tsl) H21 a21.b _ fun pt at_ H22 e22 smt => ?_)
      have a22 := a21.next e22
      have u22 := le_sub a21.b e22
      have un22 := un21.up e22
      have b22u : sub H22 H21 B21 u = none := urn_out un21 b21u
      have h1 := dp_up h1 u22
      have h4 := dp_up h4 u22
      have h5 := dp_up h5 u22
      have h7 := dp_up h7 u22
      have h8 := dp_up h8 u22
      have hwd := dp_up hwd u22
      have ky := ky.up u22
      have sm := sm.up u22
      have smk := smk.up u22
      generalize sub H22 H21 B21 = B22 at a22 u22 b22u h1 h4 h5 h7 h8 hwd ky sm smk smt
      have neq : xs ≠ (["q"] : List Str) := fun z => nq (by rw [z]; exact List.Mem.head _)
      have hot : SmK ⟨["q"], pairsOf ["q"] [], closeF ["q"] (pairsOf ["q"] []) [], rt.1, rt.2, salt⟩ := ⟨q_kok.1, q_kok.2, tsl.1⟩
      have eqT : eqS ⟨xs, pairsOf xs ts, W, rt.1, rt.2, salt⟩ (some ⟨["q"], pairsOf ["q"] [], closeF ["q"] (pairsOf ["q"] []) [], rt.1, rt.2, salt⟩) = false := by
        show ((decide (xs = (["q"] : List Str)) && _) && _) = false
        rw [decide_eq_false neq]
        rfl
      have eqQ : eqS ⟨xs, pairsOf xs ts, W, rt.1, rt.2, salt⟩ (some ⟨xs, pairsOf xs ts, W, rt.1, rt.2, "q"⟩) = false := by
        show (_ && (_ && (_ && decide (salt = ("q" : Str))))) = false
        rw [decide_eq_false hS.2.2.2.1, Bool.and_false, Bool.and_false, Bool.and_false]
      have okq : saltF "q" = true ∧ PyData.strOk "q" = true := by decide +kernel
      have one : ∀ {σ : L2.St} {B' : Hp}, σ[9]? = some (some (V.ref po)) → Ex B22 B' → EvS K Cs C (tVar 9) σ B' ⟨xs, pairsOf xs ts, W, rt.1, rt.2, salt⟩ := fun hi e => es_var hi (sm.up e)
      refine g_if1 (c := false) (et_is (et_or (et_of (ed_is (ed_eqS (g := fun z => z) S Tks_ (one rfl (Ex.refl _)) hk (ts_sm (m := ⟨["q"], pairsOf ["q"] [], closeF ["q"] (pairsOf ["q"] []) [], rt.1, rt.2, salt⟩) (es_var (K := K) (m := ⟨["q"], pairsOf ["q"] [], closeF ["q"] (pairsOf ["q"] []) [], rt.1, rt.2, salt⟩) rfl smt) hot)) (congrArg PyData.bool eqT))) fun _ => et_or (et_of (ed_is (ed_eqS (g := fun z => z) S Tks_ (one rfl (Ex.refl _)) hk (ts_tup (ed_var rfl h7))) rfl)) fun _ => et_of (ed_is (ed_eqS (g := fun z => z) S Tks_ (one rfl (Ex.refl _)) hk (ts_sm (es_is (m' := ⟨xs, pairsOf xs ts, W, rt.1, rt.2, "q"⟩) (es_mk (n := rt.1) (e := rt.2) (ns := bag) (salt := "q") (ek_var rfl ky) kok (ed_var rfl h4) ⟨.inr rfl, M.ob, by have := M.lb; omega⟩ (ed_var rfl h5) (.inr rfl) M.out hR.2.1 okq.1 (ed_str "q") ⟨okq.2, by decide⟩) (congrArg (fun z => (⟨xs, pairsOf xs ts, z, rt.1, rt.2, "q"⟩ : SmP)) M.hW)) ⟨kok, M.okW, okq.2⟩)) (congrArg PyData.bool eqQ))) rfl) a22.b (fun z => nomatch z) fun _ H23 e23 => ?_
      have a23 := a22.next e23
      have u23 := le_sub a22.b e23
      have un23 := un22.up e23
      have b23u : sub H23 H22 B22 u = none := urn_out un22 b22u
      have h1 := dp_up h1 u23
      have h4 := dp_up h4 u23
      have h5 := dp_up h5 u23
      have h7 := dp_up h7 u23
      have h8 := dp_up h8 u23
      have hwd := dp_up hwd u23
      have ky := ky.up u23
      have sm := sm.up u23
      have smk := smk.up u23
      have smt := smt.up u23
      generalize sub H23 H22 B22 = B23 at a23 u23 b23u h1 h4 h5 h7 h8 hwd ky sm smk smt
      -- one name too many
      have s24 : shB 2 4 = false := by decide +kernel
      have oq : Oks (bag ++ (["q"] : List Str)) := fun y m => (List.mem_append.mp m).elim (M.ob y) fun z => by rw [List.mem_singleton.mp z]; exact okq.2
      have lbq : (bag ++ (["q"] : List Str)).length ≤ 6 := by rw [List.length_append]; have := M.lb; show _ + 1 ≤ 6; omega
      refine g_if (c := false) (et_is (et_not (et_ofB (ed_call0 (ea_consD (ed_hs (D1 := tp (bag ++ (["q"] : List Str))) (D2 := rtD 2 4) (D3 := .str "") (D4 := .none) (r := .list [.str "name", .str "q"]) rfl ky kok (ed_is (ed_op (ed_cb (ea_consD (ed_var rfl h4) ea_nilD) (rc_tuple (.inr rfl))) (ed_tup (ds := [.str "q"]) (ea_consD (ed_str "q") ea_nilD) (by show 1 ≤ 100000; decide)) (rv_catT (by rw [List.length_map]; have := M.lb; show _ + 1 ≤ 100000; omega))) (by unfold tp; rw [List.map_append]; rfl)) (ed_tup (ea_consD (ed_int 2) (ea_consD (ed_int 4) ea_nilD)) (by show 2 ≤ 100000; decide)) (ed_str "") ed_non (.inr (.inl ⟨bag ++ (["q"] : List Str), 2, 4, "", rfl, rfl, ⟨.inr rfl, oq, by omega⟩, .inr rfl, ⟨by decide +kernel, by decide⟩, (fun h => by rw [s24] at h; cases h), (outS_nm M.outq).symm⟩))) (ea_consD (ed_lst (ea_consD (ed_str "name") (ea_consD (ed_str "q") ea_nilD)) (by show 2 ≤ 100000; decide)) ea_nilD)) (sp_d ⟨_, rfl, by decide +kernel, rfl⟩)))) rfl) a23.b (fun z => nomatch z) fun _ H24 e24 => ?_
      refine ⟨⟨_, _, _, _, _, _, _, _, _, _, _, rfl⟩, (a23.grow e24).less ((((((((((((((u7.trans u8).trans u9).trans u10).trans u13).trans u14).trans u15).trans u16).trans u17).trans u18).trans u19).trans u20).trans u21).trans u22).trans u23) a6.wk.bb, u6, b6u, _, un23.up e24, ?_⟩
      omega
    · subst hσ
      dsimp only
      rw [List.length_map] at lm6
      refine g_ret (K := K) (d := .bool true) (ed_bl true) a6.b fun v H7 e7 hv => ?_
      exact q _ v H7 rfl (a6.ex.trans e7) (a6.out e7 hv) (urn_more (un6.up e7) (by omega))
end
end S5

set_option Elab.async false
set_option linter.all false
set_option maxRecDepth 100000
namespace S5
open PySem PySem.Spec PyProof.Rows L2 Evl ZE ZS StX ZD RZ
section
variable {P : Program} {w : World} {K : PySem.W.Frag} {mg : Str → Option Value} {base : Heap} {aI : Addr}
/-! ### law -/
def spLaw (K : PySem.W.Frag) : Sp := fun vs H Q _ => ∃ (a : Addr) (ns : List Int), vs = [.ref a] ∧ SqL K H a (ns.map V.int) ∧ ns.length ≤ 63 ∧ ∀ H', Q (.bl true) H'
abbrev sLaw : Stmt := (top 53)
abbrev NLaw : List Str := ["_law_script", "_law_cells_here", "_law_k"]
theorem scLaw : FnScope NLaw ["_law_script"] (defScope sLaw) := ⟨rfl, rfl, rfl, by decide +kernel, rfl, by decide +kernel, by decide +kernel⟩
theorem ok_law {f fc fb fr : Addr} {fd fdc fdb fdr : FuncData} (F : Fun K "law" "law" sLaw f fd) (T : Tx K mg aI) (Ti : Ty K mg) (C_law_cells : Cal P w K mg base 1 "_law_cells" ["_law_script", "_law_top"] (spE K clE) fc fdc) (C_law_box : Cal P w K mg base 1 "_law_box" ["_law_script", "_law_k"] (spBox K) fb fdb) (C_law_right : Cal P w K mg base 11 "_law_right" ["_law_urn"] (spU K rtP) fr fdr) :
    FnOk P w K mg base CX0 12 f fd ["_law_script"] (spLaw K) := by
  refine F.ok scLaw (fun vs H Q E h => ?_) (fun cdv A outer s H vs Q E hr h => ?_)
  · obtain ⟨a, ns, rfl, _⟩ := h
    rfl
  · obtain ⟨a, ns, rfl, hS, ln, q⟩ := h
    refine ⟨_, (pss_cons (ps_set (i := 1) scLaw.nd rfl (by first | exact .inl rfl | exact .inr rfl) (pe_call C_law_cells.G (hr.mono (by decide)) (by rfl) C_law_cells.m C_law_cells.kp C_law_cells.b .nil pass0 (pa_cons (pv 0) (pa_cons pe_int pa_nil)))) (pss_one (ps_ret (pe_callB (xAll K rfl) (by rfl) T.all (by decide +kernel) (pa_cons (pe_lc (own := [("_law_k", 2)]) rfl scLaw.nd (pi_range1 rfl Ti.range (pa_cons (pe_callB (xLen K) (by rfl) T.len (by decide +kernel) (pa_cons (pv 1) pa_nil)) pa_nil)) (blkOk_by (N := NLaw) (sc := defScope sLaw) (by decide +kernel)) (fun _ _ _ _ _ => (pg_name (i := 2) scLaw.nd rfl (by first | exact .inl rfl | exact .inr rfl))) (fun _ _ _ _ _ => pts_nil) (fun _ _ _ _ _ => (pe_call C_law_right.G (hr.mono (by decide)) (by rfl) C_law_right.m C_law_right.kp C_law_right.b .nil pass0 (pa_cons (pe_call C_law_box.G (hr.mono (by decide)) (by rfl) C_law_box.m C_law_box.kp C_law_box.b .nil pass0 (pa_cons (pv 1) (pa_cons (pv 2) pa_nil))) pa_nil)))) pa_nil))))), ?_⟩
    refine l_asg (e_callE (B := H) (ea_consD (ed_var rfl (.lst hS (dpa_ints ns))) (ea_consD (ed_int 3) ea_nilD)) (Ex.refl H) ⟨ns, rfl, ln, rfl⟩ fun d v H2 hr2 e2 hv => ?_)
    obtain ⟨ms, m1, m2, rfl⟩ := hr2
    have b2 : Ex (sub H2 H H) H2 := sub_le
    refine l_ret (l_cb1 ?_)
    have ev : EvDA K (tCons (tCB (ZE.rLen K) (tCons (tVar 1) tNil)) tNil) [some (.ref a), some v, none] (sub H2 H H) [.int ((ms.map PyData.int).length : Nat)] := ea_consD (ed_cb (ea_consD (ed_var rfl hv) ea_nilD) (rc_len (.inl rfl))) ea_nilD
    unfold tLc iRng1
    refine ev H2 b2 _ fun vs H3 e3 hvs => ?_
    obtain ⟨z, rfl, hz⟩ := one hvs
    obtain rfl := p_int hz
    rw [List.length_map]
    have b3 : Ex (sub H2 H H) H3 := b2.trans e3
    refine ⟨(ms.length : Int), rfl, by omega, by omega, fun D hD => ?_⟩
    rw [Int.toNat_natCast]
    refine lc_range (lo := 0) (n := ms.length) (fun i H' => Ex H3 H' ∧ H' D = some (.lst (List.replicate i (V.bl true)))) ⟨Ex.new hD, upd_same⟩ (fun i H' hi ⟨p1, p2⟩ => ?_) (fun H' ⟨p1, p2⟩ => ?_)
    · rw [Int.zero_add]
      refine ⟨rfl, yes_go ⟨v, rfl, .int (i : Int), rfl, sub H2 H H, ms, i, v, rfl, b3.trans p1, hv, hi, by omega, fun u H4 hu e4 un => ?_⟩⟩
      refine ⟨fun _ => none, u, [], [], fun d => d = .bool true, 700, 0, rfl, (fun a o e => nomatch e), rfl, .nil, un, by decide, ⟨rfl, rfl, rfl⟩, fun d v5 H5 hd e5 hv5 un5 => ?_⟩
      subst hd
      obtain rfl := p_bl hv5
      have keep : Ex H' H5 := fun a o ha => e5 a o (by rw [ZE.del_ne fun z => by rw [z, hu] at ha; cases ha]; exact e4 a o ha)
      refine ⟨_, keep D _ p2, sz_lt (by rw [List.length_replicate]; omega), Ex.mut (p1.trans keep) hD, ?_⟩
      rw [upd_same, List.replicate_succ']
    · refine ⟨D, List.replicate ms.length true, rfl, ?_, ?_⟩
      · rw [List.map_replicate]
        exact sq_of p2
      · have e : (List.replicate ms.length true).all id = true := List.all_eq_true.mpr fun x m => (List.mem_replicate.mp m).2
        rw [e]
        exact q H'
end
end S5

set_option Elab.async false
set_option linter.all false
set_option maxRecDepth 100000
namespace S5
open PySem PySem.Spec PyProof.Rows L2 Evl ZE ZS StX ZD RZ ZT
section
variable {K : PySem.W.Frag}
theorem exm_no {C : Addr} {c : Value} (h1 : PySem.W.subIn K c (.type "BaseException") = some true) (h2 : PySem.W.kitOne K (.ref C) c = some false) : PySem.W.exmOne K (.ref C) c = some false := by
  unfold PySem.W.kitOne at h2
  split at h2
  · cases h2
  · unfold PySem.W.exmOne
    rw [h1, h2]
    rfl
theorem exm_me {C : Addr} (sn : PySem.W.subIn K (.ref C) (.type "BaseException") = some true) (cl : (PySem.W.clsIn K C).isSome = true) (ty : PySem.W.typeIn K (.ref C) = some (.type "type")) (ss : PySem.W.subIn K (.ref C) (.ref C) = some true) : PySem.W.exmOne K (.ref C) (.ref C) = some true := by
  unfold PySem.W.exmOne PySem.W.kitCls
  rw [sn]
  dsimp only
  rw [cl, ty, ss]
  rfl
theorem exm_5 {t c1 c2 c3 c4 c5 : Value} {b1 b2 b3 b4 b5 : Bool} (h1 : PySem.W.exmOne K t c1 = some b1) (h2 : PySem.W.exmOne K t c2 = some b2) (h3 : PySem.W.exmOne K t c3 = some b3) (h4 : PySem.W.exmOne K t c4 = some b4) (h5 : PySem.W.exmOne K t c5 = some b5) : PySem.W.exmAny K t [c1, c2, c3, c4, c5] = some (b1 || (b2 || (b3 || (b4 || (b5 || false))))) := by
  unfold PySem.W.exmAny
  rw [h1]
  unfold PySem.W.exmAny
  rw [h2]
  unfold PySem.W.exmAny
  rw [h3]
  unfold PySem.W.exmAny
  rw [h4]
  unfold PySem.W.exmAny
  rw [h5]
  rfl
/-- a def with keyword-only defaults, all of them lacking or all given -/
theorem kw_mk {fd : FuncData} {ps ks : List Str} {n : Nat} (h : ∀ (us ws : List Value), us.length = n → ws.length = ks.length → bindArgs fd ⟨us, ks.zip ws⟩ = pure (ps.zip (us ++ ws))) : KBn K fd ps n ks (fun us ws => us ++ ws) (fun vs zs => vs ++ zs) :=
  ⟨fun s us ws _ l1 l2 => .of_eq (h us ws l1 l2), fun r1 r2 => r1.append r2⟩
theorem kw_sm {fd : FuncData} (h : ∀ a s r n k : Value, bindArgs fd ⟨[a], (["salt", "rate", "names", "keys"] : List Str).zip [s, r, n, k]⟩ = pure ((["self", "keys", "names", "rate", "salt"] : List Str).zip [a, k, n, r, s])) : KBn K fd ["self", "keys", "names", "rate", "salt"] 1 ["salt", "rate", "names", "keys"] gSmV gSm :=
  ⟨fun s us ws _ l1 l2 => match us, ws, l1, l2 with | [a], [s, r, n, k], _, _ => .of_eq (h a s r n k), fun {vs us zs ws} r1 r2 => by
    unfold gSm gSmV
    match zs, ws, r2 with
    | [], [], _ => exact r1.append .nil
    | [_], [_], r => exact r1.append r
    | [_, _], [_, _], r => exact r1.append r
    | [_, _, _], [_, _, _], r => exact r1.append r
    | [_, _, _, _], [_, _, _, _], .cons h1 (.cons h2 (.cons h3 (.cons h4 .nil))) => exact r1.append (.cons h4 (.cons h3 (.cons h2 (.cons h1 .nil))))
    | _ :: _ :: _ :: _ :: _ :: _, _ :: _ :: _ :: _ :: _ :: _, r => exact r1.append r⟩
theorem kw_of {fd : FuncData} (h : ∀ x k : Value, bindArgs fd ⟨[], (["text", "keys"] : List Str).zip [x, k]⟩ = pure ((["keys", "text"] : List Str).zip [k, x])) : KBn K fd ["keys", "text"] 0 ["text", "keys"] gSwVV gSwV :=
  ⟨fun s us ws _ l1 l2 => match us, ws, l1, l2 with | [], [x, k], _, _ => .of_eq (h x k), fun {vs us zs ws} _ r2 => by
    unfold gSwV gSwVV
    match zs, ws, r2 with
    | [], [], _ => exact .nil
    | [_], [_], r => exact r
    | [_, _], [_, _], .cons h1 (.cons h2 .nil) => exact .cons h2 (.cons h1 .nil)
    | _ :: _ :: _ :: _, _ :: _ :: _ :: _, r => exact r⟩
end
end S5

set_option Elab.async false
set_option linter.all false
set_option maxRecDepth 100000
namespace S5
open PySem PySem.Spec PyProof.Rows L2 Evl ZE ZS StX ZD RZ ZT
set_option maxHeartbeats 0 in
theorem all_mk {l : PySem.W.OpenLaw} {w : World} {K : PySem.W.Frag} {h : Heap} {mg : Str → Option Value} {fa C Cs aI Cm f1 f2 f3 f4 f5 f6 f7 f8 f9 Cn f10 Cb f11 Ct f12 Ch f13 f14 f15 f16 f17 f18 T0 e0 f19 f20 f21 f22 f23 D0 f24 pschema f25 pkeyset f26 prate f27 psalt f28 ptext f29 f30 f31 f32 pof f33 f34 f35 f36 f37 f38 f39 f40 f41 f42 f43 f44 f45 f46 f47 f48 f49 f50 : Addr} (X : K.In h) (G : h.Ns mainGlobals mg) (hfa : mg "law" = some (.ref fa))
    {od1 an1 od2 an2 od3 an3 od4 an4 od5 an5 od6 an6 od7 an7 od8 an8 od9 an9 od10 an10 od11 an11 od12 an12 od13 an13 od14 an14 od15 an15 od16 an16 od17 an17 od18 an18 od19 an19 od20 an20 od21 an21 od22 an22 od23 an23 od24 an24 od25 an25 od26 an26 od27 an27 od28 an28 od29 an29 od30 an30 od31 an31 od32 an32 od33 an33 od34 an34 od35 an35 od36 an36 od37 an37 od38 an38 od39 an39 od40 an40 od41 an41 od42 an42 od43 an43 od44 an44 od45 an45 od46 an46 od47 an47 od48 an48 od49 an49 od50 an50 oI oE dT ddN ddB ddT ddH : Option Addr} {sl1 sl2 sl3 sl4 sl5 sl6 sl7 sl8 sl9 sl10 sl11 sl12 sl13 sl14 sl15 sl16 sl17 sl18 sl19 sl20 sl21 sl22 sl23 sl24 sl25 sl26 sl27 sl28 sl29 sl30 sl31 sl32 sl33 sl34 sl35 sl36 sl37 sl38 sl39 sl40 sl41 sl42 sl43 sl44 sl45 sl46 sl47 sl48 sl49 sl50 slI slE sT : Array (Option Value)} {kV1 oc1 dc1 pm1 cd1 ct1 kV2 oc2 dc2 pm2 cd2 ct2 kV3 oc3 dc3 pm3 cd3 ct3 kV4 oc4 dc4 pm4 cd4 ct4 kV5 oc5 dc5 pm5 cd5 ct5 kV6 oc6 dc6 pm6 cd6 ct6 kV7 oc7 dc7 pm7 cd7 ct7 kV8 oc8 dc8 pm8 cd8 ct8 kV9 oc9 dc9 pm9 cd9 ct9 kV10 oc10 dc10 pm10 cd10 ct10 kV11 oc11 dc11 pm11 cd11 ct11 kV12 oc12 dc12 pm12 cd12 ct12 kV13 oc13 dc13 pm13 cd13 ct13 kV14 oc14 dc14 pm14 cd14 ct14 kV15 oc15 dc15 pm15 cd15 ct15 kV16 oc16 dc16 pm16 cd16 ct16 kV17 oc17 dc17 pm17 cd17 ct17 kV18 oc18 dc18 pm18 cd18 ct18 kV19 oc19 dc19 pm19 cd19 ct19 kV20 oc20 dc20 pm20 cd20 ct20 kV21 oc21 dc21 pm21 cd21 ct21 kV22 oc22 dc22 pm22 cd22 ct22 oc23 dc23 pm23 cd23 ct23 kV24 oc24 dc24 pm24 cd24 ct24 kV25 oc25 dc25 pm25 cd25 ct25 kV26 oc26 dc26 pm26 cd26 ct26 kV27 oc27 dc27 pm27 cd27 ct27 kV28 oc28 dc28 pm28 cd28 ct28 kV29 oc29 dc29 pm29 cd29 ct29 kV30 oc30 dc30 pm30 cd30 ct30 kV31 oc31 dc31 pm31 cd31 ct31 kV32 oc32 dc32 pm32 cd32 ct32 kV33 oc33 dc33 pm33 cd33 ct33 kV34 oc34 dc34 pm34 cd34 ct34 kV35 oc35 dc35 pm35 cd35 ct35 kV36 oc36 dc36 pm36 cd36 ct36 kV37 oc37 dc37 pm37 cd37 ct37 kV38 oc38 dc38 pm38 cd38 ct38 kV39 oc39 dc39 pm39 cd39 ct39 kV40 oc40 dc40 pm40 cd40 ct40 kV41 oc41 dc41 pm41 cd41 ct41 kV42 oc42 dc42 pm42 cd42 ct42 kV43 oc43 dc43 pm43 cd43 ct43 kV44 oc44 dc44 pm44 cd44 ct44 kV45 oc45 dc45 pm45 cd45 ct45 kV46 oc46 dc46 pm46 cd46 ct46 kV47 oc47 dc47 pm47 cd47 ct47 kV48 oc48 dc48 pm48 cd48 ct48 kV49 oc49 dc49 pm49 cd49 ct49 kV50 oc50 dc50 pm50 cd50 ct50 cT : Value} {restschema restkeyset restrate restsalt resttext restof : List Value} {tI tkL tkD tkS : Tok} {nI nT nE : Nat} {nmN qN nmB qB nmT qT nmH qH : Str} {NN NB NT NH : Addr} {bsN subN bsB subB bsT subT bsH subH : List Value} {snN snB snT snH : List Str} {abN abB abT abH : Bool} {colN colB colT colH : Option Bool} {k0N k1N k2N k3N k5N k0B k1B k2B k3B k5B k0T k1T k2T k3T k5T k0H k1H k2H k3H k5H : Option Value}
    (aC : PySem.W.nsIn K mainGlobals "Keys" = some (some (.ref C)))
    (aCs : PySem.W.nsIn K mainGlobals "Sampler" = some (some (.ref Cs)))
    (aCm : PySem.W.nsIn K mainGlobals "MixedKeys" = some (some (.ref Cm)))
    (a1 : PySem.W.nsIn K mainGlobals "frozen" = some (some (.ref f1)))
    (l1 : K.lookup f1 = some ⟨oc1, od1, .func (PySem.W.fnOf "frozen" "frozen" (defArgs sFrozen) (defBody sFrozen) (defScope sFrozen) .none kV1 dc1 pm1 an1 cd1 ct1), sl1⟩)
    (c1 : PySem.W.codeIn K cd1 "frozen" = true)
    (k1 : PySem.W.keepIn K (.ref f1) = true)
    (a2 : PySem.W.nsIn K mainGlobals "is_share" = some (some (.ref f2)))
    (l2 : K.lookup f2 = some ⟨oc2, od2, .func (PySem.W.fnOf "is_share" "is_share" (defArgs sIsShare) (defBody sIsShare) (defScope sIsShare) .none kV2 dc2 pm2 an2 cd2 ct2), sl2⟩)
    (c2 : PySem.W.codeIn K cd2 "is_share" = true)
    (k2 : PySem.W.keepIn K (.ref f2) = true)
    (a3 : PySem.W.nsIn K mainGlobals "share_text" = some (some (.ref f3)))
    (l3 : K.lookup f3 = some ⟨oc3, od3, .func (PySem.W.fnOf "share_text" "share_text" (defArgs sShareText) (defBody sShareText) (defScope sShareText) .none kV3 dc3 pm3 an3 cd3 ct3), sl3⟩)
    (c3 : PySem.W.codeIn K cd3 "share_text" = true)
    (k3 : PySem.W.keepIn K (.ref f3) = true)
    (a4 : PySem.W.nsIn K mainGlobals "is_digits" = some (some (.ref f4)))
    (l4 : K.lookup f4 = some ⟨oc4, od4, .func (PySem.W.fnOf "is_digits" "is_digits" (defArgs sIsDigits) (defBody sIsDigits) (defScope sIsDigits) .none kV4 dc4 pm4 an4 cd4 ct4), sl4⟩)
    (c4 : PySem.W.codeIn K cd4 "is_digits" = true)
    (k4 : PySem.W.keepIn K (.ref f4) = true)
    (a5 : PySem.W.nsIn K mainGlobals "share_in" = some (some (.ref f5)))
    (l5 : K.lookup f5 = some ⟨oc5, od5, .func (PySem.W.fnOf "share_in" "share_in" (defArgs sShareIn) (defBody sShareIn) (defScope sShareIn) .none kV5 dc5 pm5 an5 cd5 ct5), sl5⟩)
    (c5 : PySem.W.codeIn K cd5 "share_in" = true)
    (k5 : PySem.W.keepIn K (.ref f5) = true)
    (a6 : PySem.W.nsIn K mainGlobals "is_salt" = some (some (.ref f6)))
    (l6 : K.lookup f6 = some ⟨oc6, od6, .func (PySem.W.fnOf "is_salt" "is_salt" (defArgs sIsSalt) (defBody sIsSalt) (defScope sIsSalt) .none kV6 dc6 pm6 an6 cd6 ct6), sl6⟩)
    (c6 : PySem.W.codeIn K cd6 "is_salt" = true)
    (k6 : PySem.W.keepIn K (.ref f6) = true)
    (a7 : PySem.W.nsIn K mainGlobals "is_name" = some (some (.ref f7)))
    (l7 : K.lookup f7 = some ⟨oc7, od7, .func (PySem.W.fnOf "is_name" "is_name" (defArgs sIsName) (defBody sIsName) (defScope sIsName) .none kV7 dc7 pm7 an7 cd7 ct7), sl7⟩)
    (c7 : PySem.W.codeIn K cd7 "is_name" = true)
    (k7 : PySem.W.keepIn K (.ref f7) = true)
    (a8 : PySem.W.nsIn K mainGlobals "words_of" = some (some (.ref f8)))
    (l8 : K.lookup f8 = some ⟨oc8, od8, .func (PySem.W.fnOf "words_of" "words_of" (defArgs sWordsOf) (defBody sWordsOf) (defScope sWordsOf) .none kV8 dc8 pm8 an8 cd8 ct8), sl8⟩)
    (c8 : PySem.W.codeIn K cd8 "words_of" = true)
    (k8 : PySem.W.keepIn K (.ref f8) = true)
    (agN : PySem.W.nsIn K mainGlobals "NoName" = some (some (.ref Cn)))
    (a9 : PySem.W.findIn K (.ref Cn) "__init__" = some (some (.ref f9)))
    (i9 : PySem.W.typeIn K (.ref f9) = some (.type "function"))
    (l9 : K.lookup f9 = some ⟨oc9, od9, .func (PySem.W.fnOf "__init__" "NoName.__init__" (defArgs sNoNameInit) (defBody sNoNameInit) (defScope sNoNameInit) .none kV9 dc9 pm9 an9 cd9 ct9), sl9⟩)
    (c9 : PySem.W.codeIn K cd9 "NoName.__init__" = true)
    (k9 : PySem.W.keepIn K (.ref f9) = true)
    (agB : PySem.W.nsIn K mainGlobals "BadSampler" = some (some (.ref Cb)))
    (a10 : PySem.W.findIn K (.ref Cb) "__init__" = some (some (.ref f10)))
    (i10 : PySem.W.typeIn K (.ref f10) = some (.type "function"))
    (l10 : K.lookup f10 = some ⟨oc10, od10, .func (PySem.W.fnOf "__init__" "BadSampler.__init__" (defArgs sBadSamplerInit) (defBody sBadSamplerInit) (defScope sBadSamplerInit) .none kV10 dc10 pm10 an10 cd10 ct10), sl10⟩)
    (c10 : PySem.W.codeIn K cd10 "BadSampler.__init__" = true)
    (k10 : PySem.W.keepIn K (.ref f10) = true)
    (agT : PySem.W.nsIn K mainGlobals "BadSalt" = some (some (.ref Ct)))
    (a11 : PySem.W.findIn K (.ref Ct) "__init__" = some (some (.ref f11)))
    (i11 : PySem.W.typeIn K (.ref f11) = some (.type "function"))
    (l11 : K.lookup f11 = some ⟨oc11, od11, .func (PySem.W.fnOf "__init__" "BadSalt.__init__" (defArgs sBadSaltInit) (defBody sBadSaltInit) (defScope sBadSaltInit) .none kV11 dc11 pm11 an11 cd11 ct11), sl11⟩)
    (c11 : PySem.W.codeIn K cd11 "BadSalt.__init__" = true)
    (k11 : PySem.W.keepIn K (.ref f11) = true)
    (agH : PySem.W.nsIn K mainGlobals "BadShare" = some (some (.ref Ch)))
    (a12 : PySem.W.findIn K (.ref Ch) "__init__" = some (some (.ref f12)))
    (i12 : PySem.W.typeIn K (.ref f12) = some (.type "function"))
    (l12 : K.lookup f12 = some ⟨oc12, od12, .func (PySem.W.fnOf "__init__" "BadShare.__init__" (defArgs sBadShareInit) (defBody sBadShareInit) (defScope sBadShareInit) .none kV12 dc12 pm12 an12 cd12 ct12), sl12⟩)
    (c12 : PySem.W.codeIn K cd12 "BadShare.__init__" = true)
    (k12 : PySem.W.keepIn K (.ref f12) = true)
    (a13 : PySem.W.nsIn K mainGlobals "check_names" = some (some (.ref f13)))
    (l13 : K.lookup f13 = some ⟨oc13, od13, .func (PySem.W.fnOf "check_names" "check_names" (defArgs sCheckNames) (defBody sCheckNames) (defScope sCheckNames) .none kV13 dc13 pm13 an13 cd13 ct13), sl13⟩)
    (c13 : PySem.W.codeIn K cd13 "check_names" = true)
    (k13 : PySem.W.keepIn K (.ref f13) = true)
    (a14 : PySem.W.nsIn K mainGlobals "all_pairs" = some (some (.ref f14)))
    (l14 : K.lookup f14 = some ⟨oc14, od14, .func (PySem.W.fnOf "all_pairs" "all_pairs" (defArgs sAllPairs) (defBody sAllPairs) (defScope sAllPairs) .none kV14 dc14 pm14 an14 cd14 ct14), sl14⟩)
    (c14 : PySem.W.codeIn K cd14 "all_pairs" = true)
    (k14 : PySem.W.keepIn K (.ref f14) = true)
    (a15 : PySem.W.nsIn K mainGlobals "all_told" = some (some (.ref f15)))
    (l15 : K.lookup f15 = some ⟨oc15, od15, .func (PySem.W.fnOf "all_told" "all_told" (defArgs sAllTold) (defBody sAllTold) (defScope sAllTold) .none kV15 dc15 pm15 an15 cd15 ct15), sl15⟩)
    (c15 : PySem.W.codeIn K cd15 "all_told" = true)
    (k15 : PySem.W.keepIn K (.ref f15) = true)
    (a16 : PySem.W.nsIn K mainGlobals "is_closed" = some (some (.ref f16)))
    (l16 : K.lookup f16 = some ⟨oc16, od16, .func (PySem.W.fnOf "is_closed" "is_closed" (defArgs sIsClosed) (defBody sIsClosed) (defScope sIsClosed) .none kV16 dc16 pm16 an16 cd16 ct16), sl16⟩)
    (c16 : PySem.W.codeIn K cd16 "is_closed" = true)
    (k16 : PySem.W.keepIn K (.ref f16) = true)
    (a17 : PySem.W.nsIn K mainGlobals "all_keysets" = some (some (.ref f17)))
    (l17 : K.lookup f17 = some ⟨oc17, od17, .func (PySem.W.fnOf "all_keysets" "all_keysets" (defArgs sAllKeysets) (defBody sAllKeysets) (defScope sAllKeysets) .none kV17 dc17 pm17 an17 cd17 ct17), sl17⟩)
    (c17 : PySem.W.codeIn K cd17 "all_keysets" = true)
    (k17 : PySem.W.keepIn K (.ref f17) = true)
    (a18 : PySem.W.findIn K (.ref C) "__init__" = some (some (.ref f18)))
    (i18 : PySem.W.isFn K (.ref f18) = true)
    (l18 : K.lookup f18 = some ⟨oc18, od18, .func (PySem.W.fnOf "__init__" "Keys.__init__" (defArgs sKeysInit) (defBody sKeysInit) (defScope sKeysInit) (.ref T0) kV18 dc18 pm18 an18 cd18 ct18), sl18⟩)
    (c18 : PySem.W.codeIn K cd18 "Keys.__init__" = true)
    (k18 : PySem.W.keepIn K (.ref f18) = true)
    (lT0 : K.lookup T0 = some ⟨cT, dT, .seq #[.ref e0] nT, sT⟩)
    (lE : K.lookup e0 = some ⟨.type "tuple", oE, .seq #[] nE, slE⟩)
    (a19 : PySem.W.findIn K (.ref C) "__eq__" = some (some (.ref f19)))
    (i19 : PySem.W.isFn K (.ref f19) = true)
    (l19 : K.lookup f19 = some ⟨oc19, od19, .func (PySem.W.fnOf "__eq__" "Keys.__eq__" (defArgs sKeysEq) (defBody sKeysEq) (defScope sKeysEq) .none kV19 dc19 pm19 an19 cd19 ct19), sl19⟩)
    (c19 : PySem.W.codeIn K cd19 "Keys.__eq__" = true)
    (k19 : PySem.W.keepIn K (.ref f19) = true)
    (a20 : PySem.W.findIn K (.ref C) "closed" = some (some (.ref f20)))
    (i20 : PySem.W.isFn K (.ref f20) = true)
    (l20 : K.lookup f20 = some ⟨oc20, od20, .func (PySem.W.fnOf "closed" "Keys.closed" (defArgs sKeysClosed) (defBody sKeysClosed) (defScope sKeysClosed) .none kV20 dc20 pm20 an20 cd20 ct20), sl20⟩)
    (c20 : PySem.W.codeIn K cd20 "Keys.closed" = true)
    (k20 : PySem.W.keepIn K (.ref f20) = true)
    (a21 : PySem.W.nsIn K mainGlobals "keyset_text" = some (some (.ref f21)))
    (l21 : K.lookup f21 = some ⟨oc21, od21, .func (PySem.W.fnOf "keyset_text" "keyset_text" (defArgs sKeysetText) (defBody sKeysetText) (defScope sKeysetText) .none kV21 dc21 pm21 an21 cd21 ct21), sl21⟩)
    (c21 : PySem.W.codeIn K cd21 "keyset_text" = true)
    (k21 : PySem.W.keepIn K (.ref f21) = true)
    (a22 : PySem.W.nsIn K mainGlobals "names_in_text" = some (some (.ref f22)))
    (l22 : K.lookup f22 = some ⟨oc22, od22, .func (PySem.W.fnOf "names_in_text" "names_in_text" (defArgs sNamesInText) (defBody sNamesInText) (defScope sNamesInText) .none kV22 dc22 pm22 an22 cd22 ct22), sl22⟩)
    (c22 : PySem.W.codeIn K cd22 "names_in_text" = true)
    (k22 : PySem.W.keepIn K (.ref f22) = true)
    (a23 : PySem.W.findIn K (.ref Cs) "__init__" = some (some (.ref f23)))
    (i23 : PySem.W.isFn K (.ref f23) = true)
    (l23 : K.lookup f23 = some ⟨oc23, od23, .func (PySem.W.fnOf "__init__" "Sampler.__init__" (defArgs sSamplerInit) (defBody sSamplerInit) (defScope sSamplerInit) .none (.ref D0) dc23 pm23 an23 cd23 ct23), sl23⟩)
    (c23 : PySem.W.codeIn K cd23 "Sampler.__init__" = true)
    (k23 : PySem.W.keepIn K (.ref f23) = true)
    (lD0 : PySem.W.nsIn K D0 "salt" = some (some (.str "" tkS)))
    (patschema : PySem.W.findIn K (.ref Cs) "schema" = some (some (.ref pschema)))
    (pgetschema : PySem.W.specialIn K (.ref pschema) "__get__" = some (some (.builtin "property.__get__")))
    (ptakschema : PySem.W.takesIn K (.ref pschema) = some true)
    (precschema : PySem.W.recIn K pschema "property" = some (.ref f24 :: restschema))
    (l24 : K.lookup f24 = some ⟨oc24, od24, .func (PySem.W.fnOf "schema" "Sampler.schema" (defArgs sSamplerSchema) (defBody sSamplerSchema) (defScope sSamplerSchema) .none kV24 dc24 pm24 an24 cd24 ct24), sl24⟩)
    (c24 : PySem.W.codeIn K cd24 "Sampler.schema" = true)
    (k24 : PySem.W.keepIn K (.ref f24) = true)
    (patkeyset : PySem.W.findIn K (.ref Cs) "keyset" = some (some (.ref pkeyset)))
    (pgetkeyset : PySem.W.specialIn K (.ref pkeyset) "__get__" = some (some (.builtin "property.__get__")))
    (ptakkeyset : PySem.W.takesIn K (.ref pkeyset) = some true)
    (preckeyset : PySem.W.recIn K pkeyset "property" = some (.ref f25 :: restkeyset))
    (l25 : K.lookup f25 = some ⟨oc25, od25, .func (PySem.W.fnOf "keyset" "Sampler.keyset" (defArgs sSamplerKeyset) (defBody sSamplerKeyset) (defScope sSamplerKeyset) .none kV25 dc25 pm25 an25 cd25 ct25), sl25⟩)
    (c25 : PySem.W.codeIn K cd25 "Sampler.keyset" = true)
    (k25 : PySem.W.keepIn K (.ref f25) = true)
    (patrate : PySem.W.findIn K (.ref Cs) "rate" = some (some (.ref prate)))
    (pgetrate : PySem.W.specialIn K (.ref prate) "__get__" = some (some (.builtin "property.__get__")))
    (ptakrate : PySem.W.takesIn K (.ref prate) = some true)
    (precrate : PySem.W.recIn K prate "property" = some (.ref f26 :: restrate))
    (l26 : K.lookup f26 = some ⟨oc26, od26, .func (PySem.W.fnOf "rate" "Sampler.rate" (defArgs sSamplerRate) (defBody sSamplerRate) (defScope sSamplerRate) .none kV26 dc26 pm26 an26 cd26 ct26), sl26⟩)
    (c26 : PySem.W.codeIn K cd26 "Sampler.rate" = true)
    (k26 : PySem.W.keepIn K (.ref f26) = true)
    (patsalt : PySem.W.findIn K (.ref Cs) "salt" = some (some (.ref psalt)))
    (pgetsalt : PySem.W.specialIn K (.ref psalt) "__get__" = some (some (.builtin "property.__get__")))
    (ptaksalt : PySem.W.takesIn K (.ref psalt) = some true)
    (precsalt : PySem.W.recIn K psalt "property" = some (.ref f27 :: restsalt))
    (l27 : K.lookup f27 = some ⟨oc27, od27, .func (PySem.W.fnOf "salt" "Sampler.salt" (defArgs sSamplerSalt) (defBody sSamplerSalt) (defScope sSamplerSalt) .none kV27 dc27 pm27 an27 cd27 ct27), sl27⟩)
    (c27 : PySem.W.codeIn K cd27 "Sampler.salt" = true)
    (k27 : PySem.W.keepIn K (.ref f27) = true)
    (pattext : PySem.W.findIn K (.ref Cs) "text" = some (some (.ref ptext)))
    (pgettext : PySem.W.specialIn K (.ref ptext) "__get__" = some (some (.builtin "property.__get__")))
    (ptaktext : PySem.W.takesIn K (.ref ptext) = some true)
    (prectext : PySem.W.recIn K ptext "property" = some (.ref f28 :: resttext))
    (l28 : K.lookup f28 = some ⟨oc28, od28, .func (PySem.W.fnOf "text" "Sampler.text" (defArgs sSamplerText) (defBody sSamplerText) (defScope sSamplerText) .none kV28 dc28 pm28 an28 cd28 ct28), sl28⟩)
    (c28 : PySem.W.codeIn K cd28 "Sampler.text" = true)
    (k28 : PySem.W.keepIn K (.ref f28) = true)
    (a29 : PySem.W.findIn K (.ref Cs) "__eq__" = some (some (.ref f29)))
    (i29 : PySem.W.isFn K (.ref f29) = true)
    (l29 : K.lookup f29 = some ⟨oc29, od29, .func (PySem.W.fnOf "__eq__" "Sampler.__eq__" (defArgs sSamplerEq) (defBody sSamplerEq) (defScope sSamplerEq) .none kV29 dc29 pm29 an29 cd29 ct29), sl29⟩)
    (c29 : PySem.W.codeIn K cd29 "Sampler.__eq__" = true)
    (k29 : PySem.W.keepIn K (.ref f29) = true)
    (a30 : PySem.W.findIn K (.ref Cs) "at" = some (some (.ref f30)))
    (i30 : PySem.W.isFn K (.ref f30) = true)
    (l30 : K.lookup f30 = some ⟨oc30, od30, .func (PySem.W.fnOf "at" "Sampler.at" (defArgs sSamplerAt) (defBody sSamplerAt) (defScope sSamplerAt) .none kV30 dc30 pm30 an30 cd30 ct30), sl30⟩)
    (c30 : PySem.W.codeIn K cd30 "Sampler.at" = true)
    (k30 : PySem.W.keepIn K (.ref f30) = true)
    (a31 : PySem.W.nsIn K mainGlobals "sampler_parts" = some (some (.ref f31)))
    (l31 : K.lookup f31 = some ⟨oc31, od31, .func (PySem.W.fnOf "sampler_parts" "sampler_parts" (defArgs sSamplerParts) (defBody sSamplerParts) (defScope sSamplerParts) .none kV31 dc31 pm31 an31 cd31 ct31), sl31⟩)
    (c31 : PySem.W.codeIn K cd31 "sampler_parts" = true)
    (k31 : PySem.W.keepIn K (.ref f31) = true)
    (oat : PySem.W.findCls K (.ref Cs) (.type "type") "of" = some (.get (.builtin "staticmethod.__get__") (.ref pof) .none (.ref Cs)))
    (orec : PySem.W.recIn K pof "staticmethod" = some (.ref f32 :: restof))
    (ord : PySem.W.readsIn K Cs (.type "type") = true)
    (oga : PySem.W.specialIn K (.ref Cs) "__getattribute__" = some (some (.builtin "type.__getattribute__")))
    (l32 : K.lookup f32 = some ⟨oc32, od32, .func (PySem.W.fnOf "of" "Sampler.of" (defArgs sSamplerOf) (defBody sSamplerOf) (defScope sSamplerOf) .none kV32 dc32 pm32 an32 cd32 ct32), sl32⟩)
    (c32 : PySem.W.codeIn K cd32 "Sampler.of" = true)
    (k32 : PySem.W.keepIn K (.ref f32) = true)
    (a33 : PySem.W.nsIn K mainGlobals "_law_box" = some (some (.ref f33)))
    (l33 : K.lookup f33 = some ⟨oc33, od33, .func (PySem.W.fnOf "_law_box" "_law_box" (defArgs sLBox) (defBody sLBox) (defScope sLBox) .none kV33 dc33 pm33 an33 cd33 ct33), sl33⟩)
    (c33 : PySem.W.codeIn K cd33 "_law_box" = true)
    (k33 : PySem.W.keepIn K (.ref f33) = true)
    (a34 : PySem.W.nsIn K mainGlobals "_law_take" = some (some (.ref f34)))
    (l34 : K.lookup f34 = some ⟨oc34, od34, .func (PySem.W.fnOf "_law_take" "_law_take" (defArgs sLTake) (defBody sLTake) (defScope sLTake) .none kV34 dc34 pm34 an34 cd34 ct34), sl34⟩)
    (c34 : PySem.W.codeIn K cd34 "_law_take" = true)
    (k34 : PySem.W.keepIn K (.ref f34) = true)
    (a35 : PySem.W.nsIn K mainGlobals "_law_cells" = some (some (.ref f35)))
    (l35 : K.lookup f35 = some ⟨oc35, od35, .func (PySem.W.fnOf "_law_cells" "_law_cells" (defArgs sLCells) (defBody sLCells) (defScope sLCells) .none kV35 dc35 pm35 an35 cd35 ct35), sl35⟩)
    (c35 : PySem.W.codeIn K cd35 "_law_cells" = true)
    (k35 : PySem.W.keepIn K (.ref f35) = true)
    (a36 : PySem.W.nsIn K mainGlobals "_law_of" = some (some (.ref f36)))
    (l36 : K.lookup f36 = some ⟨oc36, od36, .func (PySem.W.fnOf "_law_of" "_law_of" (defArgs sLOf) (defBody sLOf) (defScope sLOf) .none kV36 dc36 pm36 an36 cd36 ct36), sl36⟩)
    (c36 : PySem.W.codeIn K cd36 "_law_of" = true)
    (k36 : PySem.W.keepIn K (.ref f36) = true)
    (a37 : PySem.W.nsIn K mainGlobals "_law_same" = some (some (.ref f37)))
    (l37 : K.lookup f37 = some ⟨oc37, od37, .func (PySem.W.fnOf "_law_same" "_law_same" (defArgs sLSame) (defBody sLSame) (defScope sLSame) .none kV37 dc37 pm37 an37 cd37 ct37), sl37⟩)
    (c37 : PySem.W.codeIn K cd37 "_law_same" = true)
    (k37 : PySem.W.keepIn K (.ref f37) = true)
    (a38 : PySem.W.nsIn K mainGlobals "_law_lists" = some (some (.ref f38)))
    (l38 : K.lookup f38 = some ⟨oc38, od38, .func (PySem.W.fnOf "_law_lists" "_law_lists" (defArgs sLLists) (defBody sLLists) (defScope sLLists) .none kV38 dc38 pm38 an38 cd38 ct38), sl38⟩)
    (c38 : PySem.W.codeIn K cd38 "_law_lists" = true)
    (k38 : PySem.W.keepIn K (.ref f38) = true)
    (a39 : PySem.W.nsIn K mainGlobals "_law_mixed" = some (some (.ref f39)))
    (l39 : K.lookup f39 = some ⟨oc39, od39, .func (PySem.W.fnOf "_law_mixed" "_law_mixed" (defArgs sLMixed) (defBody sLMixed) (defScope sLMixed) .none kV39 dc39 pm39 an39 cd39 ct39), sl39⟩)
    (c39 : PySem.W.codeIn K cd39 "_law_mixed" = true)
    (k39 : PySem.W.keepIn K (.ref f39) = true)
    (a40 : PySem.W.nsIn K mainGlobals "_law_few" = some (some (.ref f40)))
    (l40 : K.lookup f40 = some ⟨oc40, od40, .func (PySem.W.fnOf "_law_few" "_law_few" (defArgs sLFew) (defBody sLFew) (defScope sLFew) .none kV40 dc40 pm40 an40 cd40 ct40), sl40⟩)
    (c40 : PySem.W.codeIn K cd40 "_law_few" = true)
    (k40 : PySem.W.keepIn K (.ref f40) = true)
    (a41 : PySem.W.nsIn K mainGlobals "_law_book" = some (some (.ref f41)))
    (l41 : K.lookup f41 = some ⟨oc41, od41, .func (PySem.W.fnOf "_law_book" "_law_book" (defArgs sLBook) (defBody sLBook) (defScope sLBook) .none kV41 dc41 pm41 an41 cd41 ct41), sl41⟩)
    (c41 : PySem.W.codeIn K cd41 "_law_book" = true)
    (k41 : PySem.W.keepIn K (.ref f41) = true)
    (a42 : PySem.W.nsIn K mainGlobals "_law_told" = some (some (.ref f42)))
    (l42 : K.lookup f42 = some ⟨oc42, od42, .func (PySem.W.fnOf "_law_told" "_law_told" (defArgs sLTold) (defBody sLTold) (defScope sLTold) .none kV42 dc42 pm42 an42 cd42 ct42), sl42⟩)
    (c42 : PySem.W.codeIn K cd42 "_law_told" = true)
    (k42 : PySem.W.keepIn K (.ref f42) = true)
    (a43 : PySem.W.nsIn K mainGlobals "_law_wide" = some (some (.ref f43)))
    (l43 : K.lookup f43 = some ⟨oc43, od43, .func (PySem.W.fnOf "_law_wide" "_law_wide" (defArgs sLWide) (defBody sLWide) (defScope sLWide) .none kV43 dc43 pm43 an43 cd43 ct43), sl43⟩)
    (c43 : PySem.W.codeIn K cd43 "_law_wide" = true)
    (k43 : PySem.W.keepIn K (.ref f43) = true)
    (a44 : PySem.W.nsIn K mainGlobals "_law_rate" = some (some (.ref f44)))
    (l44 : K.lookup f44 = some ⟨oc44, od44, .func (PySem.W.fnOf "_law_rate" "_law_rate" (defArgs sLRate) (defBody sLRate) (defScope sLRate) .none kV44 dc44 pm44 an44 cd44 ct44), sl44⟩)
    (c44 : PySem.W.codeIn K cd44 "_law_rate" = true)
    (k44 : PySem.W.keepIn K (.ref f44) = true)
    (a45 : PySem.W.nsIn K mainGlobals "_law_rows" = some (some (.ref f45)))
    (l45 : K.lookup f45 = some ⟨oc45, od45, .func (PySem.W.fnOf "_law_rows" "_law_rows" (defArgs sLRows) (defBody sLRows) (defScope sLRows) .none kV45 dc45 pm45 an45 cd45 ct45), sl45⟩)
    (c45 : PySem.W.codeIn K cd45 "_law_rows" = true)
    (k45 : PySem.W.keepIn K (.ref f45) = true)
    (a46 : PySem.W.nsIn K mainGlobals "_law_refused" = some (some (.ref f46)))
    (l46 : K.lookup f46 = some ⟨oc46, od46, .func (PySem.W.fnOf "_law_refused" "_law_refused" (defArgs sLRefused) (defBody sLRefused) (defScope sLRefused) .none kV46 dc46 pm46 an46 cd46 ct46), sl46⟩)
    (c46 : PySem.W.codeIn K cd46 "_law_refused" = true)
    (k46 : PySem.W.keepIn K (.ref f46) = true)
    (a47 : PySem.W.nsIn K mainGlobals "_law_heard" = some (some (.ref f47)))
    (l47 : K.lookup f47 = some ⟨oc47, od47, .func (PySem.W.fnOf "_law_heard" "_law_heard" (defArgs sLHeard) (defBody sLHeard) (defScope sLHeard) .none kV47 dc47 pm47 an47 cd47 ct47), sl47⟩)
    (c47 : PySem.W.codeIn K cd47 "_law_heard" = true)
    (k47 : PySem.W.keepIn K (.ref f47) = true)
    (a48 : PySem.W.nsIn K mainGlobals "_law_by_hand_right" = some (some (.ref f48)))
    (l48 : K.lookup f48 = some ⟨oc48, od48, .func (PySem.W.fnOf "_law_by_hand_right" "_law_by_hand_right" (defArgs sLByHandRight) (defBody sLByHandRight) (defScope sLByHandRight) .none kV48 dc48 pm48 an48 cd48 ct48), sl48⟩)
    (c48 : PySem.W.codeIn K cd48 "_law_by_hand_right" = true)
    (k48 : PySem.W.keepIn K (.ref f48) = true)
    (a49 : PySem.W.nsIn K mainGlobals "_law_right" = some (some (.ref f49)))
    (l49 : K.lookup f49 = some ⟨oc49, od49, .func (PySem.W.fnOf "_law_right" "_law_right" (defArgs sLRight) (defBody sLRight) (defScope sLRight) .none kV49 dc49 pm49 an49 cd49 ct49), sl49⟩)
    (c49 : PySem.W.codeIn K cd49 "_law_right" = true)
    (k49 : PySem.W.keepIn K (.ref f49) = true)
    (a50 : PySem.W.nsIn K mainGlobals "law" = some (some (.ref f50)))
    (l50 : K.lookup f50 = some ⟨oc50, od50, .func (PySem.W.fnOf "law" "law" (defArgs sLaw) (defBody sLaw) (defScope sLaw) .none kV50 dc50 pm50 an50 cd50 ct50), sl50⟩)
    (c50 : PySem.W.codeIn K cd50 "law" = true)
    (k50 : PySem.W.keepIn K (.ref f50) = true)
    (lN : K.lookup Cn = some (excClassObj nmN qN Cn NN bsN leMro true snN subN abN colN ddN k0N k1N k2N k3N k5N "LookupError.__new__"))
    (saN : PySem.W.findIn K (.ref Cn) "__setattr__" = some (some (.builtin "object.__setattr__")))
    (exN : PySem.W.subIn K (.ref Cn) (.type "BaseException") = some true)
    (tyN : PySem.W.typeIn K (.ref Cn) = some (.type "type"))
    (kN : PySem.W.keepIn K (.ref Cn) = true)
    (no_N : PySem.W.findIn K (.ref Cn) "name" = some none)
    (hdN : PySem.W.hasDictIn K Cn = true)
    (gaN : PySem.W.findIn K (.ref Cn) "__getattribute__" = some (some (.builtin "BaseException.__getattribute__")))
    (ggN : PySem.W.findIn K (.ref Cn) "__getattr__" = some none)
    (caN : PySem.W.findIn K (.ref Cn) "__class__" = some (some (.builtin "object.__class__")))
    (hmN : PySem.W.mroIn K Cn (.type "object") = some true)
    (ssN : PySem.W.subIn K (.ref Cn) (.ref Cn) = some true)
    (kNB : PySem.W.kitOne K (.ref Cn) (.ref Cb) = some false)
    (kNT : PySem.W.kitOne K (.ref Cn) (.ref Ct) = some false)
    (kNH : PySem.W.kitOne K (.ref Cn) (.ref Ch) = some false)
    (kNM : PySem.W.kitOne K (.ref Cn) (.ref Cm) = some false)
    (lB : K.lookup Cb = some (excClassObj nmB qB Cb NB bsB veMro true snB subB abB colB ddB k0B k1B k2B k3B k5B "ValueError.__new__"))
    (saB : PySem.W.findIn K (.ref Cb) "__setattr__" = some (some (.builtin "object.__setattr__")))
    (exB : PySem.W.subIn K (.ref Cb) (.type "BaseException") = some true)
    (tyB : PySem.W.typeIn K (.ref Cb) = some (.type "type"))
    (kB : PySem.W.keepIn K (.ref Cb) = true)
    (no_B : PySem.W.findIn K (.ref Cb) "given" = some none)
    (hdB : PySem.W.hasDictIn K Cb = true)
    (gaB : PySem.W.findIn K (.ref Cb) "__getattribute__" = some (some (.builtin "BaseException.__getattribute__")))
    (ggB : PySem.W.findIn K (.ref Cb) "__getattr__" = some none)
    (caB : PySem.W.findIn K (.ref Cb) "__class__" = some (some (.builtin "object.__class__")))
    (hmB : PySem.W.mroIn K Cb (.type "object") = some true)
    (ssB : PySem.W.subIn K (.ref Cb) (.ref Cb) = some true)
    (kBN : PySem.W.kitOne K (.ref Cb) (.ref Cn) = some false)
    (kBT : PySem.W.kitOne K (.ref Cb) (.ref Ct) = some false)
    (kBH : PySem.W.kitOne K (.ref Cb) (.ref Ch) = some false)
    (kBM : PySem.W.kitOne K (.ref Cb) (.ref Cm) = some false)
    (kvB : PySem.W.kitOne K (.ref Cb) (.type "ValueError") = some true)
    (lT : K.lookup Ct = some (excClassObj nmT qT Ct NT bsT veMro true snT subT abT colT ddT k0T k1T k2T k3T k5T "ValueError.__new__"))
    (saT : PySem.W.findIn K (.ref Ct) "__setattr__" = some (some (.builtin "object.__setattr__")))
    (exT : PySem.W.subIn K (.ref Ct) (.type "BaseException") = some true)
    (tyT : PySem.W.typeIn K (.ref Ct) = some (.type "type"))
    (kT : PySem.W.keepIn K (.ref Ct) = true)
    (no_T : PySem.W.findIn K (.ref Ct) "given" = some none)
    (hdT : PySem.W.hasDictIn K Ct = true)
    (gaT : PySem.W.findIn K (.ref Ct) "__getattribute__" = some (some (.builtin "BaseException.__getattribute__")))
    (ggT : PySem.W.findIn K (.ref Ct) "__getattr__" = some none)
    (caT : PySem.W.findIn K (.ref Ct) "__class__" = some (some (.builtin "object.__class__")))
    (hmT : PySem.W.mroIn K Ct (.type "object") = some true)
    (ssT : PySem.W.subIn K (.ref Ct) (.ref Ct) = some true)
    (kTN : PySem.W.kitOne K (.ref Ct) (.ref Cn) = some false)
    (kTB : PySem.W.kitOne K (.ref Ct) (.ref Cb) = some false)
    (kTH : PySem.W.kitOne K (.ref Ct) (.ref Ch) = some false)
    (kTM : PySem.W.kitOne K (.ref Ct) (.ref Cm) = some false)
    (kvT : PySem.W.kitOne K (.ref Ct) (.type "ValueError") = some true)
    (lH : K.lookup Ch = some (excClassObj nmH qH Ch NH bsH veMro true snH subH abH colH ddH k0H k1H k2H k3H k5H "ValueError.__new__"))
    (saH : PySem.W.findIn K (.ref Ch) "__setattr__" = some (some (.builtin "object.__setattr__")))
    (exH : PySem.W.subIn K (.ref Ch) (.type "BaseException") = some true)
    (tyH : PySem.W.typeIn K (.ref Ch) = some (.type "type"))
    (kH : PySem.W.keepIn K (.ref Ch) = true)
    (no_H : PySem.W.findIn K (.ref Ch) "given" = some none)
    (hdH : PySem.W.hasDictIn K Ch = true)
    (gaH : PySem.W.findIn K (.ref Ch) "__getattribute__" = some (some (.builtin "BaseException.__getattribute__")))
    (ggH : PySem.W.findIn K (.ref Ch) "__getattr__" = some none)
    (caH : PySem.W.findIn K (.ref Ch) "__class__" = some (some (.builtin "object.__class__")))
    (hmH : PySem.W.mroIn K Ch (.type "object") = some true)
    (ssH : PySem.W.subIn K (.ref Ch) (.ref Ch) = some true)
    (kHN : PySem.W.kitOne K (.ref Ch) (.ref Cn) = some false)
    (kHB : PySem.W.kitOne K (.ref Ch) (.ref Cb) = some false)
    (kHT : PySem.W.kitOne K (.ref Ch) (.ref Ct) = some false)
    (kHM : PySem.W.kitOne K (.ref Ch) (.ref Cm) = some false)
    (kvH : PySem.W.kitOne K (.ref Ch) (.type "ValueError") = some true)
    (exM : PySem.W.subIn K (.ref Cm) (.type "BaseException") = some true)
    (hnN : PySem.W.specialIn K (.builtin "object.__class__") "__get__" = some (some (.builtin "getset_descriptor.__get__")))
    (htN : PySem.W.takesIn K (.builtin "object.__class__") = some true)
    (zVE : PySem.W.nsIn K mainGlobals "ValueError" = some none)
    (aLet : PySem.W.nsIn K mainGlobals "LETTERS" = some (some (.str alpha tkL)))
    (aDig : PySem.W.nsIn K mainGlobals "DIGITS" = some (some (.str digs tkD)))
    (aGcd : PySem.W.nsIn K mainGlobals "gcd" = some (some (.builtin "math.gcd")))
    (ksCs : PySem.W.kitOne K (.type "str") (.ref Cs) = some false)
    (nsCs : PySem.W.notFirst K Cs (.type "str") = true)
    (haC : PySem.W.findIn K (.ref C) "__class__" = some (some (.builtin "object.__class__")))
    (hmC : PySem.W.mroIn K C (.type "object") = some true)
    (ktC : PySem.W.kitOne K (.type "tuple") (.ref C) = some false)
    (ntC : PySem.W.notFirst K C (.type "tuple") = true)
    (neC : PySem.W.findIn K (.ref C) "__ne__" = some (some (.builtin "object.__ne__")))
    (pgC : PySem.W.plainGet K C Str.empty = true)
    (hdC : PySem.W.hasDictIn K C = true)
    (poC : PySem.W.plainOver K C = true)
    (saC : PySem.W.findIn K (.ref C) "__setattr__" = some (some (.builtin "object.__setattr__")))
    (mkC : PySem.W.makesIn K C = true)
    (kcC : PySem.W.keepIn K (.ref C) = true)
    (n1C : PySem.W.findIn K (.ref C) "_names" = some none)
    (n2C : PySem.W.findIn K (.ref C) "_pairs" = some none)
    (n3C : PySem.W.findIn K (.ref C) "_told" = some none)
    (n4C : PySem.W.findIn K (.ref C) "_keysets" = some none)
    (haCs : PySem.W.findIn K (.ref Cs) "__class__" = some (some (.builtin "object.__class__")))
    (hmCs : PySem.W.mroIn K Cs (.type "object") = some true)
    (ktCs : PySem.W.kitOne K (.type "tuple") (.ref Cs) = some false)
    (ntCs : PySem.W.notFirst K Cs (.type "tuple") = true)
    (neCs : PySem.W.findIn K (.ref Cs) "__ne__" = some (some (.builtin "object.__ne__")))
    (pgCs : PySem.W.plainGet K Cs Str.empty = true)
    (hdCs : PySem.W.hasDictIn K Cs = true)
    (poCs : PySem.W.plainOver K Cs = true)
    (saCs : PySem.W.findIn K (.ref Cs) "__setattr__" = some (some (.builtin "object.__setattr__")))
    (mkCs : PySem.W.makesIn K Cs = true)
    (kcCs : PySem.W.keepIn K (.ref Cs) = true)
    (n1Cs : PySem.W.findIn K (.ref Cs) "_schema" = some none)
    (n2Cs : PySem.W.findIn K (.ref Cs) "_keyset" = some none)
    (n3Cs : PySem.W.findIn K (.ref Cs) "_rate" = some none)
    (n4Cs : PySem.W.findIn K (.ref Cs) "_salt" = some none)
    (aI0 : PySem.W.nsIn K mainGlobals "ITSELF" = some (some (.ref aI)))
    (lI : K.lookup aI = some ⟨.type "tuple", oI, .seq #[.str "#" tI] nI, slI⟩)
    (z_tuple : PySem.W.nsIn K mainGlobals "tuple" = some none)
    (z_list : PySem.W.nsIn K mainGlobals "list" = some none)
    (z_all : PySem.W.nsIn K mainGlobals "all" = some none)
    (z_any : PySem.W.nsIn K mainGlobals "any" = some none)
    (z_sorted : PySem.W.nsIn K mainGlobals "sorted" = some none)
    (z_set : PySem.W.nsIn K mainGlobals "set" = some none)
    (z_len : PySem.W.nsIn K mainGlobals "len" = some none)
    (z_int : PySem.W.nsIn K mainGlobals "int" = some none)
    (z_abs : PySem.W.nsIn K mainGlobals "abs" = some none)
    (z_str : PySem.W.nsIn K mainGlobals "str" = some none)
    (z_dict : PySem.W.nsIn K mainGlobals "dict" = some none)
    (z_bool : PySem.W.nsIn K mainGlobals "bool" = some none)
    (z_range : PySem.W.nsIn K mainGlobals "range" = some none)
    (z_enumerate : PySem.W.nsIn K mainGlobals "enumerate" = some none)
    (z_zip : PySem.W.nsIn K mainGlobals "zip" = some none)
    (z_isinstance : PySem.W.nsIn K mainGlobals "isinstance" = some none) :
    ∃ fd : FuncData, (∀ (s : Shared) (v : Value), BindsTo s fd ⟨[v], []⟩ [("_law_script", v)]) ∧ ∀ base : Heap, K.In base → base.Ns mainGlobals mg → FnOk l.prog w K mg base CX0 12 fa fd ["_law_script"] (spLaw K) := by
  have e := hfa.symm.trans (PySem.W.mg_of X G a50)
  cases e
  have itself : ∀ H, Dp K H (.ref aI) (tp ["#"]) := fun H => .tup (show SqT K H aI [V.str "#"] from .inr ⟨_, #[.str "#" tI], nI, lI, rfl, rfl, by show 1 ≤ sizeLine; decide, .cons ⟨tI, rfl⟩ .nil⟩) (.cons (.str _) .nil)
  have T : Tx K mg aI := ⟨PySem.W.mg_of X G aI0, itself, PySem.W.mg_none_of X G z_tuple, PySem.W.mg_none_of X G z_list, PySem.W.mg_none_of X G z_all, PySem.W.mg_none_of X G z_any, PySem.W.mg_none_of X G z_sorted, PySem.W.mg_none_of X G z_set, PySem.W.mg_none_of X G z_len⟩
  have Ti : Ty K mg := ⟨PySem.W.mg_none_of X G z_int, PySem.W.mg_none_of X G z_abs, PySem.W.mg_none_of X G z_str, PySem.W.mg_none_of X G z_dict, PySem.W.mg_none_of X G z_bool, PySem.W.mg_none_of X G z_range, PySem.W.mg_none_of X G z_enumerate, PySem.W.mg_none_of X G z_zip, PySem.W.mg_none_of X G z_isinstance⟩
  have Tc : Kc K C := ⟨⟨pgC, hdC, poC, saC⟩, n1C, n2C, n3C, n4C⟩
  have S : Sc K Cs := ⟨⟨pgCs, hdCs, poCs, saCs⟩, n1Cs, n2Cs, n3Cs, n4Cs⟩
  have F1 := fun_mk (st := sFrozen) l1 c1 k1
  have b1 := F1.binds (ps := ["value"]) fun _ _ _ _ _ _ us hl => match us, hl with | [_], _ => rfl
  have F2 := fun_mk (st := sIsShare) l2 c2 k2
  have b2 := F2.binds (ps := ["pair"]) fun _ _ _ _ _ _ us hl => match us, hl with | [_], _ => rfl
  have F3 := fun_mk (st := sShareText) l3 c3 k3
  have b3 := F3.binds (ps := ["share"]) fun _ _ _ _ _ _ us hl => match us, hl with | [_], _ => rfl
  have F4 := fun_mk (st := sIsDigits) l4 c4 k4
  have b4 := F4.binds (ps := ["text"]) fun _ _ _ _ _ _ us hl => match us, hl with | [_], _ => rfl
  have F5 := fun_mk (st := sShareIn) l5 c5 k5
  have b5 := F5.binds (ps := ["text"]) fun _ _ _ _ _ _ us hl => match us, hl with | [_], _ => rfl
  have F6 := fun_mk (st := sIsSalt) l6 c6 k6
  have b6 := F6.binds (ps := ["text"]) fun _ _ _ _ _ _ us hl => match us, hl with | [_], _ => rfl
  have F7 := fun_mk (st := sIsName) l7 c7 k7
  have b7 := F7.binds (ps := ["text"]) fun _ _ _ _ _ _ us hl => match us, hl with | [_], _ => rfl
  have F8 := fun_mk (st := sWordsOf) l8 c8 k8
  have b8 := F8.binds (ps := ["text"]) fun _ _ _ _ _ _ us hl => match us, hl with | [_], _ => rfl
  have F9 := fun_mk (st := sNoNameInit) l9 c9 k9
  have b9 := F9.binds (ps := ["self", "name"]) fun _ _ _ _ _ _ us hl => match us, hl with | [_, _], _ => rfl
  have F10 := fun_mk (st := sBadSamplerInit) l10 c10 k10
  have b10 := F10.binds (ps := ["self", "given"]) fun _ _ _ _ _ _ us hl => match us, hl with | [_, _], _ => rfl
  have F11 := fun_mk (st := sBadSaltInit) l11 c11 k11
  have b11 := F11.binds (ps := ["self", "given"]) fun _ _ _ _ _ _ us hl => match us, hl with | [_, _], _ => rfl
  have F12 := fun_mk (st := sBadShareInit) l12 c12 k12
  have b12 := F12.binds (ps := ["self", "given"]) fun _ _ _ _ _ _ us hl => match us, hl with | [_, _], _ => rfl
  have F13 := fun_mk (st := sCheckNames) l13 c13 k13
  have b13 := F13.binds (ps := ["names", "asked"]) fun _ _ _ _ _ _ us hl => match us, hl with | [_, _], _ => rfl
  have F14 := fun_mk (st := sAllPairs) l14 c14 k14
  have b14 := F14.binds (ps := ["names", "tells"]) fun _ _ _ _ _ _ us hl => match us, hl with | [_, _], _ => rfl
  have F15 := fun_mk (st := sAllTold) l15 c15 k15
  have b15 := F15.binds (ps := ["pairs", "name"]) fun _ _ _ _ _ _ us hl => match us, hl with | [_, _], _ => rfl
  have F16 := fun_mk (st := sIsClosed) l16 c16 k16
  have b16 := F16.binds (ps := ["pairs", "part"]) fun _ _ _ _ _ _ us hl => match us, hl with | [_, _], _ => rfl
  have F17 := fun_mk (st := sAllKeysets) l17 c17 k17
  have b17 := F17.binds (ps := ["names", "pairs"]) fun _ _ _ _ _ _ us hl => match us, hl with | [_, _], _ => rfl
  have F18 : FunV K "__init__" "Keys.__init__" sKeysInit f18 _ := ⟨⟨_, _, _, _, _, _, _, _, _, _, rfl, l18, c18⟩⟩
  have D18 : FunD K "__init__" "Keys.__init__" (defArgs sKeysInit) (defBody sKeysInit) (defScope sKeysInit) [V.ref e0] [] f18 _ := ⟨⟨_, _, _, _, _, _, _, _, _, _, rfl, l18, c18, .inr ⟨(fun z => nomatch z), T0, _, [.ref e0], nT, rfl, lT0, rfl, .cons rfl .nil⟩, .inl rfl⟩, k18⟩
  obtain ⟨ds0, v0, b18⟩ := D18.binds1 (ps := ["self", "names", "tells"]) 3 1 (fun z => nomatch z) rfl fun T kV doc pm an cdv ct us its hu hi => match us, its, hu, hi with | [_, _, _], [_], _, _ => ⟨_, rfl, rfl⟩
  cases v0
  obtain ⟨ds1, v1, b1x⟩ := D18.binds1 (ps := ["self", "names", "tells"]) 2 0 (fun z => nomatch z) rfl fun T kV doc pm an cdv ct us its hu hi => match us, its, hu, hi with | [_, _], [_], _, _ => ⟨_, rfl, rfl⟩
  have e0d : ∀ H, Dp K H (.ref e0) (.tuple []) := fun H => .tup (show SqT K H e0 [] from .inr ⟨_, #[], nE, lE, rfl, rfl, by show 0 ≤ sizeLine; decide, .nil⟩) .nil
  have F19 := fun_mk (st := sKeysEq) l19 c19 k19
  have b19 := F19.binds (ps := ["self", "other"]) fun _ _ _ _ _ _ us hl => match us, hl with | [_, _], _ => rfl
  have F20 := fun_mk (st := sKeysClosed) l20 c20 k20
  have b20 := F20.binds (ps := ["self", "names"]) fun _ _ _ _ _ _ us hl => match us, hl with | [_, _], _ => rfl
  have F21 := fun_mk (st := sKeysetText) l21 c21 k21
  have b21 := F21.binds (ps := ["keyset"]) fun _ _ _ _ _ _ us hl => match us, hl with | [_], _ => rfl
  have F22 := fun_mk (st := sNamesInText) l22 c22 k22
  have b22 := F22.binds (ps := ["text"]) fun _ _ _ _ _ _ us hl => match us, hl with | [_], _ => rfl
  have F23 : FunV K "__init__" "Sampler.__init__" sSamplerInit f23 _ := ⟨⟨_, _, _, _, _, _, _, _, _, _, rfl, l23, c23⟩⟩
  have D23 : FunD K "__init__" "Sampler.__init__" (defArgs sSamplerInit) (defBody sSamplerInit) (defScope sSamplerInit) [] [("salt", V.str "")] f23 _ := ⟨⟨_, _, _, _, _, _, _, _, _, _, rfl, l23, c23, .inl ⟨rfl, rfl⟩, .inr ⟨D0, rfl, fun q m => by rw [List.mem_singleton.mp m]; exact ⟨_, lD0, ⟨tkS, rfl⟩⟩⟩⟩, k23⟩
  obtain ⟨ds3, v3, b3x⟩ := D23.binds0 (ps := ["self", "keys", "names", "rate", "salt"]) 4 (fun z => nomatch z) rfl fun D doc pm an cdv ct us ks hu hk => match us, ks, hu, hk with | [_, _, _, _], [_], _, _ => ⟨_, _, _, _, _, _, rfl, rfl, rfl⟩
  have F24 := fun_mk (st := sSamplerSchema) l24 c24 k24
  have b24 := F24.binds (ps := ["self"]) fun _ _ _ _ _ _ us hl => match us, hl with | [_], _ => rfl
  have F25 := fun_mk (st := sSamplerKeyset) l25 c25 k25
  have b25 := F25.binds (ps := ["self"]) fun _ _ _ _ _ _ us hl => match us, hl with | [_], _ => rfl
  have F26 := fun_mk (st := sSamplerRate) l26 c26 k26
  have b26 := F26.binds (ps := ["self"]) fun _ _ _ _ _ _ us hl => match us, hl with | [_], _ => rfl
  have F27 := fun_mk (st := sSamplerSalt) l27 c27 k27
  have b27 := F27.binds (ps := ["self"]) fun _ _ _ _ _ _ us hl => match us, hl with | [_], _ => rfl
  have F28 := fun_mk (st := sSamplerText) l28 c28 k28
  have b28 := F28.binds (ps := ["self"]) fun _ _ _ _ _ _ us hl => match us, hl with | [_], _ => rfl
  have F29 := fun_mk (st := sSamplerEq) l29 c29 k29
  have b29 := F29.binds (ps := ["self", "other"]) fun _ _ _ _ _ _ us hl => match us, hl with | [_, _], _ => rfl
  have F30 := fun_mk (st := sSamplerAt) l30 c30 k30
  have b30 := F30.binds (ps := ["self", "rate"]) fun _ _ _ _ _ _ us hl => match us, hl with | [_, _], _ => rfl
  have F31 := fun_mk (st := sSamplerParts) l31 c31 k31
  have b31 := F31.binds (ps := ["text"]) fun _ _ _ _ _ _ us hl => match us, hl with | [_], _ => rfl
  have F32 := fun_mk (st := sSamplerOf) l32 c32 k32
  have b32 := F32.binds (ps := ["keys", "text"]) fun _ _ _ _ _ _ us hl => match us, hl with | [_, _], _ => rfl
  have F33 := fun_mk (st := sLBox) l33 c33 k33
  have b33 := F33.binds (ps := ["_law_script", "_law_k"]) fun _ _ _ _ _ _ us hl => match us, hl with | [_, _], _ => rfl
  have F34 := fun_mk (st := sLTake) l34 c34 k34
  have b34 := F34.binds (ps := ["_law_urn", "_law_low_so"]) fun _ _ _ _ _ _ us hl => match us, hl with | [_, _], _ => rfl
  have F35 := fun_mk (st := sLCells) l35 c35 k35
  have b35 := F35.binds (ps := ["_law_script", "_law_top"]) fun _ _ _ _ _ _ us hl => match us, hl with | [_, _], _ => rfl
  have F36 := fun_mk (st := sLOf) l36 c36 k36
  have b36 := F36.binds (ps := ["_law_urn", "_law_some_so"]) fun _ _ _ _ _ _ us hl => match us, hl with | [_, _], _ => rfl
  have F37 := fun_mk (st := sLSame) l37 c37 k37
  have b37 := F37.binds (ps := ["_law_got", "_law_goal"]) fun _ _ _ _ _ _ us hl => match us, hl with | [_, _], _ => rfl
  have F38 := fun_mk (st := sLLists) l38 c38 k38
  have b38 := F38.binds (ps := ["_law_thing_so"]) fun _ _ _ _ _ _ us hl => match us, hl with | [_], _ => rfl
  have F39 := fun_mk (st := sLMixed) l39 c39 k39
  have b39 := F39.binds (ps := ["_law_urn", "_law_pool"]) fun _ _ _ _ _ _ us hl => match us, hl with | [_, _], _ => rfl
  have F40 := fun_mk (st := sLFew) l40 c40 k40
  have b40 := F40.binds (ps := ["_law_urn", "_law_pool", "_law_most_so"]) fun _ _ _ _ _ _ us hl => match us, hl with | [_, _, _], _ => rfl
  have F41 := fun_mk (st := sLBook) l41 c41 k41
  have b41 := F41.binds (ps := ["_law_urn", "_law_most_so"]) fun _ _ _ _ _ _ us hl => match us, hl with | [_, _], _ => rfl
  have F42 := fun_mk (st := sLTold) l42 c42 k42
  have b42 := F42.binds (ps := ["_law_book_here"]) fun _ _ _ _ _ _ us hl => match us, hl with | [_], _ => rfl
  have F43 := fun_mk (st := sLWide) l43 c43 k43
  have b43 := F43.binds (ps := ["_law_book_here", "_law_bag"]) fun _ _ _ _ _ _ us hl => match us, hl with | [_, _], _ => rfl
  have F44 := fun_mk (st := sLRate) l44 c44 k44
  have b44 := F44.binds (ps := ["_law_urn"]) fun _ _ _ _ _ _ us hl => match us, hl with | [_], _ => rfl
  have F45 := fun_mk (st := sLRows) l45 c45 k45
  have b45 := F45.binds (ps := ["_law_urn", "_law_book_here", "_law_most_so"]) fun _ _ _ _ _ _ us hl => match us, hl with | [_, _, _], _ => rfl
  have F46 := fun_mk (st := sLRefused) l46 c46 k46
  have b46 := F46.binds (ps := ["_law_caught"]) fun _ _ _ _ _ _ us hl => match us, hl with | [_], _ => rfl
  have F47 := fun_mk (st := sLHeard) l47 c47 k47
  have b47 := F47.binds (ps := ["_law_keyring", "_law_bag", "_law_rate_so", "_law_salt_so", "_law_flat"]) fun _ _ _ _ _ _ us hl => match us, hl with | [_, _, _, _, _], _ => rfl
  have F48 := fun_mk (st := sLByHandRight) l48 c48 k48
  have b48 := F48.binds (ps := []) fun _ _ _ _ _ _ us hl => match us, hl with | [], _ => rfl
  have F49 := fun_mk (st := sLRight) l49 c49 k49
  have b49 := F49.binds (ps := ["_law_urn"]) fun _ _ _ _ _ _ us hl => match us, hl with | [_], _ => rfl
  have F50 := fun_mk (st := sLaw) l50 c50 k50
  have b50 := F50.binds (ps := ["_law_script"]) fun _ _ _ _ _ _ us hl => match us, hl with | [_], _ => rfl
  refine ⟨PySem.W.fnOf "law" "law" (defArgs sLaw) (defBody sLaw) (defScope sLaw) .none kV50 dc50 pm50 an50 cd50 ct50, fun s v => .of_eq rfl, fun base _ _ => ?_⟩
  have Cfrozen : Cal l.prog w K mg base 3 "frozen" ["value"] (spD K (fzP 2)) f1 _ := ⟨PySem.W.mg_of X G a1, k1, b1, ok_frozen F1 T Ti.isinstance (PySem.W.mg_of X G a1) k1 b1 2⟩
  have Cis_share : Cal l.prog w K mg base 1 "is_share" ["pair"] (spD K isP) f2 _ := ⟨PySem.W.mg_of X G a2, k2, b2, ok_is_share F2 (PySem.W.mg_of X G aGcd)⟩
  have Cshare_text : Cal l.prog w K mg base 1 "share_text" ["share"] (spD K stP) f3 _ := ⟨PySem.W.mg_of X G a3, k3, b3, ok_share_text F3⟩
  have Cis_digits : Cal l.prog w K mg base 1 "is_digits" ["text"] (spD K dgP) f4 _ := ⟨PySem.W.mg_of X G a4, k4, b4, ok_is_digits F4 T (PySem.W.mg_of X G aDig)⟩
  have Cshare_in : Cal l.prog w K mg base 2 "share_in" ["text"] (spD K siP) f5 _ := ⟨PySem.W.mg_of X G a5, k5, b5, ok_share_in F5 Ti.int Cis_digits Cis_share Cshare_text⟩
  have Cis_salt : Cal l.prog w K mg base 1 "is_salt" ["text"] (spD K saP) f6 _ := ⟨PySem.W.mg_of X G a6, k6, b6, ok_is_salt F6 T (PySem.W.mg_of X G aLet)⟩
  have Cis_name : Cal l.prog w K mg base 2 "is_name" ["text"] (spD K naP) f7 _ := ⟨PySem.W.mg_of X G a7, k7, b7, ok_is_name F7 T Cis_salt⟩
  have Cwords_of : Cal l.prog w K mg base 1 "words_of" ["text"] (spD K woP) f8 _ := ⟨PySem.W.mg_of X G a8, k8, b8, ok_words_of F8 T⟩
  have ownN : Own K "LookupError.__new__" leMro Cn := ⟨⟨_, _, _, _, _, _, _, _, _, _, _, _, _, _, lN⟩, saN, exN, tyN, kN⟩
  have clN : (PySem.W.clsIn K Cn).isSome = true := by obtain ⟨cd, e, _⟩ := ownN.clsIn; rw [e]; rfl
  have excN : ExC K Cn := ⟨clN, hdN, gaN, ggN, exN, caN, hnN, htN, hmN⟩
  have N : Nn K mg Cn f9 := ⟨ownN, a9, i9, PySem.W.mg_of X G agN, no_N, excN⟩
  have NI : NnI l.prog w K mg base Cn f9 _ := ⟨N, ok_nn F9 N, b9⟩
  have Tk : Tk K C := ⟨haC, hnN, htN, hmC, ktC, ntC, neC⟩
  have Tks_ : Tks K Cs := ⟨haCs, hnN, htN, hmCs, ktCs, ksCs, ntCs, nsCs, neCs⟩
  have ownB : Own K "ValueError.__new__" veMro Cb := ⟨⟨_, _, _, _, _, _, _, _, _, _, _, _, _, _, lB⟩, saB, exB, tyB, kB⟩
  have clB : (PySem.W.clsIn K Cb).isSome = true := by obtain ⟨cd, e, _⟩ := ownB.clsIn; rw [e]; rfl
  have excB : ExC K Cb := ⟨clB, hdB, gaB, ggB, exB, caB, hnN, htN, hmB⟩
  have ENB : En K mg Cb f10 "BadSampler" "given" := ⟨ownB, a10, i10, PySem.W.mg_of X G agB, no_B, excB⟩
  have BI : EnI l.prog w K mg base Cb f10 "BadSampler" "given" 1 (spE1 K Cb "given") _ := ⟨ENB, ok_badsampler F10 ENB, b10⟩
  have ownT : Own K "ValueError.__new__" veMro Ct := ⟨⟨_, _, _, _, _, _, _, _, _, _, _, _, _, _, lT⟩, saT, exT, tyT, kT⟩
  have clT : (PySem.W.clsIn K Ct).isSome = true := by obtain ⟨cd, e, _⟩ := ownT.clsIn; rw [e]; rfl
  have excT : ExC K Ct := ⟨clT, hdT, gaT, ggT, exT, caT, hnN, htN, hmT⟩
  have ENT : En K mg Ct f11 "BadSalt" "given" := ⟨ownT, a11, i11, PySem.W.mg_of X G agT, no_T, excT⟩
  have TI : EnI l.prog w K mg base Ct f11 "BadSalt" "given" 1 (spE1 K Ct "given") _ := ⟨ENT, ok_badsalt F11 ENT, b11⟩
  have ownH : Own K "ValueError.__new__" veMro Ch := ⟨⟨_, _, _, _, _, _, _, _, _, _, _, _, _, _, lH⟩, saH, exH, tyH, kH⟩
  have clH : (PySem.W.clsIn K Ch).isSome = true := by obtain ⟨cd, e, _⟩ := ownH.clsIn; rw [e]; rfl
  have excH : ExC K Ch := ⟨clH, hdH, gaH, ggH, exH, caH, hnN, htN, hmH⟩
  have ENH : En K mg Ch f12 "BadShare" "given" := ⟨ownH, a12, i12, PySem.W.mg_of X G agH, no_H, excH⟩
  have HI : EnI l.prog w K mg base Ch f12 "BadShare" "given" 4 (spSh K Ch) _ := ⟨ENH, ok_badshare F12 ENH Cfrozen, b12⟩
  have Cs5_ : Cs5 K mg Cn Ch Ct Cb Cm := ⟨PySem.W.mg_of X G aCm, exm_5 (exm_no exT kNT) (exm_no exB kNB) (exm_no exH kNH) (exm_no exM kNM) (exm_me exN clN tyN ssN), exm_5 (exm_no exT kHT) (exm_no exB kHB) (exm_me exH clH tyH ssH) (exm_no exM kHM) (exm_no exN kHN), exm_5 (exm_me exT clT tyT ssT) (exm_no exB kTB) (exm_no exH kTH) (exm_no exM kTM) (exm_no exN kTN), exm_5 (exm_no exT kBT) (exm_me exB clB tyB ssB) (exm_no exH kBH) (exm_no exM kBM) (exm_no exN kBN)⟩
  have RfK_ : RfK K mg Cn Ch Ct Cb := ⟨PySem.W.mg_of X G agN, PySem.W.mg_of X G agH, PySem.W.mg_of X G agT, PySem.W.mg_of X G agB, PySem.W.mg_none_of X G zVE, excN, excH, excT, excB, no_N, no_H, no_T, no_B, kHN, kTN, kBN, kvH, kvT, kvB, kTH, kBH, kBT⟩
  have Ccheck_names : CalX l.prog w K mg base 3 "check_names" ["names", "asked"] (spCn K Cn) f13 _ := ⟨PySem.W.mg_of X G a13, k13, b13, ok_check_names F13 NI⟩
  have Call_pairs : Cal l.prog w K mg base 4 "all_pairs" ["names", "tells"] (spD K apP) f14 _ := ⟨PySem.W.mg_of X G a14, k14, b14, ok_all_pairs F14 T Ccheck_names⟩
  have Call_told : Cal l.prog w K mg base 1 "all_told" ["pairs", "name"] (spD K atP) f15 _ := ⟨PySem.W.mg_of X G a15, k15, b15, ok_all_told F15 T⟩
  have Cis_closed : Cal l.prog w K mg base 1 "is_closed" ["pairs", "part"] (spD K icP) f16 _ := ⟨PySem.W.mg_of X G a16, k16, b16, ok_is_closed F16 T⟩
  have Call_keysets : Cal l.prog w K mg base 2 "all_keysets" ["names", "pairs"] (spD K akP) f17 _ := ⟨PySem.W.mg_of X G a17, k17, b17, ok_all_keysets F17 T Cis_closed⟩
  have MK : MkK l.prog w K mg base C f18 e0 _ ds1 := ⟨⟨mkC, a18, i18, kcC⟩, ok_init F18 T Tc Call_pairs Call_keysets Call_told Cfrozen, b18, PySem.W.mg_of X G aC, v1, b1x, e0d⟩
  have KM__eq__ : MeK l.prog w K mg base CX0 C 1 "__eq__" ["self", "other"] (spEqK K C) f19 _ := ⟨⟨a19, i19, k19⟩, ok_eq F19 Ti.isinstance (PySem.W.mg_of X G aC) Tc Tk, b19⟩
  have KMclosed : MeK l.prog w K mg base (L2.CX l.prog w) C 4 "closed" ["self", "names"] (spClo K C Cn) f20 _ := ⟨⟨a20, i20, k20⟩, ok_closed F20 T Tc Ccheck_names, b20⟩
  have Ckeyset_text : Cal l.prog w K mg base 1 "keyset_text" ["keyset"] (spD K ktP) f21 _ := ⟨PySem.W.mg_of X G a21, k21, b21, ok_keyset_text F21⟩
  have Cnames_in_text : Cal l.prog w K mg base 3 "names_in_text" ["text"] (spD K niP) f22 _ := ⟨PySem.W.mg_of X G a22, k22, b22, ok_names_in_text F22 T Cis_name⟩
  have MS : MkS2 l.prog w K mg base Cs C Cn Ch Ct f23 _ ds3 := ⟨⟨⟨mkCs, a23, i23, kcCs⟩, ok_sinit F23 T Tc S HI TI KMclosed Cis_share Cis_salt, PySem.W.mg_of X G aCs, kw_mk fun us ws l1 l2 => match us, ws, l1, l2 with | [_, _, _, _], [_], _, _ => rfl⟩, v3, b3x, kw_sm fun _ _ _ _ _ => rfl⟩
  have PSschema : PrS l.prog w K mg base Cs 1 "schema" (spSch K Cs C) pschema f24 _ := ⟨⟨patschema, pgetschema, ptakschema, ⟨restschema, precschema⟩⟩, ok_schema F24 S, b24⟩
  have PSkeyset : PrS l.prog w K mg base Cs 1 "keyset" (spSm K Cs C skP) pkeyset f25 _ := ⟨⟨patkeyset, pgetkeyset, ptakkeyset, ⟨restkeyset, preckeyset⟩⟩, ok_skeyset F25 S, b25⟩
  have PSrate : PrS l.prog w K mg base Cs 1 "rate" (spSm K Cs C srP) prate f26 _ := ⟨⟨patrate, pgetrate, ptakrate, ⟨restrate, precrate⟩⟩, ok_srate F26 S, b26⟩
  have PSsalt : PrS l.prog w K mg base Cs 1 "salt" (spSm K Cs C stP') psalt f27 _ := ⟨⟨patsalt, pgetsalt, ptaksalt, ⟨restsalt, precsalt⟩⟩, ok_ssalt F27 S, b27⟩
  have PStext : PrS l.prog w K mg base Cs 2 "text" (spSm K Cs C smtP) ptext f28 _ := ⟨⟨pattext, pgettext, ptaktext, ⟨resttext, prectext⟩⟩, ok_stext F28 S Ckeyset_text Cshare_text, b28⟩
  have SM__eq__ : MeK l.prog w K mg base CX0 Cs 3 "__eq__" ["self", "other"] (spEqS K Cs C) f29 _ := ⟨⟨a29, i29, k29⟩, ok_seq F29 Ti.isinstance (PySem.W.mg_of X G aCs) S Tc Tk Tks_ KM__eq__, b29⟩
  have SMat : MeK l.prog w K mg base (L2.CX l.prog w) Cs 8 "at" ["self", "rate"] (spAt K Cs C Cn Ch Ct) f30 _ := ⟨⟨a30, i30, k30⟩, ok_sat F30 S MS.toMkS, b30⟩
  have Wat := kwm_mk (ps := ["self", "rate"]) (ks := ["rate"]) F30 1 fun _ _ _ _ _ _ us ws h1 h2 => match us, ws, h1, h2 with | [_], [_], _, _ => rfl
  have Csampler_parts : CalX l.prog w K mg base 4 "sampler_parts" ["text"] (spSp K Cb) f31 _ := ⟨PySem.W.mg_of X G a31, k31, b31, ok_sampler_parts F31 T BI Cwords_of Cnames_in_text Cshare_in Cis_salt⟩
  have OS : OfS l.prog w K mg base Cs C Cb Cn Ch Ct (.type "type") pof f32 _ := ⟨⟨ord, oga⟩, ⟨oat, ⟨restof, orec⟩, k32⟩, ok_sof F32 MS.toMkS Csampler_parts, b32⟩
  have C_law_box : Cal l.prog w K mg base 1 "_law_box" ["_law_script", "_law_k"] (spBox K) f33 _ := ⟨PySem.W.mg_of X G a33, k33, b33, ok_box F33 T Ti⟩
  have C_law_take : Cal l.prog w K mg base 1 "_law_take" ["_law_urn", "_law_low_so"] (spU K tkP) f34 _ := ⟨PySem.W.mg_of X G a34, k34, b34, ok_take F34 Ti⟩
  have C_law_cells : Cal l.prog w K mg base 1 "_law_cells" ["_law_script", "_law_top"] (spE K clE) f35 _ := ⟨PySem.W.mg_of X G a35, k35, b35, ok_cells F35 T Ti⟩
  have C_law_of : Cal l.prog w K mg base 2 "_law_of" ["_law_urn", "_law_some_so"] (spU K ofP) f36 _ := ⟨PySem.W.mg_of X G a36, k36, b36, ok_of F36 T C_law_take⟩
  have C_law_same : Cal l.prog w K mg base 4 "_law_same" ["_law_got", "_law_goal"] (spD K (smP 3)) f37 _ := ⟨PySem.W.mg_of X G a37, k37, b37, ok_same F37 T Ti (PySem.W.mg_of X G a37) k37 b37 3 (by decide)⟩
  have C_law_lists : Cal l.prog w K mg base 3 "_law_lists" ["_law_thing_so"] (spD K (liP 2)) f38 _ := ⟨PySem.W.mg_of X G a38, k38, b38, ok_lists F38 T Ti (PySem.W.mg_of X G a38) k38 b38 2⟩
  have C_law_mixed : Cal l.prog w K mg base 2 "_law_mixed" ["_law_urn", "_law_pool"] (spU K mxP) f39 _ := ⟨PySem.W.mg_of X G a39, k39, b39, ok_mixed F39 T Ti C_law_take⟩
  have C_law_few : Cal l.prog w K mg base 3 "_law_few" ["_law_urn", "_law_pool", "_law_most_so"] (spU K fwP) f40 _ := ⟨PySem.W.mg_of X G a40, k40, b40, ok_few F40 T Ti C_law_take C_law_mixed⟩
  have C_law_book : Cal l.prog w K mg base 3 "_law_book" ["_law_urn", "_law_most_so"] (spU K bkP) f41 _ := ⟨PySem.W.mg_of X G a41, k41, b41, ok_book F41 T Ti C_law_take C_law_mixed⟩
  have C_law_told : Cal l.prog w K mg base 1 "_law_told" ["_law_book_here"] (spR K (tdP K)) f42 _ := ⟨PySem.W.mg_of X G a42, k42, b42, ok_told F42 T Ti⟩
  have C_law_wide : Cal l.prog w K mg base 2 "_law_wide" ["_law_book_here", "_law_bag"] (spD K wdP) f43 _ := ⟨PySem.W.mg_of X G a43, k43, b43, ok_wide F43 T Ti C_law_told⟩
  have C_law_rate : Cal l.prog w K mg base 3 "_law_rate" ["_law_urn"] (spU K raP) f44 _ := ⟨PySem.W.mg_of X G a44, k44, b44, ok_rate F44 C_law_of⟩
  have C_law_rows : Cal l.prog w K mg base 4 "_law_rows" ["_law_urn", "_law_book_here", "_law_most_so"] (spU K rwP) f45 _ := ⟨PySem.W.mg_of X G a45, k45, b45, ok_rows F45 Ti C_law_take C_law_few C_law_rate C_law_of⟩
  have C_law_refused : Cal l.prog w K mg base 1 "_law_refused" ["_law_caught"] (spRf K Cn Ch Ct Cb) f46 _ := ⟨PySem.W.mg_of X G a46, k46, b46, ok_refused F46 Ti.isinstance RfK_⟩
  have C_law_heard : Cal l.prog w K mg base 9 "_law_heard" ["_law_keyring", "_law_bag", "_law_rate_so", "_law_salt_so", "_law_flat"] (spHs K C) f47 _ := ⟨PySem.W.mg_of X G a47, k47, b47, ok_heard F47 S Cs5_ RfK_ MS.toMkS OS PStext SMat C_law_refused⟩
  have C_law_by_hand_right : Cal l.prog w K mg base 10 "_law_by_hand_right" [] (spD K hbP) f48 _ := ⟨PySem.W.mg_of X G a48, k48, b48, ok_hand F48 T Tc Tk S Tks_ MK MS PSschema PSkeyset PSrate PSsalt PStext SMat SM__eq__ KM__eq__ C_law_heard C_law_same⟩
  have C_law_right : Cal l.prog w K mg base 11 "_law_right" ["_law_urn"] (spU K rtP) f49 _ := ⟨PySem.W.mg_of X G a49, k49, b49, ok_right F49 T Ti S Tks_ MK MS OS (kw_of fun _ _ => rfl) PSkeyset PSrate PSsalt PStext SMat Wat SM__eq__ C_law_by_hand_right C_law_book C_law_rows C_law_wide C_law_rate C_law_heard C_law_same C_law_take C_law_lists C_law_mixed⟩
  exact ok_law F50 T Ti C_law_cells C_law_box C_law_right
theorem walk {l : PySem.W.OpenLaw} {q : Program} {loose : List Str} {XP : (Str → Option Value) → Heap → Prop} {YP : World → Heap → Prop} {d : DefRec} {K : Params → PySem.W.Frag} (hn : l.most = some 63) (hdf : d.params.defaults = [])
    (hY : ∀ (w : World) (h : Heap), YP w h → (K w.params).In h)
    (F : ∀ (w : World) (mg : Str → Option Value) (fa : Addr) (h : Heap), (K w.params).In h → h.Ns mainGlobals mg → mg d.name = some (.ref fa) →
      ∃ fd : FuncData, (∀ (s : Shared) (u : Value), BindsTo s fd ⟨[u], []⟩ [("_law_script", u)]) ∧ ∀ base : Heap, (K w.params).In base → base.Ns mainGlobals mg → FnOk l.prog w (K w.params) mg base CX0 12 fa fd ["_law_script"] (spLaw (K w.params))) :
    PySem.W.WalkO q loose XP YP l.row.toRowW d [] (fun f vs => PySem.call f vs) :=
  L2.walk_of (n := 63) (k := 12) (x := "_law_script") (CX := fun _ => CX0) (sp := fun w => spLaw (K w.params)) hn (by decide) hdf ⟨rfl, by decide, by decide⟩ hY F (fun _ _ a ns hl _ hS => ⟨a, ns, rfl, hS, hl, fun _ => rfl⟩) fun _ _ _ _ _ z => z
end S5
open PySem PySem.W PyProof.Rows
set_option maxRecDepth 100000 in
set_option maxHeartbeats 0 in
theorem PySem.Challenge.cw_surershares_k06_samplers_holds : PySem.Challenge.rw_surershares_k06_samplers.Holds := by
  w_on; o_law; k_head; (case hw => w_witness2)
  k_fill
  refine S5.walk (l := PySem.Challenge.rw_surershares_k06_samplers) rfl rfl (fun w h Y => PySem.W.kIn_of Y) ?F
  case F =>
    intro w mg fa h KX G hmg
    refine' S5.all_mk KX G hmg ?aC ?aCs ?aCm ?a1 ?l1 ?c1 ?k1 ?a2 ?l2 ?c2 ?k2 ?a3 ?l3 ?c3 ?k3 ?a4 ?l4 ?c4 ?k4 ?a5 ?l5 ?c5 ?k5 ?a6 ?l6 ?c6 ?k6 ?a7 ?l7 ?c7 ?k7 ?a8 ?l8 ?c8 ?k8 ?agN ?a9 ?i9 ?l9 ?c9 ?k9 ?agB ?a10 ?i10 ?l10 ?c10 ?k10 ?agT ?a11 ?i11 ?l11 ?c11 ?k11 ?agH ?a12 ?i12 ?l12 ?c12 ?k12 ?a13 ?l13 ?c13 ?k13 ?a14 ?l14 ?c14 ?k14 ?a15 ?l15 ?c15 ?k15 ?a16 ?l16 ?c16 ?k16 ?a17 ?l17 ?c17 ?k17 ?a18 ?i18 ?l18 ?c18 ?k18 ?lT0 ?lE ?a19 ?i19 ?l19 ?c19 ?k19 ?a20 ?i20 ?l20 ?c20 ?k20 ?a21 ?l21 ?c21 ?k21 ?a22 ?l22 ?c22 ?k22 ?a23 ?i23 ?l23 ?c23 ?k23 ?lD0 ?patschema ?pgetschema ?ptakschema ?precschema ?l24 ?c24 ?k24 ?patkeyset ?pgetkeyset ?ptakkeyset ?preckeyset ?l25 ?c25 ?k25 ?patrate ?pgetrate ?ptakrate ?precrate ?l26 ?c26 ?k26 ?patsalt ?pgetsalt ?ptaksalt ?precsalt ?l27 ?c27 ?k27 ?pattext ?pgettext ?ptaktext ?prectext ?l28 ?c28 ?k28 ?a29 ?i29 ?l29 ?c29 ?k29 ?a30 ?i30 ?l30 ?c30 ?k30 ?a31 ?l31 ?c31 ?k31 ?oat ?orec ?ord ?oga ?l32 ?c32 ?k32 ?a33 ?l33 ?c33 ?k33 ?a34 ?l34 ?c34 ?k34 ?a35 ?l35 ?c35 ?k35 ?a36 ?l36 ?c36 ?k36 ?a37 ?l37 ?c37 ?k37 ?a38 ?l38 ?c38 ?k38 ?a39 ?l39 ?c39 ?k39 ?a40 ?l40 ?c40 ?k40 ?a41 ?l41 ?c41 ?k41 ?a42 ?l42 ?c42 ?k42 ?a43 ?l43 ?c43 ?k43 ?a44 ?l44 ?c44 ?k44 ?a45 ?l45 ?c45 ?k45 ?a46 ?l46 ?c46 ?k46 ?a47 ?l47 ?c47 ?k47 ?a48 ?l48 ?c48 ?k48 ?a49 ?l49 ?c49 ?k49 ?a50 ?l50 ?c50 ?k50 ?lN ?saN ?exN ?tyN ?kN ?no_N ?hdN ?gaN ?ggN ?caN ?hmN ?ssN ?kNB ?kNT ?kNH ?kNM ?lB ?saB ?exB ?tyB ?kB ?no_B ?hdB ?gaB ?ggB ?caB ?hmB ?ssB ?kBN ?kBT ?kBH ?kBM ?kvB ?lT ?saT ?exT ?tyT ?kT ?no_T ?hdT ?gaT ?ggT ?caT ?hmT ?ssT ?kTN ?kTB ?kTH ?kTM ?kvT ?lH ?saH ?exH ?tyH ?kH ?no_H ?hdH ?gaH ?ggH ?caH ?hmH ?ssH ?kHN ?kHB ?kHT ?kHM ?kvH ?exM ?hnN ?htN ?zVE ?aLet ?aDig ?aGcd ?ksCs ?nsCs ?haC ?hmC ?ktC ?ntC ?neC ?pgC ?hdC ?poC ?saC ?mkC ?kcC ?n1C ?n2C ?n3C ?n4C ?haCs ?hmCs ?ktCs ?ntCs ?neCs ?pgCs ?hdCs ?poCs ?saCs ?mkCs ?kcCs ?n1Cs ?n2Cs ?n3Cs ?n4Cs ?aI0 ?lI ?z_tuple ?z_list ?z_all ?z_any ?z_sorted ?z_set ?z_len ?z_int ?z_abs ?z_str ?z_dict ?z_bool ?z_range ?z_enumerate ?z_zip ?z_isinstance
    (case aC => first | k_is | kit_is)
    (case aCs => first | k_is | kit_is)
    (case aCm => first | k_is | kit_is)
    (case a1 => first | k_is | kit_is)
    (case l1 => first | k_is | kit_is)
    (case c1 => first | k_is | kit_is)
    (case k1 => first | k_is | kit_is)
    (case a2 => first | k_is | kit_is)
    (case l2 => first | k_is | kit_is)
    (case c2 => first | k_is | kit_is)
    (case k2 => first | k_is | kit_is)
    (case a3 => first | k_is | kit_is)
    (case l3 => first | k_is | kit_is)
    (case c3 => first | k_is | kit_is)
    (case k3 => first | k_is | kit_is)
    (case a4 => first | k_is | kit_is)
    (case l4 => first | k_is | kit_is)
    (case c4 => first | k_is | kit_is)
    (case k4 => first | k_is | kit_is)
    (case a5 => first | k_is | kit_is)
    (case l5 => first | k_is | kit_is)
    (case c5 => first | k_is | kit_is)
    (case k5 => first | k_is | kit_is)
    (case a6 => first | k_is | kit_is)
    (case l6 => first | k_is | kit_is)
    (case c6 => first | k_is | kit_is)
    (case k6 => first | k_is | kit_is)
    (case a7 => first | k_is | kit_is)
    (case l7 => first | k_is | kit_is)
    (case c7 => first | k_is | kit_is)
    (case k7 => first | k_is | kit_is)
    (case a8 => first | k_is | kit_is)
    (case l8 => first | k_is | kit_is)
    (case c8 => first | k_is | kit_is)
    (case k8 => first | k_is | kit_is)
    (case agN => first | k_is | kit_is)
    (case a9 => first | k_is | kit_is)
    (case i9 => first | k_is | kit_is)
    (case l9 => first | k_is | kit_is)
    (case c9 => first | k_is | kit_is)
    (case k9 => first | k_is | kit_is)
    (case agB => first | k_is | kit_is)
    (case a10 => first | k_is | kit_is)
    (case i10 => first | k_is | kit_is)
    (case l10 => first | k_is | kit_is)
    (case c10 => first | k_is | kit_is)
    (case k10 => first | k_is | kit_is)
    (case agT => first | k_is | kit_is)
    (case a11 => first | k_is | kit_is)
    (case i11 => first | k_is | kit_is)
    (case l11 => first | k_is | kit_is)
    (case c11 => first | k_is | kit_is)
    (case k11 => first | k_is | kit_is)
    (case agH => first | k_is | kit_is)
    (case a12 => first | k_is | kit_is)
    (case i12 => first | k_is | kit_is)
    (case l12 => first | k_is | kit_is)
    (case c12 => first | k_is | kit_is)
    (case k12 => first | k_is | kit_is)
    (case a13 => first | k_is | kit_is)
    (case l13 => first | k_is | kit_is)
    (case c13 => first | k_is | kit_is)
    (case k13 => first | k_is | kit_is)
    (case a14 => first | k_is | kit_is)
    (case l14 => first | k_is | kit_is)
    (case c14 => first | k_is | kit_is)
    (case k14 => first | k_is | kit_is)
    (case a15 => first | k_is | kit_is)
    (case l15 => first | k_is | kit_is)
    (case c15 => first | k_is | kit_is)
    (case k15 => first | k_is | kit_is)
    (case a16 => first | k_is | kit_is)
    (case l16 => first | k_is | kit_is)
    (case c16 => first | k_is | kit_is)
    (case k16 => first | k_is | kit_is)
    (case a17 => first | k_is | kit_is)
    (case l17 => first | k_is | kit_is)
    (case c17 => first | k_is | kit_is)
    (case k17 => first | k_is | kit_is)
    (case a18 => first | k_is | kit_is)
    (case i18 => first | k_is | kit_is)
    (case l18 => first | k_is | kit_is)
    (case c18 => first | k_is | kit_is)
    (case k18 => first | k_is | kit_is)
    (case lT0 => first | k_is | kit_is)
    (case lE => first | k_is | kit_is)
    (case a19 => first | k_is | kit_is)
    (case i19 => first | k_is | kit_is)
    (case l19 => first | k_is | kit_is)
    (case c19 => first | k_is | kit_is)
    (case k19 => first | k_is | kit_is)
    (case a20 => first | k_is | kit_is)
    (case i20 => first | k_is | kit_is)
    (case l20 => first | k_is | kit_is)
    (case c20 => first | k_is | kit_is)
    (case k20 => first | k_is | kit_is)
    (case a21 => first | k_is | kit_is)
    (case l21 => first | k_is | kit_is)
    (case c21 => first | k_is | kit_is)
    (case k21 => first | k_is | kit_is)
    (case a22 => first | k_is | kit_is)
    (case l22 => first | k_is | kit_is)
    (case c22 => first | k_is | kit_is)
    (case k22 => first | k_is | kit_is)
    (case a23 => first | k_is | kit_is)
    (case i23 => first | k_is | kit_is)
    (case l23 => first | k_is | kit_is)
    (case c23 => first | k_is | kit_is)
    (case k23 => first | k_is | kit_is)
    (case lD0 => first | k_is | kit_is)
    (case patschema => first | k_is | kit_is)
    (case pgetschema => first | k_is | kit_is)
    (case ptakschema => first | k_is | kit_is)
    (case precschema => first | k_is | kit_is)
    (case l24 => first | k_is | kit_is)
    (case c24 => first | k_is | kit_is)
    (case k24 => first | k_is | kit_is)
    (case patkeyset => first | k_is | kit_is)
    (case pgetkeyset => first | k_is | kit_is)
    (case ptakkeyset => first | k_is | kit_is)
    (case preckeyset => first | k_is | kit_is)
    (case l25 => first | k_is | kit_is)
    (case c25 => first | k_is | kit_is)
    (case k25 => first | k_is | kit_is)
    (case patrate => first | k_is | kit_is)
    (case pgetrate => first | k_is | kit_is)
    (case ptakrate => first | k_is | kit_is)
    (case precrate => first | k_is | kit_is)
    (case l26 => first | k_is | kit_is)
    (case c26 => first | k_is | kit_is)
    (case k26 => first | k_is | kit_is)
    (case patsalt => first | k_is | kit_is)
    (case pgetsalt => first | k_is | kit_is)
    (case ptaksalt => first | k_is | kit_is)
    (case precsalt => first | k_is | kit_is)
    (case l27 => first | k_is | kit_is)
    (case c27 => first | k_is | kit_is)
    (case k27 => first | k_is | kit_is)
    (case pattext => first | k_is | kit_is)
    (case pgettext => first | k_is | kit_is)
    (case ptaktext => first | k_is | kit_is)
    (case prectext => first | k_is | kit_is)
    (case l28 => first | k_is | kit_is)
    (case c28 => first | k_is | kit_is)
    (case k28 => first | k_is | kit_is)
    (case a29 => first | k_is | kit_is)
    (case i29 => first | k_is | kit_is)
    (case l29 => first | k_is | kit_is)
    (case c29 => first | k_is | kit_is)
    (case k29 => first | k_is | kit_is)
    (case a30 => first | k_is | kit_is)
    (case i30 => first | k_is | kit_is)
    (case l30 => first | k_is | kit_is)
    (case c30 => first | k_is | kit_is)
    (case k30 => first | k_is | kit_is)
    (case a31 => first | k_is | kit_is)
    (case l31 => first | k_is | kit_is)
    (case c31 => first | k_is | kit_is)
    (case k31 => first | k_is | kit_is)
    (case oat => first | k_is | kit_is)
    (case orec => first | k_is | kit_is)
    (case ord => first | k_is | kit_is)
    (case oga => first | k_is | kit_is)
    (case l32 => first | k_is | kit_is)
    (case c32 => first | k_is | kit_is)
    (case k32 => first | k_is | kit_is)
    (case a33 => first | k_is | kit_is)
    (case l33 => first | k_is | kit_is)
    (case c33 => first | k_is | kit_is)
    (case k33 => first | k_is | kit_is)
    (case a34 => first | k_is | kit_is)
    (case l34 => first | k_is | kit_is)
    (case c34 => first | k_is | kit_is)
    (case k34 => first | k_is | kit_is)
    (case a35 => first | k_is | kit_is)
    (case l35 => first | k_is | kit_is)
    (case c35 => first | k_is | kit_is)
    (case k35 => first | k_is | kit_is)
    (case a36 => first | k_is | kit_is)
    (case l36 => first | k_is | kit_is)
    (case c36 => first | k_is | kit_is)
    (case k36 => first | k_is | kit_is)
    (case a37 => first | k_is | kit_is)
    (case l37 => first | k_is | kit_is)
    (case c37 => first | k_is | kit_is)
    (case k37 => first | k_is | kit_is)
    (case a38 => first | k_is | kit_is)
    (case l38 => first | k_is | kit_is)
    (case c38 => first | k_is | kit_is)
    (case k38 => first | k_is | kit_is)
    (case a39 => first | k_is | kit_is)
    (case l39 => first | k_is | kit_is)
    (case c39 => first | k_is | kit_is)
    (case k39 => first | k_is | kit_is)
    (case a40 => first | k_is | kit_is)
    (case l40 => first | k_is | kit_is)
    (case c40 => first | k_is | kit_is)
    (case k40 => first | k_is | kit_is)
    (case a41 => first | k_is | kit_is)
    (case l41 => first | k_is | kit_is)
    (case c41 => first | k_is | kit_is)
    (case k41 => first | k_is | kit_is)
    (case a42 => first | k_is | kit_is)
    (case l42 => first | k_is | kit_is)
    (case c42 => first | k_is | kit_is)
    (case k42 => first | k_is | kit_is)
    (case a43 => first | k_is | kit_is)
    (case l43 => first | k_is | kit_is)
    (case c43 => first | k_is | kit_is)
    (case k43 => first | k_is | kit_is)
    (case a44 => first | k_is | kit_is)
    (case l44 => first | k_is | kit_is)
    (case c44 => first | k_is | kit_is)
    (case k44 => first | k_is | kit_is)
    (case a45 => first | k_is | kit_is)
    (case l45 => first | k_is | kit_is)
    (case c45 => first | k_is | kit_is)
    (case k45 => first | k_is | kit_is)
    (case a46 => first | k_is | kit_is)
    (case l46 => first | k_is | kit_is)
    (case c46 => first | k_is | kit_is)
    (case k46 => first | k_is | kit_is)
    (case a47 => first | k_is | kit_is)
    (case l47 => first | k_is | kit_is)
    (case c47 => first | k_is | kit_is)
    (case k47 => first | k_is | kit_is)
    (case a48 => first | k_is | kit_is)
    (case l48 => first | k_is | kit_is)
    (case c48 => first | k_is | kit_is)
    (case k48 => first | k_is | kit_is)
    (case a49 => first | k_is | kit_is)
    (case l49 => first | k_is | kit_is)
    (case c49 => first | k_is | kit_is)
    (case k49 => first | k_is | kit_is)
    (case a50 => first | k_is | kit_is)
    (case l50 => first | k_is | kit_is)
    (case c50 => first | k_is | kit_is)
    (case k50 => first | k_is | kit_is)
    (case lN => first | k_is | kit_is)
    (case saN => first | k_is | kit_is)
    (case exN => first | k_is | kit_is)
    (case tyN => first | k_is | kit_is)
    (case kN => first | k_is | kit_is)
    (case no_N => first | k_is | kit_is)
    (case hdN => first | k_is | kit_is)
    (case gaN => first | k_is | kit_is)
    (case ggN => first | k_is | kit_is)
    (case caN => first | k_is | kit_is)
    (case hmN => first | k_is | kit_is)
    (case ssN => first | k_is | kit_is)
    (case kNB => first | k_is | kit_is)
    (case kNT => first | k_is | kit_is)
    (case kNH => first | k_is | kit_is)
    (case kNM => first | k_is | kit_is)
    (case lB => first | k_is | kit_is)
    (case saB => first | k_is | kit_is)
    (case exB => first | k_is | kit_is)
    (case tyB => first | k_is | kit_is)
    (case kB => first | k_is | kit_is)
    (case no_B => first | k_is | kit_is)
    (case hdB => first | k_is | kit_is)
    (case gaB => first | k_is | kit_is)
    (case ggB => first | k_is | kit_is)
    (case caB => first | k_is | kit_is)
    (case hmB => first | k_is | kit_is)
    (case ssB => first | k_is | kit_is)
    (case kBN => first | k_is | kit_is)
    (case kBT => first | k_is | kit_is)
    (case kBH => first | k_is | kit_is)
    (case kBM => first | k_is | kit_is)
    (case kvB => first | k_is | kit_is)
    (case lT => first | k_is | kit_is)
    (case saT => first | k_is | kit_is)
    (case exT => first | k_is | kit_is)
    (case tyT => first | k_is | kit_is)
    (case kT => first | k_is | kit_is)
    (case no_T => first | k_is | kit_is)
    (case hdT => first | k_is | kit_is)
    (case gaT => first | k_is | kit_is)
    (case ggT => first | k_is | kit_is)
    (case caT => first | k_is | kit_is)
    (case hmT => first | k_is | kit_is)
    (case ssT => first | k_is | kit_is)
    (case kTN => first | k_is | kit_is)
    (case kTB => first | k_is | kit_is)
    (case kTH => first | k_is | kit_is)
    (case kTM => first | k_is | kit_is)
    (case kvT => first | k_is | kit_is)
    (case lH => first | k_is | kit_is)
    (case saH => first | k_is | kit_is)
    (case exH => first | k_is | kit_is)
    (case tyH => first | k_is | kit_is)
    (case kH => first | k_is | kit_is)
    (case no_H => first | k_is | kit_is)
    (case hdH => first | k_is | kit_is)
    (case gaH => first | k_is | kit_is)
    (case ggH => first | k_is | kit_is)
    (case caH => first | k_is | kit_is)
    (case hmH => first | k_is | kit_is)
    (case ssH => first | k_is | kit_is)
    (case kHN => first | k_is | kit_is)
    (case kHB => first | k_is | kit_is)
    (case kHT => first | k_is | kit_is)
    (case kHM => first | k_is | kit_is)
    (case kvH => first | k_is | kit_is)
    (case exM => first | k_is | kit_is)
    (case hnN => first | k_is | kit_is)
    (case htN => first | k_is | kit_is)
    (case zVE => first | k_is | kit_is)
    (case aLet => first | k_is | kit_is)
    (case aDig => first | k_is | kit_is)
    (case aGcd => first | k_is | kit_is)
    (case ksCs => first | k_is | kit_is)
    (case nsCs => first | k_is | kit_is)
    (case haC => first | k_is | kit_is)
    (case hmC => first | k_is | kit_is)
    (case ktC => first | k_is | kit_is)
    (case ntC => first | k_is | kit_is)
    (case neC => first | k_is | kit_is)
    (case pgC => first | k_is | kit_is)
    (case hdC => first | k_is | kit_is)
    (case poC => first | k_is | kit_is)
    (case saC => first | k_is | kit_is)
    (case mkC => first | k_is | kit_is)
    (case kcC => first | k_is | kit_is)
    (case n1C => first | k_is | kit_is)
    (case n2C => first | k_is | kit_is)
    (case n3C => first | k_is | kit_is)
    (case n4C => first | k_is | kit_is)
    (case haCs => first | k_is | kit_is)
    (case hmCs => first | k_is | kit_is)
    (case ktCs => first | k_is | kit_is)
    (case ntCs => first | k_is | kit_is)
    (case neCs => first | k_is | kit_is)
    (case pgCs => first | k_is | kit_is)
    (case hdCs => first | k_is | kit_is)
    (case poCs => first | k_is | kit_is)
    (case saCs => first | k_is | kit_is)
    (case mkCs => first | k_is | kit_is)
    (case kcCs => first | k_is | kit_is)
    (case n1Cs => first | k_is | kit_is)
    (case n2Cs => first | k_is | kit_is)
    (case n3Cs => first | k_is | kit_is)
    (case n4Cs => first | k_is | kit_is)
    (case aI0 => first | k_is | kit_is)
    (case lI => first | k_is | kit_is)
    (case z_tuple => first | k_is | kit_is)
    (case z_list => first | k_is | kit_is)
    (case z_all => first | k_is | kit_is)
    (case z_any => first | k_is | kit_is)
    (case z_sorted => first | k_is | kit_is)
    (case z_set => first | k_is | kit_is)
    (case z_len => first | k_is | kit_is)
    (case z_int => first | k_is | kit_is)
    (case z_abs => first | k_is | kit_is)
    (case z_str => first | k_is | kit_is)
    (case z_dict => first | k_is | kit_is)
    (case z_bool => first | k_is | kit_is)
    (case z_range => first | k_is | kit_is)
    (case z_enumerate => first | k_is | kit_is)
    (case z_zip => first | k_is | kit_is)
    (case z_isinstance => first | k_is | kit_is)
